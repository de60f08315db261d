import PyProof.Rows.All
import Wide.All
import OpenK.AllK
import Wide.FinOn
import PySem.Challenge.RW_evensamples_k84_whole_weights_or_a_blind
import HandS.ForMost
import HandS.Wide
import HandS.More
import HandS.Set
import HandS.SetBool
import HandS.SetFor
import HandS.TupSets
import HandS.IsInst
import HandS.TupAny
import HandS.TupMul
import HandS.DictComp
import HandS.Conv
import HandS.WideBits
import HandS.Zip
import HandS.Walk
import HandS.Iter
import KE.GoesMore
import KE.KDictZip
import KE.GoesZip
import PyProof.CollectWalk
import PyProof.NeKinds
import PyProof.EqKinds
import PyProof.FactsAll.dict
import KE.KEqNest
import PyProof.FactsAll.int
import PyProof.FactsAll.str_1
import PyProof.LongRange
import PyProof.Rows.IntBool
import PyProof.CallStr
import PyProof.PureInt
import HandS.Style
import PyProof.ReprBulk
import PyProof.SumWalkG
import PyProof.WalksMore
import PyProof.Rows.SortShellAny
set_option Elab.async false
set_option linter.all false
set_option maxRecDepth 100000
set_option maxHeartbeats 4000000
/-! ## Promises of defs that are called while no repr is under way -/
namespace Ev
open PySem PySem.Spec PyProof.Rows L2

/-- the promise of a def, for a stack without a repr that is under way -/
structure FnG (P : Program) (w : World) (K : PySem.W.Frag) (mg : Str → Option Value)
    (base : Heap) (CX : CXT) (k : Nat) (f : Addr) (fd : FuncData) (ps : List Str) (sp : Sp) : Prop where
  many : ∀ vs H Q E, sp vs H Q E → vs.length = ps.length
  go : ∀ (A : Around) (outer : List Env) (s : Shared) (H : Hp) (args : Args)
      (us : List Value) (vs : List V) (Q : VK) (E : XK),
    Room k A → A.guards = some [] → Env0 P w K mg base A outer s H → BindsTo s fd args (ps.zip us) →
      Vals vs us → sp vs H Q E → codeAny (model P w) A (.call (.ref f) args) (CR CX outer P w H s Q E) s

section
variable {P : Program} {w : World} {K : PySem.W.Frag} {mg : Str → Option Value} {base : Heap} {CX : CXT}
variable {k : Nat} {f : Addr} {fd : FuncData} {ps : List Str} {sp : Sp}
theorem FnG.of (F : FnOk P w K mg base CX k f fd ps sp) : FnG P w K mg base CX k f fd ps sp :=
  ⟨F.len, fun A o s H args us vs Q E hr _ => F.run A o s H args us vs Q E hr⟩
theorem FnG.up {j : Nat} (F : FnG P w K mg base CX j f fd ps sp) (h : j ≤ k) : FnG P w K mg base CX k f fd ps sp :=
  ⟨F.many, fun A o s H args us vs Q E hr => F.go A o s H args us vs Q E (hr.mono h)⟩
end

section
variable {X : Cx} {CX : CXT} {k : Nat} {f : Addr} {fd : FuncData} {ps : List Str} {sp : Sp}
variable {dvs : List V} {ds : List Value} {E : XK} {x : Str} {p pos : Pos} {e : Expr} {es : List Expr} {t : TA}
theorem runG {pins : List (Addr × Obj)} {σ : L2.St} {H : Hp} {s : Shared} {Q : VK} {us : List Value} {vs : List V}
    (F : FnG X.prog X.w X.K X.mg X.base CX k f fd ps sp) (hr : Room k X.A) (gd : X.A.guards = some [])
    (hb : Binds X.K fd ps ds) (hd : Vals dvs ds) (hx : Passes CX X E) (I : Inv X pins σ H s) (r : Vals vs us)
    (h : sp (vs ++ dvs) H Q E) : wpAny (model X.prog X.w) X.A (call (.ref f) us) (EP X pins σ Q) X.xe s := by
  have rr : Vals (vs ++ dvs) (us ++ ds) := r.append hd
  have hl : (us ++ ds).length = ps.length := rr.length.symm.trans (F.many _ _ _ _ h)
  have z := F.go X.A X.stack s H ⟨us, []⟩ (us ++ ds) (vs ++ dvs) Q E hr gd I.env0 (hb s us I.kIn hl) rr h
  refine wpAny_call (codeAny_mono z fun res s' hq => ?_)
  match res, hq with
  | .error e, hq => exact hx pins σ H s e s' I hq
  | .ok (.ret u), hq => exact I.after hq
  | .ok .next, hq => exact False.elim hq
  | .ok .brk, hq => exact False.elim hq
  | .ok .cont, hq => exact False.elim hq
theorem pe_callG (F : FnG X.prog X.w X.K X.mg X.base CX k f fd ps sp) (hr : Room k X.A) (gd : X.A.guards = some [])
    (hg : Gl X x) (hm : X.mg x = some (.ref f)) (hk : PySem.W.keepIn X.K (.ref f) = true) (hb : Binds X.K fd ps ds)
    (hd : Vals dvs ds) (hx : Passes CX X E) (ha : PA X (e :: es) t)
    (hdb : (x == ("__debug__" : Str)) = false := by decide)
    (he : starEach (e :: es) X.env = (false, eval e X.env) :: starEach es X.env := by rfl)
    (hpl : (backTo pos (starEach es X.env)).any (·.1) = false := by rfl) :
    PE X (.Call (.Name x p) (e :: es) [] pos) (tCall sp dvs E t) := by
  constructor
  intro pins s σ H Q I h
  refine wpAny_Call_Name_kw (ld_glob I hg hm ?_ hdb)
  have z := ha.run pos pins s σ H _ I h
  refine PySem.W.callWith_K (h₀ := X.base) I.ok.mod.kin hk (thn z ?_) he hpl
  rintro us s1 ⟨vs, H1, I1, r, q⟩
  exact ⟨I1.kIn, runG F hr gd hb hd hx I1 r q⟩
theorem pe_callG0 (F : FnG X.prog X.w X.K X.mg X.base CX k f fd ps sp) (hr : Room k X.A) (gd : X.A.guards = some [])
    (hg : Gl X x) (hm : X.mg x = some (.ref f)) (hk : PySem.W.keepIn X.K (.ref f) = true) (hb : Binds X.K fd ps ds)
    (hd : Vals dvs ds) (hx : Passes CX X E) (hdb : (x == ("__debug__" : Str)) = false := by decide) :
    PE X (.Call (.Name x p) [] [] pos) (tCall sp dvs E tNil) := by
  constructor
  intro pins s σ H Q I h
  refine wpAny_Call_Name_kw (ld_glob I hg hm ?_ hdb)
  have z := runG (us := []) F hr gd hb hd hx I .nil h
  exact PySem.W.callWith_K0 I.kIn hk z
end

/-- a def by its body -/
theorem fnG_of {CX : CXT} {P : Program} {w : World} {K : PySem.W.Frag} {mg : Str → Option Value} {base : Heap}
    {k : Nat} {f : Addr} {name qual : Str} {params : Arguments} {body : List Stmt} {scope : Scope}
    {dV kV doc pm cdv ct oc : Value} {an od : Option Addr} {osl : Array (Option Value)} {N ps : List Str} {sp : Sp}
    (lk : K.lookup f = some ⟨oc, od, .func (PySem.W.fnOf name qual params body scope dV kV doc pm an cdv ct), osl⟩)
    (hcd : PySem.W.codeIn K cdv qual = true) (S : FnScope N ps scope)
    (len : ∀ vs H Q E, sp vs H Q E → vs.length = ps.length)
    (hbody : ∀ (A : Around) (outer : List Env) (s : Shared) (H : Hp) (vs : List V) (Q : VK) (E : XK),
      Room k (A.deeper (envOfC qual scope s.heap.objs.size f cdv)) → A.guards = some [] → sp vs H Q E →
      ∃ t, PSs (cxOf CX P w K mg base N qual scope f cdv A outer s H E) body t ∧
        t { nx := fun _ H' => Q .non H', rt := Q } (start N vs) H) :
    FnG P w K mg base CX (k + 1) f (PySem.W.fnOf name qual params body scope dV kV doc pm an cdv ct) ps sp := by
  constructor
  · exact len
  intro A outer s H args us vs Q E hr gd e0 hb r hsp
  have old : ∀ b o, base.get? b = some o → s.heap.get? b = some o := fun b o e => (e0.bs b o e).1
  have KX : K.In s.heap := e0.mod.kin.keeps old
  have lim : s.heap.NoLimit := e0.mod.nolimit.keeps old
  have hkind : ∀ y ∈ ps.zip us, scope.names.lookup y.1 = some .local ∨
      (scope.names.lookup y.1 = some .cell ∧
        ((cellsFrom (s.heap.objs.size + 1) scope.names []).lookup y.1).isSome = true) := by
    rintro ⟨n, v⟩ hy
    have hn := (List.of_mem_zip hy).1
    rcases S.par n hn with q | q
    · exact Or.inl q
    · exact Or.inr ⟨q, PySem.W.cellsFrom_some _ _ _ (Or.inl q)⟩
  refine codeAny_call_function hr.depth (KX _ _ lk) rfl S.co S.gen rfl (PySem.W.codeRec_of KX hcd) (hb _ _ _ _ ?_)
  refine wpAny_newFunctionEnv_cells S.kind hkind ?_
  rintro env rfl s1 x
  refine ⟨lim.keeps x.toInCall.keep, codeAny_func ?_⟩
  obtain ⟨t, ht, hq⟩ := hbody A outer s H vs Q E (hr.deeper _) gd hsp
  have I := inv_start (CX := CX) (E := E) S hr.hd e0 (len _ _ _ _ hsp) r x
  refine wpAny_mono (ht.run [] s1 (start N vs) H _ I hq) ?_ (fun _ _ z => z)
  intro fl s' hs
  match fl, hs with
  | .ret u, ⟨v, σ', H', J, rv, q⟩ => exact ⟨v, H', J.os, J.bare, J.base, J.hok, rv, q⟩
  | .next, ⟨σ', H', J, q⟩ => exact ⟨V.non, H', J.os, J.bare, J.base, J.hok, rfl, q⟩
  | .brk, ⟨_, _, _, q⟩ => exact False.elim q
  | .cont, ⟨_, _, _, q⟩ => exact False.elim q

section
variable {P : Program} {w : World} {K : PySem.W.Frag} {mg : Str → Option Value} {base : Heap}
theorem okG {x qual : Str} {st : Stmt} {f : Addr} {fd : FuncData} {N ps : List Str} {k : Nat} {sp : Sp}
    (F : Fun K x qual st f fd) (S : FnScope N ps (defScope st))
    (len : ∀ vs H Q E, sp vs H Q E → vs.length = ps.length)
    (hbody : ∀ (cdv : Value) (A : Around) (outer : List Env) (s : Shared) (H : Hp) (vs : List V) (Q : VK) (E : XK),
      Room k (A.deeper (envOfC qual (defScope st) s.heap.objs.size f cdv)) → A.guards = some [] → sp vs H Q E →
      ∃ t, PSs (cxOf CX0 P w K mg base N qual (defScope st) f cdv A outer s H E).nox (defBody st) t ∧
        t { nx := fun _ H' => Q .non H', rt := Q } (start N vs) H) :
    FnG P w K mg base CX0 (k + 1) f fd ps sp := by
  obtain ⟨oc, od, kV, doc, pm, an, cdv, ct, osl, e, lk, hcd⟩ := F.ex
  subst e
  refine fnG_of lk hcd S len ?_
  intro A outer s H vs Q E hr gd hsp
  obtain ⟨t, h, q⟩ := hbody cdv A outer s H vs Q E hr gd hsp
  exact ⟨t, h.nox, q⟩
end

/-! ### the end of a law, by such a promise -/
theorem law_end {P : Program} {w : World} {K : PySem.W.Frag} {mg mb : Str → Option Value} {CX : CXT} {k : Nat}
    {fa a : Addr} {fd : FuncData} {x : Str} {sp : Sp} {s₁ : Shared} {vs : List Value} {ns : List Int}
    (KX : K.In s₁.heap) (hns : s₁.heap.Ns mainGlobals mg) (hb : s₁.heap.Ns builtinsNs mb)
    (hbb : ∀ x : Str, x ≠ "__name__" → mb x = bootBuiltins x) (hlim : s₁.heap.NoLimit) (hg : s₁.gens = #[])
    (ha : s₁.heap.get? a = some { cls := .type "list", data := .seq vs.toArray }) (hi : IntsAre vs ns)
    (hl : ns.length ≤ sizeLine) (hr : Room k callerA) (hsm : ∃ mm, s₁.heap.Ns sysModules mm)
    (F : ∀ base : Heap, K.In base → base.Ns mainGlobals mg → (∃ mm, base.Ns sysModules mm) → FnG P w K mg base CX k fa fd [x] sp)
    (hbind : ∀ (s : Shared) (u : Value), BindsTo s fd ⟨[u], []⟩ [(x, u)])
    (hsp : ∀ H : Hp, Only H → SqL K H a (ns.map V.int) → sp [.ref a] H (fun v _ => v = .bl true) fun _ _ _ => False)
    (hCX : ∀ H e s', CX [] H s₁ (fun _ _ _ => False) e s' → False) :
    codeAny (model P w) callerA (.call (.ref fa) ⟨[.ref a], []⟩)
      (fun r s' => r = .ok (.ret (.bool true)) ∧ OldK s₁.heap s'.heap ∧ s'.os = s₁.os ∧ AllBare s'.gens) s₁ := by
  have rv := vals_ints hi
  have lenV := hi.length
  have core : ∀ H : Hp, Only H → SqL K H a (ns.map V.int) → HOk P w H s₁.heap → (∀ b, H b ≠ none → b = a) →
      (H a ≠ none → K.lookup a = none) →
      codeAny (model P w) callerA (.call (.ref fa) ⟨[.ref a], []⟩)
        (fun r s' => r = .ok (.ret (.bool true)) ∧ OldK s₁.heap s'.heap ∧ s'.os = s₁.os ∧ AllBare s'.gens) s₁ := by
    intro H hO hS hok hA hK
    have at_a : ∀ {b : Addr} {u : HO}, H b = some u → b = a := fun {b u} q => hA b (by rw [q]; simp)
    have noA : ∀ {b : Addr} {o : Obj} {es : Array DictEntry} {ep : Nat}, s₁.heap.get? b = some o →
        o.data = .dict es ep → H b = none := by
      intro b o es ep e d
      cases q : H b with
      | none => rfl
      | some u =>
        rw [at_a q, ha] at e
        cases e
        exact nomatch d
    have nsK : ∀ {b : Addr} {m : Str → Option Value}, s₁.heap.Ns b m → (hidT s₁.heap H).Ns b m := by
      rintro b m ⟨o, es, ep, e, d, r⟩
      exact ⟨o, es, ep, hidT_get e (noA e d), d, r⟩
    have hKb : K.In (hidT s₁.heap H) := by
      intro b o e
      refine hidT_get (KX b o e) ?_
      cases q : H b with
      | none => rfl
      | some u =>
        have e' := at_a q
        subst e'
        rw [hK (by rw [q]; simp)] at e
        cases e
    have hM : Mod K mg (hidT s₁.heap H) := by
      obtain ⟨mc, h1, h2⟩ := hlim
      exact ⟨hKb, nsK hns, ⟨mb, nsK hb, hbb⟩, ⟨mc, nsK h1, h2⟩⟩
    have e0 : Env0 P w K mg (hidT s₁.heap H) callerA [] s₁ H := by
      refine ⟨rfl, hM, fun b o e => of_hidT e, Nat.le_of_eq (hidT_size _ _), trivial, ?_, hok, .of_eq hg⟩
      intro b hb
      exact absurd (show b ∈ ([] : List Addr) from hb) (by simp)
    have hmods : ∃ mm, (hidT s₁.heap H).Ns sysModules mm := by
      obtain ⟨mm, h1⟩ := hsm
      exact ⟨mm, nsK h1⟩
    have z := (F _ hKb (nsK hns) hmods).go callerA [] s₁ H ⟨[.ref a], []⟩ [.ref a] [.ref a] _ _ hr rfl e0
      (hbind s₁ (.ref a)) (.cons rfl .nil) (hsp H hO hS)
    refine codeAny_mono z fun r s' h => ?_
    match r, h with
    | .error e, h => exact (hCX H e s' h).elim
    | .ok .next, h => exact False.elim h
    | .ok .brk, h => exact False.elim h
    | .ok .cont, h => exact False.elim h
    | .ok (.ret u), ⟨v, H', os, bare, un, hok', r', q⟩ =>
      have q' : v = .bl true := q
      subst q'
      obtain rfl : u = Value.bool true := r'
      refine ⟨rfl, OldK.of_keep ?_, os, bare⟩
      intro b o e
      cases q : H b with
      | none =>
        refine un.keep b o e q ?_ (by simp)
        intro z
        exact absurd (show b ∈ ([] : List Addr) from z) (by simp)
      | some u =>
        rcases hO b with z | ⟨ob, xs, z⟩
        · rw [q] at z
          cases z
        · obtain ⟨e1, _⟩ := hok b _ z
          obtain ⟨e2, _⟩ := hok' b _ (un.frzs b ob _ z)
          rw [e] at e1
          cases e1
          exact e2
  cases hk : K.lookup a with
  | some o =>
    have e := KX a o hk
    rw [ha] at e
    cases e
    refine core (fun _ => none) (fun _ => Or.inl rfl) (Or.inr ⟨_, vs.toArray, _, hk, rfl, rfl, rfl, ?_, ?_⟩) ?_ ?_ ?_
    · rw [List.size_toArray, lenV]
      exact hl
    · simpa using rv
    · intro b u z
      cases (show (none : Option HO) = some u from z)
    · intro b z
      exact absurd rfl z
    · intro z
      exact absurd rfl z
  | none =>
    let o₁ : Obj := { cls := .type "list", data := .seq vs.toArray }
    let H₁ : Hp := fun b => if b = a then some (.frz o₁ (.lst (ns.map V.int))) else none
    have at1 : H₁ a = some (.frz o₁ (.lst (ns.map V.int))) := if_pos rfl
    have off : ∀ b, b ≠ a → H₁ b = none := fun b h => if_neg h
    refine core H₁ (fun b => ?_) (Or.inl (Or.inr ⟨o₁, at1⟩)) (fun b u z => ?_) (fun b z => ?_) fun _ => hk
    · by_cases hb : b = a
      · subst hb
        exact Or.inr ⟨_, _, at1⟩
      · exact Or.inl (off b hb)
    · by_cases hb : b = a
      · subst hb
        rw [at1] at z
        cases z
        refine ⟨ha, ?_, vs, _, rv, ha⟩
        rw [List.length_map]
        exact hl
      · rw [off b hb] at z
        cases z
    · by_cases hb : b = a
      · exact hb
      · exact absurd (off b hb) z

theorem walkG {l : PySem.W.OpenLaw} {n k : Nat} {q : Program} {loose : List Str} {XP : (Str → Option Value) → Heap → Prop}
    {YP : World → Heap → Prop} {d : DefRec} {K : Params → PySem.W.Frag} {CX : CXT} {sp : PySem.W.Frag → Sp} {x : Str}
    (hq : importsNone q = true) (hn : l.most = some n) (hn2 : n ≤ sizeLine) (hdf : d.params.defaults = []) (hr : Room k callerA)
    (hY : ∀ (w : World) (h : Heap), YP w h → (K w.params).In h)
    (F : ∀ (w : World) (mg : Str → Option Value) (fa : Addr) (h : Heap), (K w.params).In h → h.Ns mainGlobals mg →
      mg d.name = some (.ref fa) →
      ∃ fd : FuncData, (∀ (s : Shared) (u : Value), BindsTo s fd ⟨[u], []⟩ [(x, u)]) ∧
        ∀ base : Heap, (K w.params).In base → base.Ns mainGlobals mg → (∃ mm, base.Ns sysModules mm) →
          FnG l.prog w (K w.params) mg base CX k fa fd [x] (sp (K w.params)))
    (hsp : ∀ (K : PySem.W.Frag) (H : Hp) (a : Addr) (ns : List Int), ns.length ≤ n → Only H →
      SqL K H a (ns.map V.int) → sp K [.ref a] H (fun v _ => v = .bl true) fun _ _ _ => False)
    (hCX : ∀ (H : Hp) (s : Shared) (e : Value) (s' : Shared), CX [] H s (fun _ _ _ => False) e s' → False) :
    PySem.W.WalkO q loose XP YP l.row.toRowW d [] (fun f vs => PySem.call f vs) := by
  refine Att.attach_call hn hdf ?_
  intro w s₀ s₁ mg mb fa o pm cd doc a vs ns G Y ho hd hcd hmg hobj hints hlen hg
  have KX := hY w _ Y
  obtain ⟨fd, hb, hF⟩ := F w mg fa _ KX G.T.g hmg
  have hz := Nat.le_trans hlen hn2
  obtain ⟨mm, hmm, _⟩ := (G.T.seer hq).mods
  refine law_end KX G.T.g G.T.b G.T.builtins G.T.nolimit hg hobj hints hz hr ⟨mm, hmm⟩ hF hb ?_ ?_
  · exact fun H hO hS => hsp _ H a ns hlen hO hS
  · exact fun H e s' => hCX H s₁ e s'

/-! ### powers of great numbers -/
def CPowG (i j : Int) : Prop := 0 ≤ j ∧ (Builtin.Int.intBits i : Int) * j ≤ 2 ^ 27
theorem op_powG {X : Cx} : OpR X (binaryOp .Pow) (rI CPowG fun i j => .int (i ^ j.toNat)) :=
  opI fun _ _ _ _ _ _ _ hc q => pow_int hc.1 hc.2 q

/-! ### data at any depth, dicts among them -/
def kD : Key → PyData
  | .inl i => .int i
  | .inr x => .str x
mutual
inductive Da (K : PySem.W.Frag) (H : Hp) : V → PyData → Prop
  | non : Da K H .non .none
  | bl (b : Bool) : Da K H (.bl b) (.bool b)
  | int (i : Int) : Da K H (.int i) (.int i)
  | str (x : Str) : Da K H (.str x) (.str x)
  | lst {a : Addr} {xs : List V} {ds : List PyData} (h : SqL K H a xs) (t : DaAll K H xs ds) : Da K H (.ref a) (.list ds)
  | tup {a : Addr} {xs : List V} {ds : List PyData} (h : SqT K H a xs) (t : DaAll K H xs ds) : Da K H (.ref a) (.tuple ds)
  | dic {a : Addr} {kvs : List (Key × V)} {ds : List (PyData × PyData)} (h : H a = some (.dK kvs)) (t : DaKv K H kvs ds) : Da K H (.ref a) (.dict ds)
inductive DaAll (K : PySem.W.Frag) (H : Hp) : List V → List PyData → Prop
  | nil : DaAll K H [] []
  | cons {v : V} {vs : List V} {d : PyData} {ds : List PyData} (h : Da K H v d) (t : DaAll K H vs ds) : DaAll K H (v :: vs) (d :: ds)
inductive DaKv (K : PySem.W.Frag) (H : Hp) : List (Key × V) → List (PyData × PyData) → Prop
  | nil : DaKv K H [] []
  | cons {k : Key} {v : V} {kvs : List (Key × V)} {d : PyData} {ds : List (PyData × PyData)} (h : Da K H v d) (t : DaKv K H kvs ds) :
      DaKv K H ((k, v) :: kvs) ((kD k, d) :: ds)
end
section
variable {K : PySem.W.Frag} {H H' : Hp}
theorem seqT_mono (s : Same H H') {a : Addr} {xs : List V} (h : SqT K H a xs) : SqT K H' a xs := by
  rcases h with (e | ⟨o, e⟩) | e
  · exact .inl (.inl (s _ _ e))
  · exact .inl (.inr ⟨o, s _ _ e⟩)
  · exact .inr e
mutual
theorem Da.mono (s : Same H H') : ∀ {v : V} {d : PyData}, Da K H v d → Da K H' v d
  | _, _, .non => .non
  | _, _, .bl b => .bl b
  | _, _, .int i => .int i
  | _, _, .str x => .str x
  | _, _, .lst h t => .lst (s.seq h) (DaAll.mono s t)
  | _, _, .tup h t => .tup (seqT_mono s h) (DaAll.mono s t)
  | _, _, .dic h t => .dic (s _ _ h) (DaKv.mono s t)
theorem DaAll.mono (s : Same H H') : ∀ {vs : List V} {ds : List PyData}, DaAll K H vs ds → DaAll K H' vs ds
  | _, _, .nil => .nil
  | _, _, .cons h t => .cons (Da.mono s h) (DaAll.mono s t)
theorem DaKv.mono (s : Same H H') : ∀ {vs : List (Key × V)} {ds : List (PyData × PyData)}, DaKv K H vs ds → DaKv K H' vs ds
  | _, _, .nil => .nil
  | _, _, .cons h t => .cons (Da.mono s h) (DaKv.mono s t)
end
end
section
variable {X : Cx} {pins : List (Addr × Obj)} {σ : L2.St} {H : Hp} {s : Shared}
theorem key_reads {h : Heap} {k : Key} {u : Value} (e : keyIs k u = true) : Reads h u (kD k) [] := by
  rcases keyIs_shape e with ⟨i, t, rfl, rfl⟩ | ⟨x, t, rfl, rfl⟩
  · exact .int i t
  · exact .str x t
/-- a list does not stand where the modules' dict stands -/
theorem not_mods (hm : ∃ mm, X.base.Ns sysModules mm) (I : Inv X pins σ H s) {a : Addr} {o : Obj} {vs : Array Value} {n : Nat}
    (ho : s.heap.get? a = some o) (hd : o.data = .seq vs n) : sysModules ≠ a := by
  rintro rfl
  obtain ⟨mm, om, es, ep, e1, e2, _⟩ := hm
  have e3 := I.bk _ _ e1
  rw [ho] at e3
  cases e3
  rw [hd] at e2
  cases e2
mutual
theorem Da.reads (hm : ∃ mm, X.base.Ns sysModules mm) (I : Inv X pins σ H s) : ∀ (d : PyData) (v : V) (u : Value), Da X.K H v d → RelV v u → ∃ as, Reads s.heap u d as ∧ sysModules ∉ as
  | .none, _, _, h, r => by
    cases h
    cases r
    exact ⟨_, .none, by simp⟩
  | .bool b, _, _, h, r => by
    cases h
    cases r
    exact ⟨_, .bool b, by simp⟩
  | .int i, _, _, h, r => by
    cases h
    obtain ⟨t, rfl⟩ := r
    exact ⟨_, .int i t, by simp⟩
  | .str x, _, _, h, r => by
    cases h
    obtain ⟨t, rfl⟩ := r
    exact ⟨_, .str x t, by simp⟩
  | .list ds, _, _, h, r => by
    cases h with
    | lst hs ha =>
      cases r
      obtain ⟨its, rv, ⟨o, n, ho, hc, _, hd⟩, _⟩ := I.list hs
      obtain ⟨as, hr, no⟩ := Da.readsAll hm I ds _ its ha rv
      refine ⟨_, .list ho hc hd hr, ?_⟩
      rw [List.mem_cons, not_or]
      exact ⟨not_mods hm I ho hd, no⟩
  | .tuple ds, _, _, h, r => by
    cases h with
    | tup hs ha =>
      cases r
      obtain ⟨its, rv, ⟨o, ho, hc, n, hd⟩, _⟩ := I.tuple hs
      obtain ⟨as, hr, no⟩ := Da.readsAll hm I ds _ its ha rv
      exact ⟨_, .tuple ho hc hd hr, no⟩
  | .dict ds, _, _, h, r => by
    cases h with
    | @dic a kvs _ he hk =>
      cases r
      have ok : ObjOk X.prog X.w H s.heap a (.dK kvs) := I.hok a _ he
      obtain ⟨_, ns, vs, kv, o, es, ep, ho, ex, hd, _, ps, _⟩ := ok
      obtain ⟨as, bs, h1, h2, n1, n2⟩ := Da.readsKv hm I ds kvs vs es.toList hk kv ps
      refine ⟨_, .dict ho ex.1 hd h1 h2, ?_⟩
      rw [List.mem_append, List.mem_cons, not_or, not_or]
      refine ⟨⟨fun z => ?_, n1⟩, n2⟩
      rw [← z] at ns
      exact absurd ns (by decide)
theorem Da.readsAll (hm : ∃ mm, X.base.Ns sysModules mm) (I : Inv X pins σ H s) : ∀ (ds : List PyData) (vs : List V) (us : List Value), DaAll X.K H vs ds → Vals vs us → ∃ as, ReadsAll s.heap us ds as ∧ sysModules ∉ as
  | [], _, _, h, r => by
    cases h
    cases r
    exact ⟨_, .nil, by simp⟩
  | d :: ds, _, _, h, r => by
    cases h with
    | cons h1 h2 =>
      cases r with
      | cons r1 r2 =>
        obtain ⟨as, q1, n1⟩ := Da.reads hm I d _ _ h1 r1
        obtain ⟨bs, q2, n2⟩ := Da.readsAll hm I ds _ _ h2 r2
        refine ⟨_, .cons q1 q2, ?_⟩
        rw [List.mem_append, not_or]
        exact ⟨n1, n2⟩
theorem Da.readsKv (hm : ∃ mm, X.base.Ns sysModules mm) (I : Inv X pins σ H s) : ∀ (ds : List (PyData × PyData)) (kvs : List (Key × V)) (vs : List (Key × Value)) (es : List DictEntry), DaKv X.K H kvs ds → KV kvs vs →
    Pairs (mixKind X.prog X.w) es vs → ∃ as bs, ReadsAll s.heap (es.map (·.key)) (ds.map (·.1)) as ∧ ReadsAll s.heap (es.map (·.val)) (ds.map (·.2)) bs ∧ sysModules ∉ as ∧ sysModules ∉ bs
  | [], _, _, _, h, r, p => by
    cases h
    cases r
    cases p
    exact ⟨_, _, .nil, .nil, by simp, by simp⟩
  | d :: ds, _, _, _, h, r, p => by
    cases h with
    | cons h1 h2 =>
      cases r with
      | cons r1 r2 =>
        cases p with
        | cons p1 p2 p3 =>
          obtain ⟨e1, e2⟩ := r1
          obtain ⟨as, q1, n1⟩ := Da.reads hm I _ _ _ h1 e2
          obtain ⟨cs, bs, q2, q3, n2, n3⟩ := Da.readsKv hm I ds _ _ _ h2 r2 p3
          rw [← p2] at q1
          rw [← e1] at p1
          refine ⟨_, _, .cons (key_reads p1) q2, .cons q1 q3, by simpa using n2, ?_⟩
          rw [List.mem_append, not_or]
          exact ⟨n1, n3⟩
end
end
/-! ### repr of data -/
def rRepr (K : PySem.W.Frag) : List V → Hp → VK → Prop := fun xs H Q =>
  ∃ (a : Addr) (d : PyData), xs = [.ref a] ∧ Da K H (.ref a) d ∧ d.showable = true ∧ d.depth ≤ 64 ∧ d.shown.length ≤ sizeLine ∧ Q (.str d.shown) H
theorem call_repr {X : Cx} (hm : ∃ mm, X.base.Ns sysModules mm) (gd : X.A.guards = some []) (hu : X.A.units + 70 < cLine) :
    CallR X (.builtin "repr") (rRepr X.K) := by
  intro pins s σ H xs us Q I r h
  obtain ⟨a, d, rfl, hs, sh, dp, sz, q⟩ := h
  cases r with
  | cons r1 r2 =>
    cases r2
    obtain ⟨as, rd, sy⟩ := Da.reads hm I d _ _ hs r1
    obtain rfl := r1
    refine repr_of_reads' rd sh (fun _ => sy) gd (by omega) (fun _ _ e => e) (fun h' u tk k => ?_) sz
    exact ⟨.str d.shown, H, I.kept (h' := h') (t' := tk) k, ⟨u, rfl⟩, q⟩
end Ev

/-! ## What an expression gives, while all that is tracked stands -/
namespace Ev
open PySem PySem.Spec PyProof.Rows L2
theorem PE.imp {X : Cx} {e : Expr} {t t' : TE} (h : PE X e t) (i : ∀ σ H Q, t' σ H Q → t σ H Q) : PE X e t' :=
  ⟨fun pins s σ H Q I z => h.run pins s σ H Q I (i σ H Q z)⟩
theorem Same.rfl' {H : Hp} : Same H H := fun _ _ e => e
theorem same_put {H : Hp} {p : Addr} {o : HO} (h : H p = none) : Same H (upd H p o) := fun b x e => by
  rw [upd_ne (ne_of_none e h)]
  exact e
/-- all but p stands as it stood -/
def Bu (p : Addr) (H H' : Hp) : Prop := ∀ b o, b ≠ p → H b = some o → H' b = some o
theorem Bu.refl {p : Addr} {H : Hp} : Bu p H H := fun _ _ _ e => e
theorem Bu.trans {p : Addr} {H H1 H2 : Hp} (h : Bu p H H1) (k : Bu p H1 H2) : Bu p H H2 := fun b o n e => k b o n (h b o n e)
theorem Bu.put {p : Addr} {H : Hp} {o : HO} : Bu p H (upd H p o) := fun b _ n e => by
  rw [upd_ne n]
  exact e
theorem Bu.new {p q : Addr} {H : Hp} {o : HO} (h : H q = none) : Bu p H (upd H q o) := fun b _ _ e => by
  rw [upd_ne (ne_of_none e h)]
  exact e
theorem Bu.of {p : Addr} {H H' : Hp} (h : Same H H') : Bu p H H' := fun b o _ e => h b o e
structure GP where
  p : Hp → V → Prop
  mono : ∀ {H H' : Hp} {u : V}, Same H H' → p H u → p H' u
def AllG (Gs : List GP) (H : Hp) (us : List V) : Prop := Paired (fun (G : GP) u => G.p H u) Gs us
theorem AllG.mono {H H' : Hp} (s : Same H H') : ∀ {Gs : List GP} {us : List V}, AllG Gs H us → AllG Gs H' us
  | _, _, .nil => .nil
  | G :: _, _, .cons h t => .cons (G.mono s h) (AllG.mono s t)
theorem AllG.append {H : Hp} : ∀ {Gs Gs' : List GP} {us us' : List V}, AllG Gs H us → AllG Gs' H us' → AllG (Gs ++ Gs') H (us ++ us')
  | _, _, _, _, .nil, k => k
  | _ :: _, _, _, _, .cons h t, k => .cons h (AllG.append t k)
def gEq (v : V) : GP := ⟨fun _ u => u = v, fun _ h => h⟩
def gLst (Gs : List GP) : GP := ⟨fun H u => ∃ p us, u = .ref p ∧ H p = some (.lst us) ∧ AllG Gs H us, fun s ⟨p, us, h1, h2, h3⟩ => ⟨p, us, h1, s _ _ h2, h3.mono s⟩⟩
def Gives (H0 : Hp) (te : TE) (G : GP) (σ : L2.St) : Prop := ∀ (H : Hp) (Q : VK), Same H0 H → (∀ H' u, Same H H' → G.p H' u → Q u H') → te σ H Q
def GivesL (H0 : Hp) (ta : TA) (Gs : List GP) (σ : L2.St) : Prop := ∀ (H : Hp) (Q : List V → Hp → Prop), Same H0 H → (∀ H' us, Same H H' → AllG Gs H' us → Q us H') → ta σ H Q
section
variable {H0 : Hp} {σ : L2.St} {te te' : TE} {ta : TA} {G : GP} {Gs Gs' : List GP} {i : Nat} {v : V} {C : Addr} {D : Ends} {rest : TS}
theorem g_nil : GivesL H0 tNil [] σ := fun H Q _ q => q H [] Same.rfl' .nil
theorem g_cons (h : Gives H0 te G σ) (t : GivesL H0 ta Gs σ) : GivesL H0 (tCons te ta) (G :: Gs) σ := fun H Q s q =>
  h H _ s fun H1 u s1 g1 => t H1 _ (s.trans s1) fun H2 us s2 g2 => q H2 (u :: us) (s1.trans s2) (.cons (G.mono s2 g1) g2)
theorem g_lst (h : GivesL H0 ta Gs σ) (hz : Gs.length ≤ 1000 := by simp) : Gives H0 (tLst ta) (gLst Gs) σ := fun H Q s q =>
  h H _ s fun H1 us s1 g1 => by
    have hl : us.length = Gs.length := (Paired.length g1).symm
    refine ⟨?_, fun p np => ?_⟩
    · have y := sizeLine_eq
      omega
    · have s2 := same_put (o := .lst us) np
      exact q _ _ (s1.trans s2) ⟨p, us, rfl, upd_same, g1.mono s2⟩
theorem g_cat (h : Gives H0 te (gLst Gs) σ) (h' : Gives H0 te' (gLst Gs') σ) (hz : Gs.length + Gs'.length ≤ 1000 := by simp) :
    Gives H0 (tOp rCat te te') (gLst (Gs ++ Gs')) σ := fun H Q s q =>
  h H _ s fun H1 u s1 ⟨p, us, e1, h1, g1⟩ => h' H1 _ (s.trans s1) fun H2 u' s2 ⟨p', us', e2, h2, g2⟩ => by
    have l1 : us.length = Gs.length := (Paired.length g1).symm
    have l2 : us'.length = Gs'.length := (Paired.length g2).symm
    refine ⟨p, p', us, us', e1, e2, s2 _ _ h1, h2, ?_, fun r nr => ?_⟩
    · have y := sizeLine_eq
      omega
    · have s3 := same_put (o := .lst (us ++ us')) nr
      exact q _ _ ((s1.trans s2).trans s3) ⟨r, us ++ us', rfl, upd_same, AllG.append (g1.mono (s2.trans s3)) (g2.mono s3)⟩
theorem g_var (hv : σ[i]? = some (some v)) (g : G.p H0 v) : Gives H0 (tVar i) G σ := fun H Q s q => ⟨v, hv, q H v Same.rfl' (G.mono s g)⟩
theorem g_eq (hv : σ[i]? = some (some v)) : Gives H0 (tVar i) (gEq v) σ := g_var hv rfl
theorem s_set (h : Gives H0 te G σ) (k : ∀ H' u, Same H0 H' → G.p H' u → rest D (σ.set i (some u)) H') : tSeq (tAsg te (gName i)) rest D σ H0 :=
  h H0 _ Same.rfl' fun H' u s g => k H' u s g
theorem s_ret (h : Gives H0 te G σ) (k : ∀ H' u, Same H0 H' → G.p H' u → D.rt u H') : tRet te D σ H0 :=
  h H0 _ Same.rfl' fun H' u s g => k H' u s g
end
/-- the abstract heap without p -/
def but (H : Hp) (p : Addr) : Hp := fun b => if b = p then none else H b
theorem but_ne {H : Hp} {p b : Addr} (h : b ≠ p) : but H p b = H b := if_neg h
theorem but_same {H H' : Hp} {p : Addr} (s : Same H H') : Same (but H p) (but H' p) := fun b o e => by
  by_cases h : b = p
  · rw [h] at e
    have z : but H p p = none := if_pos rfl
    rw [z] at e
    cases e
  · rw [but_ne h] at e ⊢
    exact s _ _ e
theorem but_le {H H' : Hp} {p : Addr} (s : Bu p H H') : Same (but H p) H' := fun b o e => by
  by_cases h : b = p
  · rw [h] at e
    have z : but H p p = none := if_pos rfl
    rw [z] at e
    cases e
  · rw [but_ne h] at e
    exact s _ _ h e
/-- data that do not hold p -/
def gDa (K : PySem.W.Frag) (p : Addr) (d : PyData) : GP := ⟨fun H u => Da K (but H p) u d, fun s h => h.mono (but_same s)⟩
section
variable {K : PySem.W.Frag} {p : Addr} {op : HO} {H0 : Hp} {σ : L2.St} {te : TE} {ta : TA} {G : GP} {Gs : List GP} {v : V} {d : PyData} {ds : List PyData}
theorem ne_new {H : Hp} {q : Addr} (hp : H0 p = some op) (s : Same H0 H) (nq : H q = none) : q ≠ p := fun z => by
  rw [z, s _ _ hp] at nq
  cases nq
theorem g_c (h : ∀ H, G.p H v) : Gives H0 (tC v) G σ := fun H Q _ q => q H v Same.rfl' (h H)
theorem g_neg {i : Int} : Gives H0 (tUn (rU fun i => .int (-i)) (tC (.int i))) (gDa K p (.int (-i))) σ := fun H Q _ q => ⟨i, rfl, q H _ Same.rfl' (.int _)⟩
theorem g_pow {i j : Int} (h : CPow i j) : Gives H0 (tOp (rI CPow fun i j => .int (i ^ j.toNat)) (tC (.int i)) (tC (.int j))) (gDa K p (.int (i ^ j.toNat))) σ :=
  fun H Q _ q => ⟨i, j, rfl, rfl, h, q H _ Same.rfl' (.int _)⟩
theorem allDa {H : Hp} : ∀ {ds : List PyData} {us : List V}, AllG (ds.map (gDa K p)) H us → DaAll K (but H p) us ds
  | [], _, .nil => .nil
  | _ :: _, _, .cons h t => .cons h (allDa t)
theorem g_lstD (hp : H0 p = some op) (h : GivesL H0 ta (ds.map (gDa K p)) σ) (hz : ds.length ≤ 1000 := by simp) : Gives H0 (tLst ta) (gDa K p (.list ds)) σ := fun H Q s q =>
  h H _ s fun H1 us s1 g1 => by
    have hl : us.length = ds.length := by rw [← Paired.length g1, List.length_map]
    refine ⟨?_, fun r nr => ?_⟩
    · have y := sizeLine_eq
      omega
    · have s2 := same_put (o := .lst us) nr
      have ne := ne_new hp (s.trans s1) nr
      refine q _ _ (s1.trans s2) (.lst (.inl (.inl ?_)) ((allDa g1).mono (but_same s2)))
      rw [but_ne ne, upd_same]
theorem g_tupD (hp : H0 p = some op) (h : GivesL H0 ta (ds.map (gDa K p)) σ) (hz : ds.length ≤ 1000 := by simp) : Gives H0 (tTup ta) (gDa K p (.tuple ds)) σ := fun H Q s q =>
  h H _ s fun H1 us s1 g1 => by
    have hl : us.length = ds.length := by rw [← Paired.length g1, List.length_map]
    refine ⟨?_, fun r nr => ?_⟩
    · have y := sizeLine_eq
      omega
    · have s2 := same_put (o := .tup us) nr
      have ne := ne_new hp (s.trans s1) nr
      refine q _ _ (s1.trans s2) (.tup (.inl (.inl ?_)) ((allDa g1).mono (but_same s2)))
      rw [but_ne ne, upd_same]
theorem g_dnew (hp : H0 p = some op) : Gives H0 tDNewK (gDa K p (.dict [])) σ := fun H Q s q r nr => by
  refine q _ _ (same_put nr) (.dic ?_ .nil)
  rw [but_ne (ne_new hp s nr), upd_same]
theorem g_disp {x : Str} (hp : H0 p = some op) : Gives H0 (tDisp [(tC (.str x), tTup (tCons (tC .non) tNil))]) (gDa K p (.dict [(.str x, .tuple [.none])])) σ := fun H Q s q r nr => by
  refine ⟨(by show 1 ≤ sizeLine; decide), fun t nt => ?_⟩
  have ne : t ≠ r := fun z => by
    rw [z, upd_same] at nt
    cases nt
  have n1 := ne_new hp s nr
  have n2 := ne_new hp (s.trans (same_put nr)) nt
  refine ⟨by rw [upd_ne ne.symm, upd_same], [(.inr x, .ref t)], rfl, (by show 1 ≤ 15; decide), q _ _ ?_ (.dic (kvs := [(.inr x, .ref t)]) ?_ (.cons (.tup (xs := [.non]) (.inl (.inl ?_)) (.cons .non .nil)) .nil))⟩
  · intro b o e
    have nb : b ≠ r := ne_of_none e nr
    have nbt : b ≠ t := fun z => by
      rw [z] at e
      rw [upd_ne ne, e] at nt
      cases nt
    rw [upd_ne nb, upd_ne nbt, upd_ne nb]
    exact e
  · rw [but_ne n1]
    exact upd_same
  · rw [but_ne n2, upd_ne ne, upd_same]
theorem allEq {H : Hp} : ∀ {ys : List V}, AllG (ys.map gEq) H ys
  | [] => .nil
  | _ :: _ => .cons rfl allEq
/-- [elt for .. in xs], the elements plain values -/
theorem g_lcP {a : Addr} {xs ys : List V} {i : Nat} {g : TG} {vs : List Nat} (hi : σ[i]? = some (some (.ref a))) (hx : SqL K H0 a xs) (hz : xs.length ≤ 1000) (hl : ys.length = xs.length)
    (he : ∀ (j : Nat) (x y : V), xs[j]? = some x → ys[j]? = some y → ∀ (H : Hp) (R : VK), Same H0 H → R y H →
      g x (wipe σ vs) H fun σ2 H2 => wipe σ2 vs = wipe σ vs ∧ te σ2 H2 R) :
    Gives H0 (tLc (iList K (tVar i)) g tYes te vs) (gLst (ys.map gEq)) σ := fun H Q s q => by
  refine ⟨_, hi, a, rfl, ⟨xs, s.seq hx⟩, fun D nD => ?_⟩
  have sD : Same H (upd H D (.lst [])) := same_put nD
  have y := sizeLine_eq
  refine lc_list (K := K) (a := a) (xs := xs) (fun k H' => Same H H' ∧ H' D = some (.lst (ys.take k))) ⟨sD, upd_same⟩ (fun k H' _ ⟨s', _⟩ => s'.seq (s.seq hx)) ?_ ?_
  · rintro k x H' hk ⟨s', eD⟩
    have hk' : k < ys.length := by
      obtain ⟨h, _⟩ := List.getElem?_eq_some_iff.mp hk
      omega
    have hy := List.getElem?_eq_getElem hk'
    refine cast ?_ (he k x ys[k] hk hy H' (fun y H4 => ∃ acc, H4 D = some (.lst acc) ∧ acc.length < sizeLine ∧ Same H (upd H4 D (.lst (acc ++ [y]))) ∧ upd H4 D (.lst (acc ++ [y])) D = some (.lst (ys.take (k + 1)))) (s.trans s') ⟨_, eD, ?_, ?_, ?_⟩)
    · rfl
    · rw [List.length_take]
      omega
    · intro b o e
      rw [upd_ne (ne_of_none e nD)]
      exact s' _ _ e
    · rw [upd_same, List.take_add_one, hy]
      rfl
  · rintro H' ⟨s', eD⟩
    rw [← hl, List.take_length] at eD
    exact q H' _ s' ⟨D, ys, rfl, eD, allEq⟩
/-- [elt for i in range(m)], the elements plain values -/
theorem g_lcR {ys : List V} {m : Int} {g : TG} {vs : List Nat} (hm : -(2 ^ 62) ≤ m ∧ m < 2 ^ 62) (hl : ys.length = m.toNat) (hz : ys.length ≤ 1000)
    (he : ∀ (j : Nat) (y : V), ys[j]? = some y → ∀ (H : Hp) (R : VK), Same H0 H → R y H →
      g (.int (0 + j)) (wipe σ vs) H fun σ2 H2 => wipe σ2 vs = wipe σ vs ∧ te σ2 H2 R) :
    Gives H0 (tLc (iRng1 (tCons (tC (.int m)) tNil)) g tYes te vs) (gLst (ys.map gEq)) σ := fun H Q s q => by
  refine ⟨m, rfl, hm.1, hm.2, fun D nD => ?_⟩
  have sD : Same H (upd H D (.lst [])) := same_put nD
  have y := sizeLine_eq
  refine lc_range (lo := 0) (n := m.toNat) (fun k H' => Same H H' ∧ H' D = some (.lst (ys.take k))) ⟨sD, upd_same⟩ ?_ ?_
  · rintro k H' hk ⟨s', eD⟩
    have hk' : k < ys.length := by omega
    have hy := List.getElem?_eq_getElem hk'
    refine cast ?_ (he k ys[k] hy H' (fun y H4 => ∃ acc, H4 D = some (.lst acc) ∧ acc.length < sizeLine ∧ Same H (upd H4 D (.lst (acc ++ [y]))) ∧ upd H4 D (.lst (acc ++ [y])) D = some (.lst (ys.take (k + 1)))) (s.trans s') ⟨_, eD, ?_, ?_, ?_⟩)
    · rfl
    · rw [List.length_take]
      omega
    · intro b o e
      rw [upd_ne (ne_of_none e nD)]
      exact s' _ _ e
    · rw [upd_same, List.take_add_one, hy]
      rfl
  · rintro H' ⟨s', eD⟩
    rw [← hl, List.take_length] at eD
    exact q H' _ s' ⟨D, ys, rfl, eD, allEq⟩
/-! ### tests whose answer is known -/
def GivesT (H0 : Hp) (tt : TT) (b : Bool) (σ : L2.St) : Prop := ∀ (H : Hp) (Q : Bool → Hp → Prop), Same H0 H → (∀ H', Same H H' → Q b H') → tt σ H Q
theorem s_skip {tt : TT} {t rest : TS} {D : Ends} (h : GivesT H0 tt false σ) (k : ∀ H', Same H0 H' → rest D σ H') : tSeq (tIfS tt t tNext) rest D σ H0 :=
  h H0 _ Same.rfl' fun H' s => iteF (k H' s)
theorem s_skip1 {tt : TT} {t : TS} {D : Ends} (h : GivesT H0 tt false σ) (k : ∀ H', Same H0 H' → D.nx σ H') : tIfS tt t tNext D σ H0 :=
  h H0 _ Same.rfl' fun H' s => iteF (k H' s)
theorem g_repr (h : Gives H0 te G σ) (hd : ∀ H u, Same H0 H → G.p H u → ∃ a, u = .ref a ∧ Da K H u d) (h1 : d.showable = true) (h2 : d.depth ≤ 64) (h3 : d.shown.length ≤ sizeLine) :
    Gives H0 (tCB (rRepr K) (tCons te tNil)) (gEq (.str d.shown)) σ := fun H Q s q =>
  h H _ s fun H1 u s1 g1 => by
    obtain ⟨a, rfl, da⟩ := hd H1 u (s.trans s1) g1
    exact ⟨a, d, rfl, da, h1, h2, h3, q H1 _ s1 rfl⟩
theorem t_neS {te' : TE} {x : Str} (h : Gives H0 te (gEq (.str x)) σ) (h' : Gives H0 te' (gEq (.str x)) σ) : GivesT H0 (tTest (tOp rNe te te')) false σ := fun H Q s q =>
  h H _ s fun H1 u s1 e1 => h' H1 _ (s.trans s1) fun H2 u' s2 e2 => by
    have e1 : u = .str x := e1
    have e2 : u' = .str x := e2
    subst e1
    subst e2
    refine ⟨rfl, _, rfl, ?_⟩
    rw [decide_eq_true rfl]
    exact q H2 (s1.trans s2)
theorem dp_bools {H : Hp} : ∀ bs : List Bool, DpAll K H (bs.map V.bl) (bs.map PyData.bool)
  | [] => .nil
  | b :: bs => .cons (.bl b) (dp_bools bs)
theorem eqv_bools : ∀ bs : List Bool, PyData.eqvAll (bs.map PyData.bool) (bs.map PyData.bool) = true
  | [] => by simp [PyData.eqvAll]
  | b :: bs => by simp [PyData.eqvAll, PyData.eqv, eqv_bools bs]
theorem lay_bools : ∀ bs : List Bool, PyData.canLayAll0 (bs.map PyData.bool) = true
  | [] => by simp [PyData.canLayAll0]
  | b :: bs => by simp [PyData.canLayAll0, PyData.canLay0, lay_bools bs]
theorem depth_bools : ∀ bs : List Bool, PyData.depthAll (bs.map PyData.bool) = 0
  | [] => by simp [PyData.depthAll]
  | b :: bs => by simp [PyData.depthAll, PyData.depth, depth_bools bs]
theorem shaped_bools (bs : List Bool) : SeqAt.shaped (.list (bs.map PyData.bool)) = true := by
  show (PyData.canLay0 (.list (bs.map .bool)) && decide (PyData.depth (.list (bs.map .bool)) ≤ 64)) = true
  simp [PyData.canLay0, PyData.depth, lay_bools, depth_bools]
theorem all_bl {H : Hp} : ∀ {bs : List Bool} {us : List V}, AllG (bs.map fun b => gEq (.bl b)) H us → us = bs.map V.bl
  | [], _, .nil => rfl
  | _ :: _, _, .cons h t => by
    have h : _ = V.bl _ := h
    rw [h, all_bl t]
    rfl
theorem t_neB {te' : TE} {bs : List Bool} (h : Gives H0 te (gLst (bs.map fun b => gEq (.bl b))) σ) (h' : Gives H0 te' (gLst (bs.map fun b => gEq (.bl b))) σ) :
    GivesT H0 (tTest (tOp (rNeD K) te te')) false σ := fun H Q s q =>
  h H _ s fun H1 u s1 ⟨p1, us1, e1, l1, g1⟩ => h' H1 _ (s.trans s1) fun H2 u' s2 ⟨p2, us2, e2, l2, g2⟩ => by
    subst e1
    subst e2
    rw [all_bl g1] at l1
    rw [all_bl g2] at l2
    refine ⟨_, _, .lst (.inl (.inl (s2 _ _ l1))) (dp_bools bs), .lst (.inl (.inl l2)) (dp_bools bs), shaped_bools bs, shaped_bools bs, _, rfl, ?_⟩
    have z : PyData.eqv (.list (bs.map .bool)) (.list (bs.map .bool)) = true := by
      simp only [PyData.eqv]
      exact eqv_bools bs
    rw [z]
    exact q H2 (s1.trans s2)
theorem t_not {tt : TT} {b : Bool} (h : GivesT H0 tt b σ) : GivesT H0 (tNot tt) (!b) σ := fun H Q s q => h H _ s q
theorem t_orF {tt uu : TT} (h : GivesT H0 tt false σ) (k : GivesT H0 uu false σ) : GivesT H0 (tOr tt uu) false σ := fun H Q s q =>
  h H _ s fun H1 s1 => iteF (k H1 Q (s.trans s1) fun H2 s2 => q H2 (s1.trans s2))
end
section
variable {K : PySem.W.Frag} {p : Addr} {H0 : Hp} {σ : L2.St}
theorem g_nonD : Gives H0 (tC .non) (gDa K p .none) σ := g_c fun _ => Da.non
theorem g_blD {b : Bool} : Gives H0 (tC (.bl b)) (gDa K p (.bool b)) σ := g_c fun _ => Da.bl b
theorem g_intD {i : Int} : Gives H0 (tC (.int i)) (gDa K p (.int i)) σ := g_c fun _ => Da.int i
theorem g_strD {x : Str} : Gives H0 (tC (.str x)) (gDa K p (.str x)) σ := g_c fun _ => Da.str x
end
theorem sum_le_all (m : Nat) : ∀ l : List Nat, (∀ n ∈ l, n ≤ m) → l.sum ≤ m * l.length
  | [], _ => by simp
  | n :: l, h => by
    have h1 := h n (List.mem_cons_self ..)
    have h2 := sum_le_all m l fun k hk => h k (List.mem_cons_of_mem _ hk)
    rw [List.sum_cons, List.length_cons, Nat.mul_succ]
    omega
theorem mem_all {H : Hp} : ∀ {Gs : List GP} {us : List V}, AllG Gs H us → ∀ v ∈ us, ∃ G ∈ Gs, G.p H v
  | _, _, .nil, _, h => nomatch h
  | G :: _, _, .cons h t, v, hv => by
    rcases List.mem_cons.mp hv with rfl | hv
    · exact ⟨G, List.mem_cons_self .., h⟩
    · obtain ⟨G', h1, h2⟩ := mem_all t v hv
      exact ⟨G', List.mem_cons_of_mem _ h1, h2⟩
theorem all_eq {H : Hp} : ∀ {ys us : List V}, AllG (ys.map gEq) H us → us = ys
  | [], _, .nil => rfl
  | _ :: _, _, .cons h t => by
    have h : _ = _ := h
    rw [h, all_eq t]
end Ev

/-! ## General steps -/
namespace Ev
open PySem PySem.Spec PyProof.Rows L2
section
variable {K : PySem.W.Frag} {B H0 : Hp} {σ : L2.St} {te tf : TE} {ta : TA} {i : Nat} {x v : V} {d : PyData} {ds : List PyData} {b c : Bool} {T : String} {tt uu : TT} {t rest : TS} {D : Ends} {a : Addr} {xs : List V} {k : Int} {G : GP}
theorem t_or (h : GivesT H0 tt b σ) (k : b = false → GivesT H0 uu c σ) : GivesT H0 (tOr tt uu) (b || c) σ := fun H Q s q =>
  h H _ s fun H1 s1 => by
    cases b with
    | true => exact iteT (q H1 s1)
    | false => exact iteF (k rfl H1 Q (s.trans s1) fun H2 s2 => q H2 (s1.trans s2))
theorem s_ifB (h : GivesT H0 tt b σ) (k1 : b = true → ∀ H', Same H0 H' → t { D with nx := rest D } σ H') (k2 : b = false → ∀ H', Same H0 H' → rest D σ H') : tSeq (tIfS tt t tNext) rest D σ H0 :=
  h H0 _ Same.rfl' fun H' s => by
    cases b with
    | true => exact iteT (k1 rfl H' s)
    | false => exact iteF (k2 rfl H' s)
theorem t_andB (h : GivesT H0 tt b σ) (k : b = true → GivesT H0 uu c σ) : GivesT H0 (tAnd tt uu) (b && c) σ := fun H Q s q =>
  h H _ s fun H1 s1 => by
    cases b with
    | true => exact iteT (k rfl H1 Q (s.trans s1) fun H2 s2 => q H2 (s1.trans s2))
    | false => exact iteF (q H1 s1)
theorem s_ifB1 (h : GivesT H0 tt b σ) (k1 : b = true → ∀ H', Same H0 H' → t D σ H') (k2 : b = false → ∀ H', Same H0 H' → D.nx σ H') : tIfS tt t tNext D σ H0 :=
  h H0 _ Same.rfl' fun H' s => by
    cases b with
    | true => exact iteT (k1 rfl H' s)
    | false => exact iteF (k2 rfl H' s)
theorem s_set1 (h : Gives H0 te G σ) (k : ∀ H' u, Same H0 H' → G.p H' u → D.nx (σ.set i (some u)) H') : tAsg te (gName i) D σ H0 :=
  h H0 _ Same.rfl' fun H' u s g => k H' u s g
theorem t_eqI2 {r k : Int} (h : Gives H0 te (gEq (.int r)) σ) : GivesT H0 (tTest (tOp rEq te (tC (.int k)))) (decide (r = k)) σ := fun H Q s q =>
  h H _ s fun H1 u s1 e => by
    have e : u = .int r := e
    subst e
    refine ⟨rfl, _, rfl, ?_⟩
    have z : decide (V.int r = V.int k) = decide (r = k) := decide_eq_decide.mpr ⟨fun h => V.int.inj h, fun h => by rw [h]⟩
    rw [z]
    exact q H1 s1
theorem t_eqI {r k : Int} (h : σ[i]? = some (some (.int r))) : GivesT H0 (tTest (tOp rEq (tVar i) (tC (.int k)))) (decide (r = k)) σ := fun H Q s q => by
  refine ⟨_, h, rfl, _, rfl, ?_⟩
  have z : decide (V.int r = V.int k) = decide (r = k) := decide_eq_decide.mpr ⟨fun h => V.int.inj h, fun h => by rw [h]⟩
  rw [z]
  exact q H Same.rfl'
theorem t_neI {r k : Int} (h : Gives H0 te (gEq (.int r)) σ) : GivesT H0 (tTest (tOp rNe te (tC (.int k)))) (!decide (r = k)) σ := fun H Q s q =>
  h H _ s fun H1 u s1 e => by
    have e : u = .int r := e
    subst e
    refine ⟨rfl, _, rfl, ?_⟩
    have z : decide (V.int r = V.int k) = decide (r = k) := decide_eq_decide.mpr ⟨fun h => V.int.inj h, fun h => by rw [h]⟩
    rw [z]
    exact q H1 s1
theorem g_and (h : Gives H0 te (gEq (.bl b)) σ) (k : b = true → Gives H0 tf (gEq (.bl c)) σ) : Gives H0 (tAndV te tf) (gEq (.bl (b && c))) σ := fun H Q s q =>
  h H _ s fun H1 u s1 e => by
    refine ⟨b, e, ?_⟩
    cases b with
    | true => exact iteT (k rfl H1 Q (s.trans s1) fun H2 u2 s2 e2 => q H2 u2 (s1.trans s2) e2)
    | false => exact iteF (q H1 _ s1 rfl)
theorem t_valB (h : Gives H0 te (gEq (.bl b)) σ) : GivesT H0 (tB te) b σ := fun H Q s q => h H _ s fun H1 u s1 e => ⟨b, e, q H1 s1⟩
end
abbrev rGtI : R2 := rI0 fun i j => .bl (decide (j < i))
abbrev rLeI : R2 := rI0 fun i j => .bl (decide (i ≤ j))
abbrev rLtI : R2 := rI0 fun i j => .bl (decide (i < j))
theorem g_all {K : PySem.W.Frag} {H0 : Hp} {σ : L2.St} {te : TE} {bs : List Bool} (h : Gives H0 te (gLst (bs.map fun b => gEq (.bl b))) σ) : Gives H0 (tCB (rAll K) (tCons te tNil)) (gEq (.bl (bs.all id))) σ := fun H Q s q =>
  h H _ s fun H1 u s1 g1 => by
    obtain ⟨p, us, rfl, hp, ha⟩ := g1
    have eu := all_bl ha
    subst eu
    exact ⟨p, bs, rfl, .inl (.inl hp), q H1 _ s1 rfl⟩
def rReprA (K : PySem.W.Frag) : List V → Hp → VK → Prop := fun xs H Q =>
  ∃ (x : V) (d : PyData), xs = [x] ∧ Da K H x d ∧ d.showable = true ∧ d.depth ≤ 64 ∧ d.shown.length ≤ sizeLine ∧ Q (.str d.shown) H
theorem call_reprA {X : Cx} (hm : ∃ mm, X.base.Ns sysModules mm) (gd : X.A.guards = some []) (hu : X.A.units + 70 < cLine) :
    CallR X (.builtin "repr") (rReprA X.K) := by
  intro pins s σ H xs us Q I r h
  obtain ⟨x, d, rfl, hs, sh, dp, sz, q⟩ := h
  have big : ∀ a, x = .ref a → wpAny (model X.prog X.w) X.A (call (.builtin "repr") us) (EP X pins σ Q) X.xe s := by
    rintro a rfl
    exact call_repr hm gd hu pins s σ H _ us Q I r ⟨a, d, rfl, hs, sh, dp, sz, q⟩
  cases hs with
  | non =>
    cases r with
    | cons r1 r2 =>
      cases r2
      cases r1
      rw [PyData.shown] at q
      exact PySem.P.repr_of_none ⟨.str _, H, I.tok _, ⟨_, rfl⟩, q⟩
  | bl b =>
    cases r with
    | cons r1 r2 =>
      cases r2
      cases r1
      rw [PyData.shown] at q
      exact PySem.P.repr_of_bool ⟨.str _, H, I.tok _, ⟨_, rfl⟩, q⟩
  | int i =>
    cases r with
    | cons r1 r2 =>
      cases r2
      obtain ⟨t, rfl⟩ := r1
      rw [PyData.shown] at q
      exact PySem.P.repr_of_int (by rw [PyData.showable] at sh; exact of_decide_eq_true sh) ⟨.str _, H, I.tok _, ⟨_, rfl⟩, q⟩
  | str z =>
    cases r with
    | cons r1 r2 =>
      cases r2
      obtain ⟨t, rfl⟩ := r1
      rw [PyData.shown] at q sz
      exact PySem.P.repr_of_str ⟨.str _, H, I.tok _, ⟨_, rfl⟩, q⟩ sz
  | lst h1 h2 => exact big _ rfl
  | tup h1 h2 => exact big _ rfl
  | dic h1 h2 => exact big _ rfl
theorem s_par {H0 : Hp} {σ : L2.St} {ta : TA} {G1 G2 : GP} {i j : Nat} {D : Ends} {rest : TS} (h : GivesL H0 ta [G1, G2] σ) (k : ∀ H' u1 u2, Same H0 H' → G1.p H' u1 → G2.p H' u2 → rest D ((σ.set i (some u1)).set j (some u2)) H') : tSeq (tPar i j ta) rest D σ H0 :=
  h H0 _ Same.rfl' fun H' us s g => by
    cases g with
    | @cons _ u1 _ _ g1 g =>
    cases g with
    | @cons _ u2 _ _ g2 g =>
    cases g
    exact ⟨u1, u2, rfl, k H' u1 u2 s g1 g2⟩
section
variable {K : PySem.W.Frag} {B H0 : Hp} {σ : L2.St} {te tf : TE} {ta : TA} {i : Nat} {x v : V} {d : PyData} {ds : List PyData} {b c : Bool} {T : String} {tt uu : TT} {t rest : TS} {D : Ends} {a : Addr} {xs : List V} {k : Int} {G : GP}
theorem g_reprA (h : σ[i]? = some (some x)) (hd : Da K H0 x d) (h1 : d.showable = true) (h2 : d.depth ≤ 64) (h3 : d.shown.length ≤ sizeLine) : Gives H0 (tCB (rReprA K) (tCons (tVar i) tNil)) (gEq (.str d.shown)) σ := fun H Q s q =>
  ⟨_, h, x, d, rfl, hd.mono s, h1, h2, h3, q H _ Same.rfl' rfl⟩
theorem g_eqS {y z : Str} (h : Gives H0 te (gEq (.str y)) σ) (h' : Gives H0 tf (gEq (.str z)) σ) : Gives H0 (tOp rEq te tf) (gEq (.bl (decide (y = z)))) σ := fun H Q s q =>
  h H _ s fun H1 u s1 e1 => h' H1 _ (s.trans s1) fun H2 u' s2 e2 => by
    have e1 : u = .str y := e1
    have e2 : u' = .str z := e2
    subst e1
    subst e2
    refine ⟨rfl, q H2 _ (s1.trans s2) ?_⟩
    show _ = _
    congr 1
    exact decide_eq_decide.mpr ⟨fun h => V.str.inj h, fun h => by rw [h]⟩
end
theorem Gives.imp {H0 : Hp} {te : TE} {G G' : GP} {σ : L2.St} (h : Gives H0 te G σ) (i : ∀ H u, Same H0 H → G.p H u → G'.p H u) : Gives H0 te G' σ := fun H Q s q =>
  h H _ s fun H1 u s1 g => q H1 u s1 (i H1 u (s.trans s1) g)
theorem keepA {a p : Addr} {H1 H H' : Hp} (np : H1 p = none) (h : ∀ o, H1 a = some o → H a = some o) (b : Bu p H H') : ∀ o, H1 a = some o → H' a = some o := fun o e => b _ _ (ne_of_none e np) (h o e)
theorem sq_of {K : PySem.W.Frag} {a : Addr} {H H' : Hp} {zs : List V} (s : SqL K H a zs) (h : ∀ o, H a = some o → H' a = some o) : SqL K H' a zs := by
  rcases s with (e | ⟨o, e⟩) | e
  · exact .inl (.inl (h _ e))
  · exact .inl (.inr ⟨o, h _ e⟩)
  · exact .inr e
theorem mm_at (z : Int) (h : z ≤ 3) : -(2 ^ 62) ≤ (if z > 1 then z else 1) ∧ (if z > 1 then z else 1) < 2 ^ 62 ∧ (if z > 1 then z else 1).toNat ≤ 3 := by
  split <;> omega
theorem mm_le (n : Int) : (if n < 3 then n else 3) ≤ 3 := by
  split <;> omega
section
variable {K : PySem.W.Frag} {B H0 : Hp} {σ : L2.St} {te tf : TE} {ta : TA} {i : Nat} {x v : V} {d : PyData} {ds : List PyData} {b c : Bool} {T : String} {tt uu : TT} {t rest : TS} {D : Ends} {a : Addr} {xs : List V} {k : Int} {G : GP}
theorem g_lcQ {a : Addr} {xs ys : List V} {i : Nat} {g : TG} {vs : List Nat} (hi : σ[i]? = some (some (.ref a))) (hx : SqL K H0 a xs) (hz : xs.length ≤ 1000) (hl : ys.length = xs.length)
    (he : ∀ (j : Nat) (x y : V), xs[j]? = some x → ys[j]? = some y → ∀ (H : Hp) (R : VK), Same H0 H → (∀ H', Same H H' → R y H') →
      g x (wipe σ vs) H fun σ2 H2 => wipe σ2 vs = wipe σ vs ∧ te σ2 H2 R) :
    Gives H0 (tLc (iList K (tVar i)) g tYes te vs) (gLst (ys.map gEq)) σ := fun H Q s q => by
  refine ⟨_, hi, a, rfl, ⟨xs, s.seq hx⟩, fun D nD => ?_⟩
  have sD : Same H (upd H D (.lst [])) := same_put nD
  have y := sizeLine_eq
  refine lc_list (K := K) (a := a) (xs := xs) (fun k H' => Same H H' ∧ H' D = some (.lst (ys.take k))) ⟨sD, upd_same⟩ (fun k H' _ ⟨s', _⟩ => s'.seq (s.seq hx)) ?_ ?_
  · rintro k x H' hk ⟨s', eD⟩
    have hk' : k < ys.length := by
      obtain ⟨h, _⟩ := List.getElem?_eq_some_iff.mp hk
      omega
    have hy := List.getElem?_eq_getElem hk'
    refine cast ?_ (he k x ys[k] hk hy H' (fun y H4 => ∃ acc, H4 D = some (.lst acc) ∧ acc.length < sizeLine ∧ Same H (upd H4 D (.lst (acc ++ [y]))) ∧ upd H4 D (.lst (acc ++ [y])) D = some (.lst (ys.take (k + 1)))) (s.trans s') fun H4 s4 => ⟨_, s4 _ _ eD, ?_, ?_, ?_⟩)
    · rfl
    · rw [List.length_take]
      omega
    · intro b o e
      rw [upd_ne (ne_of_none e nD)]
      exact s4 _ _ (s' _ _ e)
    · rw [upd_same, List.take_add_one, hy]
      rfl
  · rintro H' ⟨s', eD⟩
    rw [← hl, List.take_length] at eD
    exact q H' _ s' ⟨D, ys, rfl, eD, allEq⟩
end
/-! ### f(k = v, ..), keywords alone -/
section
variable {X : Cx} {CX : CXT} {k : Nat} {f : Addr} {fd : FuncData} {ps ks : List Str} {sp : Sp} {E : XK} {x : Str} {p pos : Pos} {kws : List Keyword} {tk : TA} {pm : {α : Type} → List α → List α}
def tCallKs (pm : {α : Type} → List α → List α) (sp : Sp) (E : XK) (tk : TA) : TE := fun σ H Q => tk σ H fun zs H2 => sp (pm zs) H2 Q E
theorem pe_callKs (pm : {α : Type} → List α → List α) (F : FnOk X.prog X.w X.K X.mg X.base CX k f fd ps sp) (hr : Room k X.A) (hg : Gl X x) (hm : X.mg x = some (.ref f)) (hk : PySem.W.keepIn X.K (.ref f) = true)
    (hb : ∀ (s : Shared) (us : List Value), us.length = ks.length → BindsTo s fd ⟨[], ks.zip us⟩ (ps.zip (pm us))) (hpm : ∀ (zs : List V) (us : List Value), zs.length = ks.length → Vals zs us → Vals (pm zs) (pm us)) (hx : Passes CX X E)
    (hkw : PK X kws tk) (hl : ∀ zs H Q E, sp (pm zs) H Q E → zs.length = ks.length) (hall : (backToKw pos (keywordEach kws X.env)).all (·.1.isSome) = true := by rfl) (hks : (backToKw pos (keywordEach kws X.env)).filterMap (·.1) = ks := by rfl)
    (hdb : (x == ("__debug__" : Str)) = false := by decide) (hpl : ((backTo pos (starEach [] X.env)).any (·.1) || (backToKw pos (keywordEach kws X.env)).any (·.1.isNone)) = false := by rfl) :
    PE X (.Call (.Name x p) [] kws pos) (tCallKs pm sp E tk) := by
  refine ⟨fun pins s σ H Q I h => ?_⟩
  refine wpAny_Call_Name_kw (ld_glob I hg hm ?_ hdb)
  refine PySem.W.callWith_KW0 (h₀ := X.base) I.ok.mod.kin hk hall ?_ hpl
  refine thn (hkw.run pos pins s σ H _ I h) fun ws s2 ⟨zs, H2, I2, rz, q2⟩ => ⟨I2.kIn, ?_⟩
  rw [hks]
  have hz := hl _ _ _ _ q2
  refine wpAny_call (codeAny_mono (F.run X.A X.stack s2 H2 ⟨[], ks.zip ws⟩ (pm ws) (pm zs) Q E hr I2.env0 (hb s2 ws (rz.length.symm.trans hz)) (hpm zs ws hz rz) q2) fun r s' hq => ?_)
  cases r with
  | error e => exact hx pins σ H2 s2 e s' I2 hq
  | ok fl =>
    cases fl with
    | ret u => exact I2.after hq
    | next => exact False.elim hq
    | brk => exact False.elim hq
    | cont => exact False.elim hq
end
end Ev

/-! ## Sets of texts, whose members can be walked -/
namespace Ev
open PySem PySem.Spec PyProof.Rows L2
def keyS (e : Int × Value) : Str := match e.2 with
  | .str x _ => x
  | _ => ""
def goodS (w : World) (e : Int × Value) : Prop := ∃ x tk, e = (hashStr w x, Value.str x tk)
/-- what is left when k comes in -/
def addN (ks : List Str) (k : Str) : List Str := if k ∈ ks then ks else ks ++ [k]
theorem mem_addN {ks : List Str} {k x : Str} : x ∈ addN ks k ↔ x ∈ ks ∨ x = k := by
  unfold addN
  split
  · exact ⟨.inl, fun z => z.elim id fun e => by rw [e]; assumption⟩
  · rw [List.mem_append, List.mem_singleton]
theorem addN_nodup {ks : List Str} {k : Str} (h : ks.Nodup) : (addN ks k).Nodup := by
  unfold addN
  split
  · exact h
  · rename_i n
    rw [List.nodup_append]
    refine ⟨h, by simp, fun x hx y hy e => ?_⟩
    rw [List.mem_singleton.mp hy] at e
    rw [e] at hx
    exact n hx
theorem addN_len {ks : List Str} {k : Str} : (addN ks k).length ≤ ks.length + 1 := by
  unfold addN
  split
  · exact Nat.le_succ _
  · rw [List.length_append]
    exact Nat.le_refl _
/-- the set of the texts ks at a -/
def SetS (w : World) (h : Heap) (a : Addr) (ks : List Str) : Prop := ∃ (o : Obj) (es : Array (Int × Value)) (ep : Nat) (t : SetTable), h.get? a = some o ∧ o.ExactSet ∧ o.data = .set es ep t ∧ (∀ e ∈ es.toList, goodS w e) ∧
  (es.toList.map keyS).Perm ks ∧ ks.Nodup ∧ es.size < scanBound ∧ t.fits es.size = true ∧ Ris t.place.toList ∧ (w.params.followText "set-order" = true ∨ t.led = true)
section
variable {P : Program} {w : World} {A : Around} {E : Value → Shared → Prop} {s : Shared} {h h' : Heap} {a : Addr} {ks : List Str}
theorem SetS.at (R : SetS w h a ks) (k : ∀ o, h.get? a = some o → h'.get? a = some o) : SetS w h' a ks := by
  obtain ⟨o, es, ep, t, ho, r⟩ := R
  exact ⟨o, es, ep, t, k o ho, r⟩
theorem goodS_elems {l : List (Int × Value)} (g : ∀ e ∈ l, goodS w e) : ElemsOf (PySem.strKind P w) l := fun e he => by
  obtain ⟨x, tk, rfl⟩ := g e he
  refine ⟨⟨x, ?_, rfl⟩, rfl⟩
  show Value.isStrOf x (.str x tk) = true
  simp [Value.isStrOf]
theorem goodS_is {e : Int × Value} (g : goodS w e) (x : Str) : (PySem.strKind P w).is x e.2 = true ↔ keyS e = x := by
  obtain ⟨y, tk, rfl⟩ := g
  show Value.isStrOf x (.str y tk) = true ↔ y = x
  simp [Value.isStrOf]
theorem SetS.kind (R : SetS w h a ks) : h.SetOf (PySem.strKind P w) a (fun k => decide (k ∈ ks)) ks.length := by
  obtain ⟨o, es, ep, t, ho, hx, hd, g, pm, nd, hb, hf, _⟩ := R
  refine ⟨o, es, ep, t, ho, hx, hd, goodS_elems g, fun k => ?_, hb, hf, ?_⟩
  · rw [decide_eq_true_iff, ← pm.mem_iff, List.mem_map]
    constructor
    · rintro ⟨e, he, q⟩
      exact ⟨e, he, (goodS_is (g e he) k).2 q⟩
    · rintro ⟨e, he, q⟩
      exact ⟨e, he, (goodS_is (g e he) k).1 q⟩
  · have z := pm.length_eq
    rw [List.length_map, Array.length_toList] at z
    exact z
theorem setS_new (w : World) (h : Heap) : SetS w (h.push { cls := .type "set", dict := none, data := .set #[] 0 (.fresh 0 0 (!w.params.followText "set-order")) }) h.objs.size [] := by
  refine ⟨_, #[], 0, _, Heap.get?_push_size _ rfl, ⟨rfl, rfl, rfl⟩, rfl, fun e he => ?_, .nil, .nil, by decide, by rfl, .nil, ?_⟩
  · cases he
  · by_cases z : w.params.followText "set-order" = true
    · exact .inl z
    · refine .inr ?_
      show (!w.params.followText "set-order") = true
      rw [Bool.eq_false_iff.mpr z]
      rfl
/-- the entries es1 in the table t1 are written, and laid anew where the table is full -/
theorem lay_S {g : Bool → Sem Unit} (hg : ∀ (b : Bool) (s1 : Shared) (Q' : Unit → Shared → Prop), Q' () s1 → wpAny (model P w) A (g b) Q' E s1) {o : Obj} {es es1 : Array (Int × Value)} {ep : Nat} {t t1 : SetTable}
    (ho : s.heap.get? a = some o) (hx : o.ExactSet) (hd : o.data = .set es ep t) (g1 : ∀ e ∈ es1.toList, goodS w e) (pm : (es1.toList.map keyS).Perm ks) (nd : ks.Nodup) (hb : es1.size < scanBound) (hf : t1.fits es1.size = true)
    (hr : Ris t1.place.toList) (hl : w.params.followText "set-order" = true ∨ t1.led = true) {was : Bool} {R : Option Bool → Shared → Prop} (k : ∀ h', Heap.SameBut a s.heap h' → SetS w h' a ks → R (some true) { s with heap := h' }) :
    wpAny (model P w) A (do
        storeSet a es1 t1
        if (!was && t1.tooFull) = true then do
            g (relayAll t1 es1 (SetTable.grown es1.size)).2.2
            storeSet a (relayAll t1 es1 (SetTable.grown es1.size)).1 (relayAll t1 es1 (SetTable.grown es1.size)).2.1
            pure (some true)
          else pure (some true)) R E s := by
  have put : ∀ {hh : Heap} {oo : Obj} {e0 e1 : Array (Int × Value)} {n : Nat} {t0 t2 : SetTable}, hh.get? a = some oo → oo.data = .set e0 n t0 → (hh.update a (Obj.putSet e1 t2)).get? a = some { oo with data := .set e1 (n + 1) t2 } := by
    intro hh oo e0 e1 n t0 t2 x y
    have z := Heap.get?_update_self (Obj.putSet e1 t2) x (by rw [putSet_of e1 t2 y]; rfl)
    rw [putSet_of e1 t2 y] at z
    exact z
  have o1 := put (e1 := es1) (t2 := t1) ho hd
  have b1 := Heap.SameBut.update s.heap a (Obj.putSet es1 t1)
  refine wpAny_bind (wpAny_storeSet_of ho hd ?_ (fits_of_scanBound hb))
  by_cases full : (!was && t1.tooFull) = true
  · rw [if_pos full]
    have q1 := relayAll_perm t1 es1 (SetTable.grown es1.size)
    have q2 := relayAll_fits t1 es1 (SetTable.grown es1.size)
    have q3 := relayAll_ris t1 es1 (SetTable.grown es1.size)
    have q4 := relayAll_led t1 es1 (SetTable.grown es1.size)
    revert q1 q2 q3 q4
    generalize relayAll t1 es1 (SetTable.grown es1.size) = Z
    obtain ⟨e2, t2, gv⟩ := Z
    intro q1 q2 q3 q4
    have sz : e2.size = es1.size := by
      have z := q1.length_eq
      rwa [Array.length_toList, Array.length_toList] at z
    refine wpAny_bind (hg _ _ _ (wpAny_bind (wpAny_storeSet_of o1 rfl (wpAny_pure (k _ (b1.trans (Heap.SameBut.update _ a _)) ?_)) (fits_of_scanBound (by rw [sz]; exact hb)))))
    refine ⟨_, e2, _, t2, put o1 rfl, hx, rfl, fun e he => g1 e (q1.mem_iff.mp he), (q1.map keyS).trans pm, nd, by rw [sz]; exact hb, q2, q3, ?_⟩
    rcases hl with z | z
    · exact .inl z
    · exact .inr (q4.trans z)
  · rw [if_neg full]
    exact wpAny_pure (k _ b1 ⟨_, es1, _, t1, o1, hx, rfl, g1, pm, nd, hb, hf, hr, hl⟩)
theorem lay_in {k : Str} {tk : Tok} {Q : Bool → Shared → Prop} (R : SetS w s.heap a ks) (room : ks.length + 1 < scanBound)
    (q : ∀ h', Heap.SameBut a s.heap h' → SetS w h' a (addN ks k) → ∀ b, Q b { s with heap := h' }) : wpAny (model P w) A (setAddHashed a (.str k tk) ((PySem.strKind P w).hash k)) Q E s := by
  obtain ⟨o, es, ep, t, ho, hx, hd, g, pm, nd, hb, hf, hr, hl⟩ := R
  have hel : ElemsOf (PySem.strKind P w) es.toList := goodS_elems g
  have me : (PySem.strKind P w).is k (.str k tk) = true := by
    show Value.isStrOf k (.str k tk) = true
    simp [Value.isStrOf]
  have sc : (Value.str k tk).scannable = true := rfl
  have quiet : ∀ (b : Bool) (s1 : Shared) (Q' : Unit → Shared → Prop), Q' () s1 → wpAny (model P w) A (match b with | true => rule "set.scan.the-table-gave-way" | false => pure ()) Q' E s1 := fun b s1 Q' z => by
    cases b
    · exact wpAny_pure z
    · exact wpAny_rule z
  unfold setAddHashed setAddHashedIn
  refine wpAny_holding (wpAny_bind (wpAny_setState_of ho hd hf ?_))
  dsimp only
  rw [byScan_of sc hb hel]
  simp only [↓reduceIte]
  unfold setAddByScan
  refine wpAny_bind (wpAny_bind (wpAny_rule (wpAny_bind (wpAny_setScan_of me ho hd hf hel ?_))))
  cases hi : List.findIdx? (fun e => (PySem.strKind P w).is k e.2) es.toList with
  | some j =>
    dsimp only
    obtain ⟨hj, pj, _⟩ := List.findIdx?_eq_some_iff_getElem.mp hi
    have inn : k ∈ ks := by
      refine pm.mem_iff.mp (List.mem_map.mpr ⟨es.toList[j], List.getElem_mem hj, ?_⟩)
      exact (goodS_is (P := P) (g _ (List.getElem_mem hj)) k).1 pj
    have e : addN ks k = ks := if_pos inn
    rw [e] at q
    exact wpAny_pure (wpAny_pure (q s.heap (Heap.SameBut.refl a s.heap) ⟨o, es, ep, t, ho, hx, hd, g, pm, nd, hb, hf, hr, hl⟩ _))
  | none =>
    dsimp only
    have out : k ∉ ks := fun z => by
      obtain ⟨e, he, ek⟩ := List.mem_map.mp (pm.mem_iff.mpr z)
      have c := List.findIdx?_eq_none_iff.mp hi e he
      rw [(goodS_is (P := P) (g e he) k).2 ek] at c
      cases c
    have e : addN ks k = ks ++ [k] := if_neg out
    have nd1 : (ks ++ [k]).Nodup := by
      rw [← e]
      exact addN_nodup nd
    have q1 := layNew_perm t es ((PySem.strKind P w).hash k) (.str k tk)
    have q2 := layNew_fits t es ((PySem.strKind P w).hash k) (.str k tk)
    have q3 := layNew_ris t es ((PySem.strKind P w).hash k) (.str k tk) hr
    have q4 := layNew_led t es ((PySem.strKind P w).hash k) (.str k tk)
    revert q1 q2 q3 q4
    generalize layNew t es ((PySem.strKind P w).hash k) (.str k tk) = Z
    obtain ⟨es1, t1, was, gave⟩ := Z
    intro q1 q2 q3 q4
    dsimp only at q1 q2 q3 q4 ⊢
    rw [Array.toList_push] at q1
    have g1 : ∀ x ∈ es1.toList, goodS w x := fun x hx => by
      rcases List.mem_append.mp (q1.mem_iff.mp hx) with z | z
      · exact g x z
      · rw [List.mem_singleton.mp z]
        exact ⟨k, tk, rfl⟩
    have pm1 : (es1.toList.map keyS).Perm (ks ++ [k]) := by
      have z := q1.map keyS
      rw [List.map_append] at z
      exact z.trans (List.Perm.append_right _ pm)
    have sz : es1.size < scanBound := by
      have z := pm1.length_eq
      rw [List.length_map, Array.length_toList, List.length_append] at z
      rw [z]
      exact room
    have l1 : w.params.followText "set-order" = true ∨ t1.led = true := by
      rcases hl with z | z
      · exact .inl z
      · exact .inr (q4.trans z)
    rw [e] at q
    refine wpAny_bind (quiet _ _ _ ?_)
    split
    · refine wpAny_bind ?_
      rw [hashByValue_scannable 8 sc]
      refine wpAny_pure ?_
      refine lay_S ?_ ho hx hd g1 pm1 nd1 sz ?_ ?_ ?_ fun h' sb r => ?_
      · intro b s1 Q' z
        cases b <;> first | exact wpAny_pure z | exact wpAny_rule z
      · first | exact q2 | (split <;> first | exact q2 | exact SetTable.fits_plain_off q2)
      · first | exact q3 | (split <;> exact q3)
      · first | exact l1 | (split <;> exact l1)
      · exact wpAny_pure (q h' sb r _)
    · refine wpAny_bind (wpAny_pure ?_)
      simp only [↓reduceIte]
      refine lay_S ?_ ho hx hd g1 pm1 nd1 sz q2 q3 l1 fun h' sb r => ?_
      · intro b s1 Q' z
        cases b <;> first | exact wpAny_pure z | exact wpAny_rule z
      · exact wpAny_pure (q h' sb r _)
/-- a text comes into a set -/
theorem add_S {k : Str} {tk : Tok} {Q : Value → Shared → Prop} (R : SetS w s.heap a ks) (room : ks.length + 1 < scanBound)
    (q : ∀ h', Heap.SameBut a s.heap h' → SetS w h' a (addN ks k) → Q .none { s with heap := h', toks := s.toks + 1 }) : wpAny (model P w) A (call (.builtin "set.add") [.ref a, .str k tk]) Q E s := by
  have me : (PySem.strKind P w).is k (.str k tk) = true := by
    show Value.isStrOf k (.str k tk) = true
    simp [Value.isStrOf]
  refine wpAny_call_entry F.slot_set_add (R.kind (P := P)).typeIs F.entry_set_add ?_ (F.args_set_add_2 _ _)
  unfold Builtin.«set.add» Builtin.Frozenset.oneOther
  simp only [List.isEmpty_nil, bind_assoc]
  unfold Builtin.Frozenset.addrOf setAdd
  refine wpAny_bind (wpAny_pure ?_)
  try dsimp only
  refine wpAny_bind (wpAny_pure ?_)
  try dsimp only
  refine wpAny_bind (wpAny_holding (wpAny_bind ((PySem.strKind P w).pyHash me ?_)))
  refine lay_in (s := { s with toks := s.toks + 1 }) R room fun h' sb r b => ?_
  show wpAny _ _ (ret Value.none) _ _ _
  exact wpAny_pure ⟨_, rfl, q h' sb r⟩
end
end Ev

/-! ## {text for .. in ..}, sorted of a set of texts -/
namespace Ev
open PySem PySem.Spec PyProof.Rows L2
def SetSO (w : World) (a : Addr) (ks : List Str) : HO := .ext fun h => SetS w h a ks
theorem setSO_ok {w : World} {P : Program} {H : Hp} {h : Heap} {a : Addr} {ks : List Str} (R : SetS w h a ks) : ObjOk P w H h a (SetSO w a ks) := by
  refine ⟨R, ?_, fun h1 h2 p k => p.at k⟩
  obtain ⟨o, _, _, _, ho, _⟩ := R
  exact ⟨o, ho⟩
section
variable {X : Cx}
theorem setSO_at {pins : List (Addr × Obj)} {σ : L2.St} {H : Hp} {s : Shared} {a : Addr} {ks : List Str} (I : Inv X pins σ H s) (ha : H a = some (SetSO X.w a ks)) : SetS X.w s.heap a ks := (I.hok a _ ha).1
theorem addSO {pins : List (Addr × Obj)} {σ : L2.St} {H : Hp} {s : Shared} {E : Value → Shared → Prop} {a : Addr} {ks : List Str} {k : Str} {tk : Tok} {Q : Value → Shared → Prop} (I : Inv X pins σ H s) (ha : H a = some (SetSO X.w a ks)) (room : ks.length + 1 < scanBound)
    (q : ∀ s', Inv X pins σ (upd H a (SetSO X.w a (addN ks k))) s' → Q .none s') : wpAny (model X.prog X.w) X.A (call (.builtin "set.add") [.ref a, .str k tk]) Q E s := by
  refine add_S (setSO_at I ha) room fun h' sb R => q _ ?_
  have he : ∃ u, h'.get? a = some u := by
    obtain ⟨o, _, _, _, ho, _⟩ := R
    exact ⟨o, ho⟩
  exact I.write (e := a) (t' := s.toks + 1) (by rw [ha]; trivial) (.inl rfl) (fun b u hb hu => (sb.2 b hb).trans hu) he (setSO_ok R)
/-- a set comprehension whose elements are texts -/
def tScS (w : World) (wi : TI) (g : TG) (tt : TT) (te : TE) (vs : List Nat) : TE := fun σ H Q => wi σ H fun J H1 => ∀ D, H1 D = none → ∃ W : Nat → Nat → Hp → Prop, (∃ m, W 0 m (upd H1 D (SetSO w D []))) ∧ ∀ i m H, W i m H →
  (J.stop i H ∧ Q (.ref D) H) ∨ (J.go i H ∧ ∃ Nx : Hp → Prop, (∀ H', Nx H' → ∃ m', m' < m ∧ W (i + 1) m' H') ∧ ∀ x H', J.yld i H x H' → g x (wipe σ vs) H' fun σ2 H2 => wipe σ2 vs = wipe σ vs ∧ tt σ2 H2 fun b H3 =>
    if b = true then te σ2 H3 fun y H4 => ∃ (c : Str) (ks : List Str), y = .str c ∧ H4 D = some (SetSO w D ks) ∧ ks.length + 1 < scanBound ∧ Nx (upd H4 D (SetSO w D (addN ks c))) else Nx H3)
theorem pe_scS {elt tg iter : Expr} {ifs : List Expr} {scope : Scope} {own : List (Str × Nat)} {pos : Pos} {wi : TI} {g : TG} {tt : TT} {te : TE} (hc : X.calm = true) (hN : X.N.Nodup) (hi : PI X tg iter wi) (ok : BlkOk X.N X.env.scope scope own)
    (hg : ∀ (s : Shared) (H : Hp) (C : Addr) (cl : List (Str × Addr)) (fp : List Addr), PG (X.blk s H scope (compEnvC scope cl C X.env) fp) tg g) (ht : ∀ (s : Shared) (H : Hp) (C : Addr) (cl : List (Str × Addr)) (fp : List Addr), PTs (X.blk s H scope (compEnvC scope cl C X.env) fp) ifs tt)
    (he : ∀ (s : Shared) (H : Hp) (C : Addr) (cl : List (Str × Addr)) (fp : List Addr), PE (X.blk s H scope (compEnvC scope cl C X.env) fp) elt te) (hs : ∀ x, foldedSetIterable iter X.env x = pure x := by intro _; rfl) :
    PE X (.SetComp elt [⟨tg, iter, ifs, 0⟩] scope pos) (tScS X.w wi g tt te (own.map (·.2))) := by
  refine ⟨fun pins s σ H Q I h => ?_⟩
  rw [PpSet.eval_SetComp]
  have fr : ∀ y ∈ scope.names, y.2 = .free → ∃ c, X.env.cells.lookup y.1 = some c := fun y hy e => (ok.free y hy e).elim (fun k => I.ok.has _ (.inl k)) fun k => I.ok.has _ (.inr k)
  refine wpAny_comprehension_free (use := none) rfl hs (closure_ok fr) ok.kind (fun y hy e => by rw [ok.uniq y hy, e]) (thn (hi.run pins s σ H _ I h) fun xv s1 hx => thn hx fun itv s2 h2 => ?_)
  obtain ⟨it, fp, tn, J, H2, rfl, I2, T, st2, f2, q⟩ := h2
  refine PpSet.newSet_ok (newEnv_comp ?_)
  -- the set, new at D, and the block's own context
  obtain ⟨D, hD⟩ : ∃ D, s2.heap.objs.size = D := ⟨_, rfl⟩
  obtain ⟨s3, hs3⟩ : ∃ s3 : Shared, { s2 with heap := s2.heap.push { cls := .type "set", dict := none, data := .set #[] 0 (.fresh 0 0 (!X.w.params.followText "set-order")) } } = s3 := ⟨_, rfl⟩
  have h3 : s3.heap = s2.heap.push { cls := .type "set", dict := none, data := .set #[] 0 (.fresh 0 0 (!X.w.params.followText "set-order")) } := by rw [← hs3]
  have old3 : ∀ b o, s2.heap.get? b = some o → s3.heap.get? b = some o := fun b o e => by
    rw [h3]
    exact Heap.get?_push_of_some _ e
  obtain ⟨W, ⟨m0, w0⟩, turn⟩ := q D (I2.hok.fresh (Nat.le_of_eq hD))
  obtain ⟨H3, hH3⟩ : ∃ H3 : Hp, upd H2 D (SetSO X.w D []) = H3 := ⟨_, rfl⟩
  rw [hH3] at w0
  have I3 : Inv X pins σ H3 s3 := by
    rw [← hs3, ← hH3, ← hD]
    exact I2.laid (t' := s2.toks) (fun b o e => Heap.get?_push_of_some _ e) (Nat.le_refl _) (setSO_ok (setS_new X.w s2.heap))
  have f3 : ∀ b ∈ fp, FpOk X pins H3 b ∧ b < s3.heap.objs.size := fun b hb => by
    obtain ⟨o, eo, _⟩ := T.obj _ _ st2 b hb
    have lt2 := Heap.lt_size eo
    have ne : b ≠ D := by
      rw [← hD]
      exact Nat.ne_of_lt lt2
    refine ⟨⟨?_, (f2 b hb).2⟩, Heap.lt_size (old3 b o eo)⟩
    rw [← hH3, upd_ne ne]
    exact (f2 b hb).1
  have I4 := block_start I3 ok hN f3
  have pg := hg s3 H3 s3.heap.objs.size (cellsFrom (s3.heap.objs.size + 1) scope.names (cloFrom X.env.cells scope.names [])) fp
  have pt := ht s3 H3 s3.heap.objs.size (cellsFrom (s3.heap.objs.size + 1) scope.names (cloFrom X.env.cells scope.names [])) fp
  have pe := he s3 H3 s3.heap.objs.size (cellsFrom (s3.heap.objs.size + 1) scope.names (cloFrom X.env.cells scope.names [])) fp
  rw [hs3]
  show codeAny _ _ (.compStart (.SetComp elt [⟨tg, iter, ifs, 0⟩] scope pos) 0 (.ref it) (.ref s2.heap.objs.size) (compEnvC scope (cellsFrom (s3.heap.objs.size + 1) scope.names (cloFrom X.env.cells scope.names [])) s3.heap.objs.size X.env)) (compPost (model X.prog X.w) X.A X.xe none _ (.ref s2.heap.objs.size) s3.heap.objs.size) { s3 with heap := pushCells (s3.heap.push { cls := .type "dict", data := .dict #[] }) scope.names }
  rw [hD]
  obtain ⟨ce, hce⟩ : ∃ ce, compEnvC scope (cellsFrom (s3.heap.objs.size + 1) scope.names (cloFrom X.env.cells scope.names [])) s3.heap.objs.size X.env = ce := ⟨_, rfl⟩
  have cL : ce.locals = s3.heap.objs.size := by
    rw [← hce]
    rfl
  obtain ⟨s4, hs4⟩ : ∃ s4 : Shared, { s3 with heap := pushCells (s3.heap.push { cls := .type "dict", data := .dict #[] }) scope.names } = s4 := ⟨_, rfl⟩
  rw [hce] at I4 pg pt pe ⊢
  rw [hs4] at I4 ⊢
  have st4 : tn 0 s4.heap := T.keep _ _ _ st2 fun b _ o e => by
    rw [← hs4]
    exact pushCells_keeps _ _ _ _ (Heap.get?_push_of_some _ (old3 b o e))
  let Y := X.blk s3 H3 scope ce fp
  have out : ∀ {σ' : L2.St} {H' : Hp} {s' : Shared}, Inv Y [] σ' H' s' → (∀ b ∈ fp, H' b = none) → ∀ b ∈ fp, FpOk Y [] H' b := fun {σ' H' s'} I' hn b hb =>
    ⟨hn b hb, (I'.ok.exf b hb).1, I'.ok.exfs b hb, .inl hb, fun x c e => (I'.ok.exf b hb).2 x c e, fun p hp => absurd (show p ∈ ([] : List (Addr × Obj)) ++ [] from hp) (by simp)⟩
  -- what holds between two turns
  let Mid : Nat → Shared → Prop := fun n s' => ∃ i H', Inv Y [] (wipe σ (own.map (·.2))) H' s' ∧ tn i s'.heap ∧ (∀ b ∈ fp, H' b = none) ∧ W i n H'
  have loop : codeAny (model X.prog X.w) X.A (.compLoop (.SetComp elt [⟨tg, iter, ifs, 0⟩] scope pos) 0 (.ref it) (.ref D) ce) (compPost (model X.prog X.w) X.A X.xe none (EP X pins σ Q) (.ref D) s3.heap.objs.size) s4 := by
    refine PpSet.compLoopS_any Mid (fun n s5 ⟨i, H5, I5, st5, n5, w5⟩ => ?_) m0 ⟨0, H3, I4, st4, fun b hb => (f3 b hb).1.1, w0⟩
    rcases turn i n H5 w5 with ⟨stop, qq⟩ | ⟨go, Nx, hNx, step⟩
    · refine thnF (T.done Y rfl rfl rfl hc i [] s5 _ H5 (fun _ _ => False) I5 (out I5 n5) st5 stop) fun r s6 ⟨hr, I6⟩ => ?_
      subst hr
      have I7 : Inv X pins σ H5 s6 := I3.call' (ch := fp) I6.os I6.base I6.hok I6.bare fun b hb => ⟨(f3 b hb).1.2.2.2.1, (f3 b hb).1.2.1, (f3 b hb).1.2.2.2.2.1, (f3 b hb).1.2.2.2.2.2⟩
      have nC : H5 s3.heap.objs.size = none := by
        rw [← cL]
        exact I6.free
      obtain ⟨m, hn, _⟩ := I6.loc
      have hn : s6.heap.Ns ce.locals m := hn
      rw [cL] at hn
      obtain ⟨z0, z1, _, z3, z4, z5⟩ := I3.fpOk (Nat.le_refl _) nC
      exact ⟨m, hn, fun h'' sb => ⟨.ref D, H5, I7.turned (t' := s6.toks) (fun b o hb e => (sb.2 b hb).trans e) z0 z1 z3 z4 z5, rfl, qq⟩⟩
    · refine thnF (T.item Y rfl rfl rfl hc i [] s5 _ H5 (fun _ _ => False) I5 (out I5 n5) st5 go) fun r s6 ⟨u, hr, h6⟩ => ?_
      subst hr
      refine thnF h6 fun _ s7 ⟨x, H7, I7, r7, y7, st7, n7⟩ => ?_
      refine thnF (pg.run _ s7 _ H7 x u _ (I7.pinned (out I7 n7) (T.obj _ _ st7)) r7 (step x H7 y7)) fun _ s8 ⟨σ8, H8, I8, hw8, q8⟩ => ?_
      refine thnF (pt.run _ s8 σ8 H8 _ I8 q8) fun b s9 ⟨H9, I9, q9⟩ => ?_
      have next : ∀ {s' : Shared} {H' : Hp}, Inv Y ([] ++ pinsAt fp s7.heap) σ8 H' s' → Nx H' → ∃ m, m < n ∧ Mid m s' := fun {s' H'} I' nx => by
        obtain ⟨m', hm, w'⟩ := hNx H' nx
        have pin' : ∀ b ∈ fp, ∀ o, s7.heap.get? b = some o → s'.heap.get? b = some o ∧ H' b = none := fun b hb o e => by
          have z := I'.pin (b, o) (List.mem_append_right _ (List.mem_append_right _ (mem_pinsAt hb e)))
          exact ⟨z.1, z.2.1⟩
        have hl : (wipe σ (own.map (·.2))).length = σ8.length := by
          rw [← hw8, wipe_length]
        refine ⟨m', hm, i + 1, H', (I'.unpinned (pins := [])).weak hl (fun j v e => ?_), T.keep _ _ _ st7 fun b hb o e => (pin' b hb o e).1, fun b hb => ?_, w'⟩
        · rw [← hw8] at e
          exact (wipe_some e).1
        · obtain ⟨o, e, _⟩ := T.obj _ _ st7 b hb
          exact (pin' b hb o e).2
      dsimp only at q9
      by_cases hb : b = true
      · subst hb
        rw [if_pos rfl] at q9 ⊢
        refine thnF (pe.run _ s9 σ8 H9 _ I9 q9) fun z s10 ⟨yv, H10, I10, r10, c0, ks, ey, hD10, hz10, nx⟩ => ?_
        subst ey
        obtain ⟨tk, rfl⟩ := (show ∃ tk, z = Value.str c0 tk from r10)
        exact addSO (X := Y) I10 hD10 hz10 fun s11 I11 => next I11 nx
      · rw [if_neg hb] at q9 ⊢
        exact next I9 q9
  exact PpSet.codeAny_compStart_set loop (T.self X.A 0 _ _ _ st4 loop)
end
end Ev

/-! ## sorted(set of texts), set(list of texts) -/
namespace Ev
open PySem PySem.Spec PyProof.Rows L2
section
variable {P : Program} {w : World} {A : Around} {E : Value → Shared → Prop} {s : Shared} {a : Addr} {ks : List Str}
theorem strs_map {w : World} : ∀ {vs : List Value}, (∀ v ∈ vs, ∃ x tk, v = Value.str x tk) → StrsAre vs (vs.map fun v => keyS (0, v))
  | [], _ => .nil
  | v :: vs, h => by
    obtain ⟨x, tk, rfl⟩ := h v (List.mem_cons_self ..)
    exact .cons x tk (strs_map (w := w) fun u hu => h u (List.mem_cons_of_mem _ hu))
theorem sorted_S {Q : Value → Shared → Prop} (R : SetS w s.heap a ks) (hh : A.handled = none) (few : ks.length < 64)
    (q : ∀ s' p (out : Array Value) (c : Nat) (ys : List Str), (∀ b o, s.heap.get? b = some o → s'.heap.get? b = some o) → s'.gens = s.gens → s'.os = s.os → s.heap.objs.size ≤ p →
      s'.heap.get? p = some (seqObj "list" out c) → StrsAre out.toList ys → ys.Perm ks → sortedS ys = true → Q (.ref p) s') : wpAny (model P w) A (call (.builtin "sorted") [.ref a]) Q E s := by
  obtain ⟨o, es, ep, t, ho, hx, hd, g, pm, nd, hb, hf, hr, hl⟩ := R
  refine Calls.call_function_entry kind_sorted plain_sorted entry_sorted (args_sorted1 _) ?_
  unfold Builtin.«sorted»
  refine wpAny_bind (m := checkCount "sorted" 1 1 _) (wpAny_pure ?_)
  refine wpAny_bind (collect_set (A := A.in1) hh ⟨o, ho, hx.1, hd⟩ hf hb hr hl fun s1 vs k1 hz g1 o1 pv => ?_)
  have all : ∀ v ∈ vs, ∃ x tk, v = Value.str x tk := fun v hv => by
    obtain ⟨e, he, rfl⟩ := List.mem_map.mp (pv.mem_iff.mp hv)
    obtain ⟨x, tk, rfl⟩ := g e he
    exact ⟨x, tk, rfl⟩
  have hS := strs_map (w := w) all
  have pk : (vs.map fun v => keyS (0, v)).Perm ks := by
    refine (pv.map fun v => keyS (0, v)).trans ?_
    rw [List.map_map]
    exact pm
  have hvl : vs.length = ks.length := by
    have z := pk.length_eq
    rw [List.length_map] at z
    exact z
  refine wpAny_bind (wpAny_newList ?_ (by rw [hvl, sizeLine_eq]; omega))
  have hoL : (s1.heap.push (seqObj "list" vs.toArray 0)).get? s1.heap.objs.size = some (seqObj "list" vs.toArray 0) := Heap.get?_push_size _ rfl
  refine wpAny_bind (wpAny_holding (wpAny_call_entry slot_list_sort ⟨_, hoL, rfl⟩ entry_list_sort
    (list_sort_treeK strKind_oneLt hoL hS.keysOf (fun v₁ v₂ rest e => keyKind_strs (by rw [← e]; exact hS)) (by rw [hvl]; exact few) fun st' hp hs => ⟨_, rfl, ?_⟩) (args_list_sort _)))
  obtain ⟨ys, y1, y2, y3⟩ := sorted_out_str hS hp hs
  obtain ⟨c, hc⟩ := sortedHeap_at (vs := vs) (out := (arrOf st').map (·.2)) hoL
  refine wpAny_pure ⟨_, rfl, q _ s1.heap.objs.size _ c ys (fun b u e => ?_) g1 o1 hz hc y1 (y2.trans pk) y3⟩
  have z := k1 b u e
  have lt := Heap.lt_size z
  show (sortedHeap (s1.heap.push (seqObj "list" vs.toArray 0)) s1.heap.objs.size vs ((arrOf st').map (·.2))).get? b = some u
  rw [sortedHeap_old (Nat.ne_of_lt lt) (by rw [size_push']; exact Nat.lt_succ_of_lt lt)]
  exact Heap.get?_push_of_some _ z
/-- the members, in the order in which they came -/
def uniq : List Str → List Str → List Str
  | acc, [] => acc
  | acc, x :: xs => uniq (addN acc x) xs
theorem uniq_snoc : ∀ (xs acc : List Str) (x : Str), uniq acc (xs ++ [x]) = addN (uniq acc xs) x
  | [], _, _ => rfl
  | y :: xs, acc, x => uniq_snoc xs (addN acc y) x
theorem uniq_len : ∀ (xs acc : List Str), (uniq acc xs).length ≤ acc.length + xs.length
  | [], _ => Nat.le_refl _
  | x :: xs, acc => by
    have h := uniq_len xs (addN acc x)
    have h2 := addN_len (ks := acc) (k := x)
    show (uniq (addN acc x) xs).length ≤ acc.length + (xs.length + 1)
    omega
theorem uniq_mem : ∀ (xs acc : List Str) (z : Str), z ∈ uniq acc xs ↔ z ∈ acc ∨ z ∈ xs
  | [], acc, z => by
    rw [show uniq acc [] = acc from rfl]
    simp
  | x :: xs, acc, z => by
    show z ∈ uniq (addN acc x) xs ↔ _
    rw [uniq_mem xs, mem_addN, List.mem_cons, or_assoc]
theorem uniq_nodup : ∀ (xs acc : List Str), acc.Nodup → (uniq acc xs).Nodup
  | [], _, h => h
  | x :: xs, acc, h => uniq_nodup xs (addN acc x) (addN_nodup h)
/-- the loop of set.update, over texts -/
theorem update_S {I : Addr} {fp wr : List Addr} {G : Array GenState → Array GenState → Prop} {n : Nat} {Pv : Nat → Value → Prop} {St : Nat → Shared → Prop} {R : Result → Shared → Prop} (W : WalksS P w A.in1 I fp wr G n Pv St) (D : Addr) (hDf : D ∉ fp)
    (zs : List Str) (hn : n = zs.length) (hv : ∀ i v, Pv i v → ∃ x tk, zs[i]? = some x ∧ v = .str x tk) (few : zs.length + 1 < scanBound) :
    ∀ (k i : Nat) (s : Shared), n - i = k → i ≤ n → St i s → SetS w s.heap D (uniq [] (zs.take i)) → (∀ s', Moved (D :: wr) G s s' → SetS w s'.heap D (uniq [] zs) → R (.ok (.ret .none)) s') →
      codeAny (model P w) A (.builtin "set.update.loop" ⟨[.ref D, .ref I], []⟩) R s := by
  have hDw : D ∉ wr := fun z => hDf (W.sub _ z)
  have sub : ∀ b ∈ wr, b ∈ D :: wr := fun b hb => List.mem_cons_of_mem _ hb
  intro k
  induction k with
  | zero =>
    intro i s hk hi hst hS q
    have hin : i = zs.length := by omega
    rw [hin, List.take_length] at hS
    have hin' : i = n := by omega
    subst hin'
    refine codeAny_builtin F.entry_set_update_loop ?_
    rw [Around.under_plainId F.plain_set_update_loop _]
    show wpAny _ A.in1 (pyNext (.ref I) >>= _) _ _ s
    refine wpAny_bind (W.done s _ _ hst fun s' hm => ?_)
    show wpAny _ A.in1 (ret Value.none) _ _ s'
    exact wpAny_pure (q s' (hm.mono sub) (hS.at fun o e => hm.heap D o hDw e))
  | succ k ih =>
    intro i s hk hi hst hS q
    have hlt : i < n := by omega
    refine codeAny_builtin F.entry_set_update_loop ?_
    rw [Around.under_plainId F.plain_set_update_loop _]
    show wpAny _ A.in1 (pyNext (.ref I) >>= _) _ _ s
    refine wpAny_bind (W.item i s _ _ hlt hst fun v s' hP hst' hm => ?_)
    obtain ⟨x, tk, hx, rfl⟩ := hv i v hP
    have hS' : SetS w s'.heap D (uniq [] (zs.take i)) := hS.at fun o e => hm.heap D o hDw e
    show wpAny _ A.in1 (holding [Value.str x tk] (setAdd D (.str x tk)) >>= _) _ _ s'
    refine wpAny_bind (wpAny_holding ?_)
    unfold setAdd
    have me : (PySem.strKind P w).is x (.str x tk) = true := by
      show Value.isStrOf x (.str x tk) = true
      simp [Value.isStrOf]
    refine wpAny_holding (wpAny_bind ((PySem.strKind P w).pyHash me ?_))
    have room : (uniq [] (zs.take i)).length + 1 < scanBound := by
      have z := uniq_len (zs.take i) []
      rw [List.length_take] at z
      have z0 : ([] : List Str).length = 0 := rfl
      omega
    refine lay_in (s := { s' with toks := s'.toks + 1 }) hS' room fun h' sb R2 b => ?_
    rw [← uniq_snoc, show zs.take i ++ [x] = zs.take (i + 1) by rw [List.take_add_one, hx]; rfl] at R2
    refine wpAny_pure ⟨plainId_quiet F.plain_set_update_loop _, ih (i + 1) _ (by omega) hlt (W.frame _ s' _ _ hst' (Nat.le_add_right _ _) fun b hb o e => ?_) R2 fun s'' hm'' hS'' => ?_⟩
    · rw [sb.2 b (fun z : b = D => hDf (by rw [← z]; exact hb))]
      exact e
    · refine q s'' (Moved.trans W.gtrans ((hm.mono sub).then_heap (Nat.le_add_right _ _) fun b o hb e => ?_) hm'') hS''
      rw [sb.2 b (fun z : b = D => hb (by rw [z]; exact List.mem_cons_self))]
      exact e
end
section
variable {X : Cx}
/-- sorted(set of texts) -/
def rSortSS (w : World) : List V → Hp → VK → Prop := fun vs H Q => ∃ (a : Addr) (ks : List Str), vs = [V.ref a] ∧ H a = some (SetSO w a ks) ∧ ks.length < 64 ∧ ∀ (ys : List Str) (p : Addr), ys.Perm ks → sortedS ys = true → H p = none → Q (.ref p) (upd H p (.lst (ys.map V.str)))
theorem cr_sortSS (hc : X.calm = true) : CallR X (.builtin "sorted") (rSortSS X.w) := by
  intro pins s σ H vs us Q I r h
  obtain ⟨a, ks, rfl, ha, few, q⟩ := h
  rw [Vals.ref1 r]
  refine sorted_S (setSO_at I ha) (I.ok.hd hc) few fun s' p out c ys k g o hp hg hi pm hs => ?_
  have hn : H p = none := I.hok.fresh hp
  have hlen : (ys.map V.str).length ≤ sizeLine := by
    have z := pm.length_eq
    rw [List.length_map, sizeLine_eq]
    omega
  have J : Inv X pins σ (upd H p (.lst (ys.map V.str))) { s with heap := s'.heap, gens := s'.gens, drawn := s'.drawn, toks := s'.toks } :=
    I.call (ch := []) (Un.laid k hp hn) (I.hok.laid k hp ⟨hlen, out.toList, c, vals_of_strs hi, hg⟩) (by rw [g]; exact I.bare) (fun _ z => nomatch z)
  have e : s' = { s with heap := s'.heap, gens := s'.gens, drawn := s'.drawn, toks := s'.toks } := by
    cases s'
    cases s
    cases o
    rfl
  rw [e]
  exact ⟨.ref p, _, J, rfl, q ys p pm hs hn⟩
end
end Ev

/-! ## set(list of texts) -/
namespace Ev
open PySem PySem.Spec PyProof.Rows L2
section
variable {P : Program} {w : World} {A : Around} {E : Value → Shared → Prop} {s : Shared}
theorem strs_get : ∀ {vs : List Value} {zs : List Str} {i : Nat} {v : Value}, StrsAre vs zs → vs[i]? = some v → ∃ x tk, zs[i]? = some x ∧ v = .str x tk
  | _, _, _, _, .nil, e => by cases e
  | _, _, 0, _, .cons x tk _, e => by
    cases e
    exact ⟨x, tk, rfl, rfl⟩
  | _, _, i + 1, _, .cons _ _ h, e => strs_get (i := i) h e
/-- a new empty set behind the heap -/
abbrev emp (w : World) (h : Heap) : Heap := h.push { cls := .type "set", dict := none, data := .set #[] 0 (.fresh 0 0 (!w.params.followText "set-order")) }
theorem set_S {l : Addr} {items : Array Value} {zs : List Str} {Q : Value → Shared → Prop} (hh : A.handled = none) (hl : s.heap.IsList l items) (hit : StrsAre items.toList zs) (few : zs.length + 1 < scanBound)
    (q : ∀ (h' : Heap) (tk : Nat), SetS w h' s.heap.objs.size (uniq [] zs) → (∀ b o, s.heap.get? b = some o → h'.get? b = some o) → Q (.ref s.heap.objs.size) { s with heap := h', toks := tk }) :
    wpAny (model P w) A (call (.type "set") [.ref l]) Q E s := by
  have hz : items.size = zs.length := by
    have z := hit.length
    rw [Array.length_toList] at z
    exact z
  obtain ⟨c, tl, hmro⟩ := F.called_set.mro
  have f1 := F.called_set.made
  have f2 := F.called_set.sub
  have f3 := F.called_set.notType
  have f4 := F.called_set.canCreate
  have f5 := F.typeCall_set_1 (.ref l)
  refine wpAny_call (codeAny_of_tree ?_)
  show wpAny _ _ (callAny (.type "set") _) _ _ _
  refine wpAny_pure ⟨Code.quiet_builtin _ (by decide +kernel), codeAny_builtin F.entry_type_call ?_⟩
  rw [Around.under_plain (weight_type_call_type "set" [.ref l] []) rfl]
  repeat (any_goals (first | assumption | wp_step))
  refine codeAny_mono (code_set_led1 (.ref l) (E := E) (Q₁ := fun v s1 => v = .ref s.heap.objs.size ∧ s1 = { s with heap := emp w s.heap }) ⟨rfl, rfl⟩) fun r s1 hr => ?_
  match r, hr with
  | .error e, hr => exact hr
  | .ok (.ret v), hr =>
    obtain ⟨rfl, rfl⟩ := hr
    have hD : (emp w s.heap).get? s.heap.objs.size = some { cls := .type "set", dict := none, data := .set #[] 0 (.fresh 0 0 (!w.params.followText "set-order")) } := Heap.get?_push_size _ rfl
    have hT : Shared.TypeIs { s with heap := emp w s.heap } (.ref s.heap.objs.size) "set" := ⟨_, hD, rfl⟩
    have f6 := F.called_set.init.lookup
    have f7 := F.called_set.init.bind (.ref s.heap.objs.size)
    repeat (any_goals (first | assumption | wp_step))
    refine codeAny_mono (codeAny_call_builtin (R := wants (fun r s2 => r = .none ∧ ∃ h' tk, s2 = { s with heap := h', toks := tk } ∧ SetS w h' s.heap.objs.size (uniq [] zs) ∧ ∀ b o, s.heap.get? b = some o → h'.get? b = some o) E)
      F.called_set.init.plain F.entry_set_init (check_set_init_1 hT ?_)) fun r2 s2 hr2 => ?_
    · obtain ⟨⟨oc, od, odt, osl⟩, ho, hc, nl, hd⟩ := hl
      simp only at hc hd
      subst hc hd
      have ho1 : (emp w s.heap).get? l = some { cls := .type "list", dict := od, data := .seq items nl, slots := osl } := Heap.get?_push_of_some _ ho
      have l1 : (emp w s.heap).IsList l items := ⟨_, ho1, rfl, nl, rfl⟩
      have f8 := F.sub_list_set
      have f9 := F.sub_list_frozenset
      have f10 : (Value.type "list" == Value.type "dict") = false := by decide
      unfold Builtin.«set.__init__» noKeywords Builtin.Frozenset.updateFrom
      generalize hPI : pyIter = PI
      wp_walk
      subst hPI
      refine wpAny_pyIter_list l1 (wpAny_bind (wpAny_runValue ?_))
      have lt : l < s.heap.objs.size := Heap.lt_size ho
      have h3 : A.in1.in1.in1.handled = none := by simp [hh]
      have sz : (emp w s.heap).objs.size = s.heap.objs.size + 1 := Heap.size_push ..
      have neI : l ≠ (emp w s.heap).objs.size := by
        rw [sz]
        exact Nat.ne_of_lt (Nat.lt_succ_of_lt lt)
      have nf : s.heap.objs.size ∉ [(emp w s.heap).objs.size, l] := by
        rw [sz, List.mem_cons, List.mem_singleton, not_or]
        exact ⟨Nat.ne_of_lt (Nat.lt_succ_self _), Nat.ne_of_gt lt⟩
      have hv : ∀ (i : Nat) (v : Value), items[i]? = some v → ∃ x tk, zs[i]? = some x ∧ v = .str x tk := fun i v e => by
        have z : items.toList[i]? = some v := by
          rw [Array.getElem?_toList]
          exact e
        exact strs_get hit z
      refine update_S ((Walks.list h3 _ l neI items).toS) s.heap.objs.size nf zs hz hv few (items.size - 0) 0 _ (by omega) (Nat.zero_le _) ⟨⟨_, Heap.get?_push_size _ rfl, rfl, rfl⟩, l1.push _⟩
        ((setS_new w s.heap).at fun o e => Heap.get?_push_of_some _ e) fun s' hm hS' => ?_
      obtain ⟨h', g2, d', tk', os'⟩ := s'
      have eg : g2 = s.gens := hm.gens
      have ed : d' = s.drawn := hm.drawn
      have eo : os' = s.os := hm.os
      subst eg
      subst ed
      subst eo
      show wpAny _ _ _ _ _ _
      refine wpAny_pure ?_
      show wpAny _ _ (ret Value.none) _ _ _
      refine wpAny_pure ⟨rfl, h', tk', rfl, hS', fun b o e => ?_⟩
      have lb := Heap.lt_size e
      refine hm.heap b o (fun z => ?_) (Heap.get?_push_of_some _ (Heap.get?_push_of_some _ e))
      rcases List.mem_cons.mp z with z | z
      · rw [z] at lb
        exact Nat.lt_irrefl _ lb
      · have z := List.mem_singleton.mp z
        rw [z, sz] at lb
        exact Nat.not_lt_of_le (Nat.le_succ _) lb
    · match r2, hr2 with
      | .error e, hr2 => exact hr2
      | .ok (.ret v), hr2 =>
        obtain ⟨rfl, h', tk, rfl, hS', hk⟩ := hr2
        repeat (any_goals (first | assumption | wp_step))
        exact q _ _ hS' hk
      | .ok .next, hr2 => exact hr2.elim
      | .ok .brk, hr2 => exact hr2.elim
      | .ok .cont, hr2 => exact hr2.elim
  | .ok .next, hr => exact hr.elim
  | .ok .brk, hr => exact hr.elim
  | .ok .cont, hr => exact hr.elim
end
section
variable {X : Cx}
/-- set(list of texts) -/
def rSetS (K : PySem.W.Frag) (w : World) : List V → Hp → VK → Prop := fun xs H Q => ∃ (l : Addr) (zs : List Str), xs = [V.ref l] ∧ SqL K H l (zs.map V.str) ∧ zs.length < 4000 ∧ ∀ a, H a = none → Q (.ref a) (upd H a (SetSO w a (uniq [] zs)))
theorem cr_setS (hc : X.calm = true) : CallR X (.type "set") (rSetS X.K X.w) := by
  intro pins s σ H xs us Q I r h
  obtain ⟨l, zs, rfl, hl, few, q⟩ := h
  rw [Vals.ref1 r]
  obtain ⟨its, rv, pl, hz⟩ := I.list hl
  have hn : H s.heap.objs.size = none := I.hok.fresh (Nat.le_refl _)
  have hb : scanBound = 4096 := rfl
  refine set_S (P := X.prog) (w := X.w) (I.ok.hd hc) pl.isList (by simpa using rv.strs) (by omega) fun h' tk R k => ?_
  exact ⟨.ref s.heap.objs.size, upd H s.heap.objs.size (SetSO X.w s.heap.objs.size (uniq [] zs)), I.laid (t' := tk) k (Nat.le_refl _) (setSO_ok R), rfl, q _ hn⟩
end
end Ev

/-! ## Programs, pairs, and what comprehensions over them give -/
namespace Ev
open PySem PySem.Spec PyProof.Rows L2
/-- a statement that is never reached -/
theorem ps_dead {X : Cx} {st : Stmt} : PS X st (fun _ _ _ => False) := ⟨fun _ _ _ _ _ _ h => h.elim⟩
theorem pss_dead {X : Cx} {b : List Stmt} : PSs X b (fun _ _ _ => False) := ⟨fun _ _ _ _ _ _ h => h.elim⟩
inductive It where
  | line (x : Str) (t : Int)
  | loop (r : Int) (is : List It)
mutual
def It.d : It → PyData
  | .line x t => .tuple [.str "line", .str x, .int t]
  | .loop r is => .tuple [.str "loop", .int r, .tuple (Its.d is)]
def Its.d : List It → List PyData
  | [] => []
  | i :: is => It.d i :: Its.d is
end
theorem Its.d_map : ∀ is : List It, Its.d is = is.map It.d
  | [] => by rw [Its.d]; rfl
  | i :: is => by rw [Its.d, Its.d_map is]; rfl
/-- loops at most n deep, numbers from 0 below 2 ^ B -/
def Okp (B : Nat) : Nat → It → Prop
  | _, .line _ t => 0 ≤ t ∧ t < (2 ^ B : Nat)
  | 0, .loop _ _ => False
  | n + 1, .loop r is => 0 ≤ r ∧ r < (2 ^ B : Nat) ∧ ∀ i ∈ is, Okp B n i
theorem okp_line {B n : Nat} {x : Str} {t : Int} : Okp B n (.line x t) ↔ 0 ≤ t ∧ t < (2 ^ B : Nat) := by
  cases n <;> exact Iff.rfl
mutual
/-- the lines with their ticks, all rounds r times -/
def It.sp (r : Int) : It → List (Str × Int)
  | .line x t => [(x, r * t)]
  | .loop k is => Its.sp (r * k) is
def Its.sp (r : Int) : List It → List (Str × Int)
  | [] => []
  | i :: is => It.sp r i ++ Its.sp r is
end
theorem Its.sp_app (r : Int) : ∀ is js : List It, Its.sp r (is ++ js) = Its.sp r is ++ Its.sp r js
  | [], js => by
    rw [List.nil_append, Its.sp]
    rfl
  | i :: is, js => by
    rw [List.cons_append, Its.sp, Its.sp, Its.sp_app r is js, List.append_assoc]
theorem Its.sp_one (r : Int) (i : It) : Its.sp r [i] = It.sp r i := by
  rw [Its.sp, Its.sp, List.append_nil]
mutual
/-- how many lines there are -/
def It.nl : It → Nat
  | .line _ _ => 1
  | .loop _ is => Its.nl is
def Its.nl : List It → Nat
  | [] => 0
  | i :: is => It.nl i + Its.nl is
end
mutual
theorem It.sp_len (r : Int) : ∀ i : It, (It.sp r i).length = It.nl i
  | .line x t => by
    rw [It.sp, It.nl]
    rfl
  | .loop k is => by
    rw [It.sp, It.nl, Its.sp_len (r * k) is]
theorem Its.sp_len (r : Int) : ∀ is : List It, (Its.sp r is).length = Its.nl is
  | [] => by
    rw [Its.sp, Its.nl]
    rfl
  | i :: is => by
    rw [Its.sp, Its.nl, List.length_append, It.sp_len r i, Its.sp_len r is]
end
theorem Its.nl_app : ∀ is js : List It, Its.nl (is ++ js) = Its.nl is + Its.nl js
  | [], js => by
    rw [List.nil_append, Its.nl, Nat.zero_add]
  | i :: is, js => by
    rw [List.cons_append, Its.nl, Its.nl, Its.nl_app is js, Nat.add_assoc]
theorem Its.nl_mem : ∀ {is : List It} {i : It}, i ∈ is → It.nl i ≤ Its.nl is
  | j :: is, i, h => by
    rw [Its.nl]
    rcases List.mem_cons.mp h with rfl | h
    · exact Nat.le_add_right _ _
    · exact Nat.le_trans (Its.nl_mem h) (Nat.le_add_left _ _)
/-! ### pairs -/
def pairD (p : Str × Int) : PyData := .tuple [.str p.1, .int p.2]
/-- a list of pairs -/
def gPl (K : PySem.W.Frag) (ps : List (Str × Int)) : GP := ⟨fun H u => ∃ l us, u = .ref l ∧ H l = some (.lst us) ∧ DaAll K H us (ps.map pairD), fun s ⟨l, us, h1, h2, h3⟩ => ⟨l, us, h1, s _ _ h2, h3.mono s⟩⟩
section
variable {K : PySem.W.Frag} {H H' : Hp}
theorem da_app {us vs : List V} {ds es : List PyData} : DaAll K H us ds → DaAll K H vs es → DaAll K H (us ++ vs) (ds ++ es)
  | .nil, k => k
  | .cons h t, k => .cons h (da_app t k)
theorem daAll_len : ∀ {vs : List V} {ds : List PyData}, DaAll K H vs ds → vs.length = ds.length
  | _, _, .nil => rfl
  | _, _, .cons _ t => by
    rw [List.length_cons, List.length_cons, daAll_len t]
theorem daAll_at : ∀ {vs : List V} {ds : List PyData} {j : Nat} {x : V}, DaAll K H vs ds → vs[j]? = some x → ∃ d, ds[j]? = some d ∧ Da K H x d
  | _, _, _, _, .nil, e => by cases e
  | _, _, 0, _, .cons h _, e => by
    cases e
    exact ⟨_, rfl, h⟩
  | _, _, j + 1, _, .cons _ t, e => daAll_at (j := j) t e
mutual
/-- made of tuples alone -/
def tupD : PyData → Bool
  | .tuple ds => tupDs ds
  | .list _ => false
  | .dict _ => false
  | _ => true
def tupDs : List PyData → Bool
  | [] => true
  | d :: ds => tupD d && tupDs ds
end
/-- what is no list stays -/
def Kt (H H' : Hp) : Prop := ∀ b o, H b = some o → (∀ xs, o ≠ .lst xs) → H' b = some o
theorem Kt.of {H H' : Hp} (s : Same H H') : Kt H H' := fun b o e _ => s b o e
theorem Kt.put {H : Hp} {l : Addr} {xs : List V} {o : HO} (h : H l = some (.lst xs)) : Kt H (upd H l o) := fun b u e n => by
  have z : b ≠ l := fun z => by
    rw [z, h] at e
    cases e
    exact n xs rfl
  rw [upd_ne z]
  exact e
theorem Kt.trans {H1 H2 H3 : Hp} (a : Kt H1 H2) (b : Kt H2 H3) : Kt H1 H3 := fun x o e n => b x o (a x o e n) n
mutual
theorem Da.kt (k : Kt H H') : ∀ {v : V} {d : PyData}, tupD d = true → Da K H v d → Da K H' v d
  | _, _, _, .non => .non
  | _, _, _, .bl b => .bl b
  | _, _, _, .int i => .int i
  | _, _, _, .str x => .str x
  | _, _, n, .lst _ _ => by
    rw [tupD] at n
    cases n
  | _, _, n, .tup h t => by
    rw [tupD] at n
    refine .tup ?_ (DaAll.kt k n t)
    rcases h with (e | ⟨o, e⟩) | e
    · exact .inl (.inl (k _ _ e fun xs z => by cases z))
    · exact .inl (.inr ⟨o, k _ _ e fun xs z => by cases z⟩)
    · exact .inr e
  | _, _, n, .dic _ _ => by
    rw [tupD] at n
    cases n
theorem DaAll.kt (k : Kt H H') : ∀ {vs : List V} {ds : List PyData}, tupDs ds = true → DaAll K H vs ds → DaAll K H' vs ds
  | _, _, _, .nil => .nil
  | _, _, n, .cons h t => by
    rw [tupDs, Bool.and_eq_true] at n
    exact .cons (Da.kt k n.1 h) (DaAll.kt k n.2 t)
end
theorem tup_pairs : ∀ ps : List (Str × Int), tupDs (ps.map pairD) = true
  | [] => by rw [List.map_nil, tupDs]
  | p :: ps => by
    rw [List.map_cons, tupDs, tup_pairs ps, Bool.and_true]
    unfold pairD
    simp [tupD, tupDs]
theorem da_pair {x : V} {p : Str × Int} (h : Da K H x (pairD p)) : ∃ a, x = .ref a ∧ SqT K H a [.str p.1, .int p.2] := by
  unfold pairD at h
  cases h with
  | @tup a xs _ hs ha =>
  cases ha with
  | cons h1 ha =>
  cases ha with
  | cons h2 ha =>
  cases ha
  cases h1
  cases h2
  exact ⟨a, rfl, hs⟩
end
/-! ### comprehensions whose elements are plain values -/
section
variable {K : PySem.W.Frag} {H0 : Hp} {σ : L2.St} {te ti : TE} {tt : TT}
/-- over a list that an expression gives -/
theorem g_lcF {ds : List PyData} {f : Nat → Bool} {y : Nat → V} {g : TG} {vs : List Nat} (hi : ∀ (H : Hp) (Q : VK), Same H0 H → (∀ H' l us, Same H H' → SqL K H' l us → DaAll K H' us ds → Q (.ref l) H') → ti σ H Q) (hz : ds.length ≤ 1000000)
    (he : ∀ (j : Nat) (x : V) (d : PyData), ds[j]? = some d → ∀ (H : Hp) (R : VK) (N : Hp → Prop), Same H0 H → Da K H x d → (f j = true → ∀ H', Same H H' → R (y j) H') → (f j = false → ∀ H', Same H H' → N H') →
      g x (wipe σ vs) H fun σ2 H2 => wipe σ2 vs = wipe σ vs ∧ tt σ2 H2 fun b H3 => if b = true then te σ2 H3 R else N H3) :
    Gives H0 (tLc (iList K ti) g tt te vs) (gLst ((((List.range ds.length).filter f).map y).map gEq)) σ := fun H Q s q => by
  refine hi H _ s fun H1 l us s1 hl ha => ⟨l, rfl, ⟨us, hl⟩, fun D nD => ?_⟩
  have sl := sizeLine_eq
  have hlen := daAll_len ha
  refine lc_list (K := K) (a := l) (xs := us) (fun k H' => Same H1 H' ∧ H' D = some (.lst (((List.range k).filter f).map y))) ⟨same_put nD, upd_same⟩ (fun k H' _ ⟨s', _⟩ => s'.seq hl) ?_ ?_
  · rintro k x H' hk ⟨s', eD⟩
    obtain ⟨d, hd, hx⟩ := daAll_at ha hk
    have hkl : k < ds.length := (List.getElem?_eq_some_iff.mp hd).1
    have hll : (((List.range k).filter f).map y).length < sizeLine := by
      rw [List.length_map]
      have z := List.length_filter_le f (List.range k)
      rw [List.length_range] at z
      omega
    refine cast ?_ (he k x d hd H' (fun y' H4 => ∃ acc, H4 D = some (.lst acc) ∧ acc.length < sizeLine ∧ Same H1 (upd H4 D (.lst (acc ++ [y']))) ∧ upd H4 D (.lst (acc ++ [y'])) D = some (.lst (((List.range (k + 1)).filter f).map y)))
      (fun H4 => Same H1 H4 ∧ H4 D = some (.lst (((List.range (k + 1)).filter f).map y))) (s.trans (s1.trans s')) (hx.mono s') (fun e H4 s4 => ⟨_, s4 _ _ eD, hll, ?_, ?_⟩) (fun e H4 s4 => ⟨s'.trans s4, ?_⟩))
    · rfl
    · intro b o e
      rw [upd_ne (ne_of_none e nD)]
      exact s4 _ _ (s' _ _ e)
    · rw [upd_same, List.range_succ, List.filter_append, List.map_append]
      simp [e]
    · rw [List.range_succ, List.filter_append]
      simp [e]
      exact s4 _ _ eD
  · rintro H' ⟨s', eD⟩
    rw [hlen] at eD
    exact q H' _ (s1.trans s') ⟨D, _, rfl, eD, allEq⟩
theorem range_map {α β : Type} (l : List α) (f : α → β) (d : β) : (List.range l.length).map (fun j => ((l[j]?).map f).getD d) = l.map f := by
  apply List.ext_getElem
  · rw [List.length_map, List.length_range, List.length_map]
  · intro i h1 h2
    rw [List.getElem_map, List.getElem_range, List.getElem_map]
    rw [List.length_map] at h2
    rw [List.getElem?_eq_getElem h2]
    rfl
/-- sum of a list of numbers -/
theorem g_sum {ns : List Int} (h : Gives H0 te (gLst ((ns.map V.int).map gEq)) σ) : Gives H0 (tCB (rSum K) (tCons te tNil)) (gEq (.int ns.sum)) σ := fun H Q s q =>
  h H _ s fun H1 u s1 ⟨p, us, e, hp, ha⟩ => by
    have eu := all_eq ha
    subst eu
    subst e
    exact ⟨p, ns, rfl, .inl (.inl hp), q H1 _ s1 rfl⟩
end
end Ev

/-! ## Texts in order -/
namespace Ev
open PySem PySem.Spec PyProof.Rows
theorem lt_irr : ∀ a : List Nat, ltCps a a = false
  | [] => rfl
  | x :: a => by
    show (decide (x < x) || (x == x && ltCps a a)) = false
    rw [lt_irr a]
    simp
theorem lt_tri : ∀ a b : List Nat, ltCps a b = false → ltCps b a = false → a = b
  | [], [], _, _ => rfl
  | [], _ :: _, h, _ => by cases h
  | _ :: _, [], _, h => by cases h
  | x :: a, y :: b, h1, h2 => by
    have h1 : (decide (x < y) || (x == y && ltCps a b)) = false := h1
    have h2 : (decide (y < x) || (y == x && ltCps b a)) = false := h2
    rw [Bool.or_eq_false_iff, decide_eq_false_iff_not] at h1 h2
    have e : x = y := by omega
    subst e
    rw [beq_self_eq_true, Bool.true_and] at h1 h2
    rw [lt_tri a b h1.2 h2.2]
/-- not greater is transitive -/
theorem le_tr : ∀ a b c : List Nat, ltCps b a = false → ltCps c b = false → ltCps c a = false
  | [], [], c, _, h => h
  | [], _ :: _, [], _, h => by cases h
  | [], _ :: _, _ :: _, _, _ => rfl
  | _ :: _, [], _, h, _ => by cases h
  | _ :: _, _ :: _, [], _, h => by cases h
  | x :: a, y :: b, z :: c, h1, h2 => by
    have h1 : (decide (y < x) || (y == x && ltCps b a)) = false := h1
    have h2 : (decide (z < y) || (z == y && ltCps c b)) = false := h2
    show (decide (z < x) || (z == x && ltCps c a)) = false
    rw [Bool.or_eq_false_iff, decide_eq_false_iff_not] at h1 h2 ⊢
    refine ⟨by omega, ?_⟩
    by_cases e : z = x
    · subst e
      have e2 : y = z := by omega
      subst e2
      rw [beq_self_eq_true, Bool.true_and] at h1 h2 ⊢
      exact le_tr a b c h1.2 h2.2
    · have : (z == x) = false := by simpa using e
      rw [this, Bool.false_and]
def LeS (a b : Str) : Prop := ltCps b.cps.toList a.cps.toList = false
theorem LeS.rfl' (a : Str) : LeS a a := lt_irr _
theorem LeS.tr {a b c : Str} (h : LeS a b) (k : LeS b c) : LeS a c := le_tr _ _ _ h k
theorem LeS.anti {a b : Str} (h : LeS a b) (k : LeS b a) : a = b := by
  have e := lt_tri _ _ k h
  obtain ⟨x⟩ := a
  obtain ⟨y⟩ := b
  have e : x.toList = y.toList := e
  rw [Array.toList_inj.mp e]
theorem rising_pw : ∀ (r : List Str) (p : Str), risingS p r = true → (p :: r).Pairwise LeS
  | [], _, _ => List.pairwise_singleton _ _
  | x :: r, p, h => by
    have h : (!ltCps x.cps.toList p.cps.toList && risingS x r) = true := h
    rw [Bool.and_eq_true] at h
    have ih := rising_pw r x h.2
    have px : LeS p x := by
      show ltCps x.cps.toList p.cps.toList = false
      have := h.1
      revert this
      cases ltCps x.cps.toList p.cps.toList <;> simp
    refine List.pairwise_cons.mpr ⟨fun y hy => ?_, ih⟩
    rcases List.mem_cons.mp hy with rfl | hy
    · exact px
    · exact px.tr ((List.pairwise_cons.mp ih).1 y hy)
theorem sorted_pw : ∀ {l : List Str}, sortedS l = true → l.Pairwise LeS
  | [], _ => .nil
  | x :: r, h => rising_pw r x h
/-- two rows in order with the same members are one -/
theorem pw_same : ∀ {l m : List Str}, l.Pairwise LeS → m.Pairwise LeS → l.Perm m → l = m
  | [], m, _, _, p => p.nil_eq
  | x :: l, [], _, _, p => by
    have := p.length_eq
    cases this
  | x :: l, y :: m, h, k, p => by
    obtain ⟨h1, h2⟩ := List.pairwise_cons.mp h
    obtain ⟨k1, k2⟩ := List.pairwise_cons.mp k
    have e : x = y := by
      have xy : LeS x y := by
        rcases List.mem_cons.mp (p.mem_iff.mpr (List.mem_cons_self ..)) with e | e
        · rw [e]
          exact LeS.rfl' _
        · exact h1 y e
      have yx : LeS y x := by
        rcases List.mem_cons.mp (p.mem_iff.mp (List.mem_cons_self ..)) with e | e
        · rw [e]
          exact LeS.rfl' _
        · exact k1 x e
      exact xy.anti yx
    subst e
    rw [pw_same h2 k2 p.cons_inv]
theorem sorted_same {l m : List Str} (h : sortedS l = true) (k : sortedS m = true) (p : l.Perm m) : l = m := pw_same (sorted_pw h) (sorted_pw k) p
theorem lt_two : ∀ a b : List Nat, ltCps a b = true → ltCps b a = true → False
  | [], [], h, _ => by cases h
  | [], _ :: _, _, h => by cases h
  | _ :: _, [], h, _ => by cases h
  | x :: a, y :: b, h1, h2 => by
    have h1 : (decide (x < y) || (x == y && ltCps a b)) = true := h1
    have h2 : (decide (y < x) || (y == x && ltCps b a)) = true := h2
    rw [Bool.or_eq_true, decide_eq_true_iff, Bool.and_eq_true, beq_iff_eq] at h1 h2
    rcases h1 with h1 | h1
    · rcases h2 with h2 | h2
      · omega
      · omega
    · rcases h2 with h2 | h2
      · omega
      · exact lt_two a b h1.2 h2.2
def insS (x : Str) : List Str → List Str
  | [] => [x]
  | y :: r => if ltCps y.cps.toList x.cps.toList = true then y :: insS x r else x :: y :: r
theorem ins_perm (x : Str) : ∀ l : List Str, (insS x l).Perm (x :: l)
  | [] => .refl _
  | y :: r => by
    unfold insS
    split
    · exact ((ins_perm x r).cons y).trans (List.Perm.swap x y r)
    · exact .refl _
theorem ins_pw (x : Str) : ∀ l : List Str, l.Pairwise LeS → (insS x l).Pairwise LeS
  | [], _ => List.pairwise_singleton _ _
  | y :: r, h => by
    obtain ⟨h1, h2⟩ := List.pairwise_cons.mp h
    unfold insS
    split
    · rename_i c
      refine List.pairwise_cons.mpr ⟨fun z hz => ?_, ins_pw x r h2⟩
      rcases List.mem_cons.mp ((ins_perm x r).mem_iff.mp hz) with rfl | hz
      · show ltCps z.cps.toList y.cps.toList = false
        by_cases e : ltCps z.cps.toList y.cps.toList = true
        · exact (lt_two _ _ c e).elim
        · exact Bool.eq_false_iff.mpr e
      · exact h1 z hz
    · rename_i c
      have xy : LeS x y := Bool.eq_false_iff.mpr c
      refine List.pairwise_cons.mpr ⟨fun z hz => ?_, h⟩
      rcases List.mem_cons.mp hz with rfl | hz
      · exact xy
      · exact xy.tr (h1 z hz)
def srtS : List Str → List Str
  | [] => []
  | x :: l => insS x (srtS l)
theorem srt_perm : ∀ l : List Str, (srtS l).Perm l
  | [] => .refl _
  | x :: l => (ins_perm x _).trans ((srt_perm l).cons x)
theorem srt_pw : ∀ l : List Str, (srtS l).Pairwise LeS
  | [] => .nil
  | x :: l => ins_pw x _ (srt_pw l)
theorem srt_is {l ys : List Str} (p : ys.Perm l) (h : sortedS ys = true) : ys = srtS l := pw_same (sorted_pw h) (srt_pw l) (p.trans (srt_perm l).symm)
/-- the same members, in order -/
theorem srt_eq {l m : List Str} (h : l.Nodup) (k : m.Nodup) (e : ∀ x, x ∈ l ↔ x ∈ m) : srtS l = srtS m :=
  pw_same (srt_pw l) (srt_pw m) ((srt_perm l).trans (((List.perm_ext_iff_of_nodup h k).mpr e).trans (srt_perm m).symm))
end Ev

/-! ## Items, taken apart -/
namespace Ev
open PySem PySem.Spec PyProof.Rows L2
theorem dec_str (x : Str) : decide (V.str x = V.str x) = true := decide_eq_true rfl
theorem dec_ll : decide (V.str "loop" = V.str "line") = false := decide_eq_false fun h => absurd (V.str.inj h) (by decide)
theorem s_ret2 {r1 r2 : List V → Hp → VK → Prop} {te : TE} {D : Ends} {σ : L2.St} {H : Hp} (h : te σ H fun x H1 => r2 [x] H1 fun y H2 => r1 [y] H2 D.rt) : tRet (tCB r1 (tCons (tCB r2 (tCons te tNil)) tNil)) D σ H := h
theorem abs_lt {t : Int} {B : Nat} (h0 : 0 ≤ t) (h1 : t < (2 ^ B : Nat)) : t.natAbs < 2 ^ B := by omega
/-- an item, taken apart -/
theorem da_line {K : PySem.W.Frag} {H : Hp} {v : V} {x : Str} {t : Int} (h : Da K H v (It.d (.line x t))) : ∃ b, v = .ref b ∧ SqT K H b [.str "line", .str x, .int t] := by
  rw [It.d] at h
  cases h with
  | @tup b xs _ hs ha =>
  cases ha with
  | cons h1 ha =>
  cases ha with
  | cons h2 ha =>
  cases ha with
  | cons h3 ha =>
  cases ha
  cases h1
  cases h2
  cases h3
  exact ⟨b, rfl, hs⟩
theorem da_loop {K : PySem.W.Frag} {H : Hp} {v : V} {r : Int} {is : List It} (h : Da K H v (It.d (.loop r is))) : ∃ b w, v = .ref b ∧ SqT K H b [.str "loop", .int r, w] ∧ Da K H w (.tuple (is.map It.d)) := by
  rw [It.d, Its.d_map] at h
  cases h with
  | @tup b xs _ hs ha =>
  cases ha with
  | cons h1 ha =>
  cases ha with
  | cons h2 ha =>
  cases ha with
  | @cons w _ _ _ h3 ha =>
  cases ha
  cases h1
  cases h2
  exact ⟨b, w, rfl, hs, h3⟩
theorem da_prog {K : PySem.W.Frag} {H : Hp} {v : V} {ds : List PyData} (h : Da K H v (.tuple ds)) : ∃ a xs, v = .ref a ∧ SqT K H a xs ∧ DaAll K H xs ds := by
  cases h with
  | tup hs ha => exact ⟨_, _, rfl, hs, ha⟩
theorem sp_take {r : Int} {is : List It} {i : Nat} {it : It} (h : is[i]? = some it) : Its.sp r (is.take (i + 1)) = Its.sp r (is.take i) ++ It.sp r it := by
  rw [List.take_add_one, h, Its.sp_app]
  show _ ++ Its.sp r [it] = _
  rw [Its.sp_one]
theorem nl_take {is : List It} {i : Nat} {it : It} (h : is[i]? = some it) : Its.nl (is.take i) + It.nl it ≤ Its.nl is := by
  have e : is = is.take i ++ is.drop i := (List.take_append_drop i is).symm
  obtain ⟨hi, hx⟩ := List.getElem?_eq_some_iff.mp h
  rw [List.drop_eq_getElem_cons hi, hx] at e
  have z := congrArg Its.nl e
  rw [Its.nl_app, Its.nl] at z
  omega
section
variable {P : Program} {w : World} {K : PySem.W.Frag} {mg : Str → Option Value} {base : Heap}
theorem no_fn {CX : CXT} {k : Nat} {f : Addr} {fd : FuncData} {ps : List Str} : FnOk P w K mg base CX k f fd ps (fun _ _ _ _ => False) :=
  ⟨fun _ _ _ _ h => h.elim, fun _ _ _ _ _ _ _ _ _ _ _ _ _ h => h.elim⟩
/-- what a program must be, to be asked about -/
structure Prg (K : PySem.W.Frag) (B dep : Nat) (H : Hp) (x : V) (is : List It) : Prop where
  da : Da K H x (.tuple (is.map It.d))
  ok : ∀ i ∈ is, Okp B dep i
  few : Its.nl is ≤ 100000
theorem Prg.same {B dep : Nat} {H H' : Hp} {x : V} {is : List It} (h : Prg K B dep H x is) (s : Same H H') : Prg K B dep H' x is := ⟨h.da.mono s, h.ok, h.few⟩
/-- bounds for numbers -/
def Room2 (B dep : Nat) : Prop := 0 < B ∧ 64 + (dep + 1) * B ≤ 900000
def lenI (is : List It) : Int := ((Its.sp 1 is).map (·.2)).sum
end
def linesI (is : List It) : List Str := srtS (uniq [] ((Its.sp 1 is).map (·.1)))
end Ev

/-! ## How long a text of data is; whiles; items as tuples -/
namespace Ev
open PySem PySem.Spec PyProof.Rows L2
/-- a while by an invariant with a number that falls -/
theorem while_w {c : TT} {tb : TS} {D : Ends} {σ : L2.St} {H : Hp} (W : Nat → L2.St → Hp → Prop) (h0 : ∃ m, W m σ H)
    (hs : ∀ m σ H, W m σ H → c σ H fun b H1 => if b = true then tb { D with nx := fun σ' H' => ∃ m', m' < m ∧ W m' σ' H', ct := fun σ' H' => ∃ m', m' < m ∧ W m' σ' H', bk := D.nx } σ H1 else D.nx σ H1)
    (mono : ∀ σ H Q Q', (∀ b H1, Q b H1 → Q' b H1) → c σ H Q → c σ H Q') : tWhile c tb D σ H := by
  refine ⟨W, h0, fun m σ' H' w => mono σ' H' _ _ (fun b H1 h => ?_) (hs m σ' H' w)⟩
  by_cases e : b = true
  · rw [if_pos e] at h ⊢
    exact ⟨_, fun σ2 H2 n => n, h⟩
  · rw [if_neg e] at h ⊢
    exact h
mutual
def It.sz : It → Nat
  | .line _ _ => 1
  | .loop _ is => 1 + Its.sz is
def Its.sz : List It → Nat
  | [] => 0
  | i :: is => It.sz i + Its.sz is
end
theorem sz_mem : ∀ {is : List It} {i : It}, i ∈ is → It.sz i ≤ Its.sz is
  | j :: is, i, h => by
    rw [Its.sz]
    rcases List.mem_cons.mp h with rfl | h
    · exact Nat.le_add_right _ _
    · exact Nat.le_trans (sz_mem h) (Nat.le_add_left _ _)
theorem drop_one {is : List It} {i : Nat} {it : It} (h : is[i]? = some it) : (is.drop i).take 1 = [it] := by
  obtain ⟨hi, hx⟩ := List.getElem?_eq_some_iff.mp h
  rw [List.drop_eq_getElem_cons hi, hx]
  rfl
theorem atI_of {xs : List V} {i : Nat} {v : V} (h : xs[i]? = some v) : atI xs (i : Nat) = some v := atI_nat h
section
variable {K : PySem.W.Frag}
/-- a part of a program -/
theorem Prg.part {B dep : Nat} {H : Hp} {u x : V} {is js : List It} (hp : Prg K B dep H x is) (hu : Da K H u (.tuple (js.map It.d))) (hm : ∀ i ∈ js, i ∈ is) (hn : Its.nl js ≤ Its.nl is) : Prg K B dep H u js :=
  ⟨hu, fun i hi => hp.ok i (hm i hi), Nat.le_trans hn hp.few⟩
theorem nl_take_le (is : List It) (n : Nat) : Its.nl (is.take n) ≤ Its.nl is := by
  have z := congrArg Its.nl (List.take_append_drop n is)
  rw [Its.nl_app] at z
  omega
theorem nl_drop_le (is : List It) (n : Nat) : Its.nl (is.drop n) ≤ Its.nl is := by
  have z := congrArg Its.nl (List.take_append_drop n is)
  rw [Its.nl_app] at z
  omega
theorem map_take {α β : Type} (f : α → β) (l : List α) (n : Nat) : (l.map f).take n = (l.take n).map f := (List.map_take ..).symm
end
structure Sz (e w : Nat) (d : PyData) : Prop where
  sh : d.showable = true
  ls : d.leavesShort 1000 = true
  dp : d.depth ≤ e
  wt : d.weight ≤ w
theorem Sz.up {e e' w w' : Nat} {d : PyData} (h : Sz e w d) (he : e ≤ e') (hw : w ≤ w') : Sz e' w' d := ⟨h.sh, h.ls, Nat.le_trans h.dp he, Nat.le_trans h.wt hw⟩
theorem Sz.fits {e w : Nat} {d : PyData} (h : Sz e w d) (he : e ≤ 64) (hw : w ≤ 16000) : d.showable = true ∧ d.depth ≤ 64 ∧ d.shown.length ≤ sizeLine := by
  refine ⟨h.sh, Nat.le_trans h.dp he, ?_⟩
  have z := PyData.shown_le 1000 (by decide) d h.ls
  have y := sizeLine_eq
  have h1 : (1000 + 2) * d.weight ≤ 1002 * 16000 := Nat.mul_le_mul_left _ (Nat.le_trans h.wt hw)
  omega
theorem sz_int {i : Int} {k : Nat} (h : i.natAbs < 2 ^ k) (h0 : 0 < k) (hk : k ≤ 900) : Sz 0 k (.int i) := by
  have hl := PySem.Flt.log2_lt_of h0 h
  refine ⟨?_, ?_, ?_, ?_⟩
  · rw [PyData.showable]
    exact decide_eq_true (by omega)
  · rw [PyData.leavesShort]
    refine decide_eq_true ?_
    have z := int_text_length_le h0 hl
    have e : (PyData.shown (.int i)).length = (toString i).length := by
      rw [PyData.shown, PySem.ofString_length]
    omega
  · rw [PyData.depth]
    exact Nat.le_refl _
  · rw [PyData.weight]
    split <;> omega
theorem sz_str {x : Str} {n : Nat} (h : x.cps.size ≤ n) (hc : (x.cps.toList.all fun c => decide (c < 16 ^ 8)) = true) : Sz 0 n (.str x) := by
  refine ⟨by rw [PyData.showable], ?_, ?_, ?_⟩
  · rw [PyData.leavesShort]
    exact hc
  · rw [PyData.depth]
    exact Nat.le_refl _
  · rw [PyData.weight]
    exact h
theorem sz_all {e w : Nat} : ∀ {ds : List PyData}, (∀ d ∈ ds, Sz e w d) → PyData.showableAll ds = true ∧ PyData.leavesShortAll 1000 ds = true ∧ PyData.depthAll ds ≤ e ∧ PyData.weightAll ds ≤ ds.length * (w + 1)
  | [], _ => by
    refine ⟨by rw [PyData.showableAll], by rw [PyData.leavesShortAll], ?_, ?_⟩
    · rw [PyData.depthAll]
      exact Nat.zero_le _
    · rw [PyData.weightAll]
      exact Nat.zero_le _
  | d :: ds, h => by
    obtain ⟨h1, h2, h3, h4⟩ := h d (List.mem_cons_self ..)
    obtain ⟨k1, k2, k3, k4⟩ := sz_all fun x hx => h x (List.mem_cons_of_mem _ hx)
    refine ⟨by rw [PyData.showableAll, h1, k1]; rfl, by rw [PyData.leavesShortAll, h2, k2]; rfl, ?_, ?_⟩
    · rw [PyData.depthAll]
      exact Nat.max_le.mpr ⟨h3, k3⟩
    · rw [PyData.weightAll, List.length_cons, Nat.succ_mul]
      omega
theorem sz_tup {e w : Nat} {ds : List PyData} (h : ∀ d ∈ ds, Sz e w d) : Sz (e + 1) (ds.length * (w + 1)) (.tuple ds) := by
  obtain ⟨k1, k2, k3, k4⟩ := sz_all h
  refine ⟨by rw [PyData.showable]; exact k1, by rw [PyData.leavesShort]; exact k2, ?_, by rw [PyData.weight]; exact k4⟩
  rw [PyData.depth]
  omega
theorem sz_lst {e w : Nat} {ds : List PyData} (h : ∀ d ∈ ds, Sz e w d) : Sz (e + 1) (ds.length * (w + 1)) (.list ds) := by
  obtain ⟨k1, k2, k3, k4⟩ := sz_all h
  refine ⟨by rw [PyData.showable]; exact k1, by rw [PyData.leavesShort]; exact k2, ?_, by rw [PyData.weight]; exact k4⟩
  rw [PyData.depth]
  omega
def nmB (x : Str) : Bool := (decide (x.cps.size ≤ 8) && x.cps.toList.all fun c => decide (c < 16 ^ 8)) && PyData.strOk x
theorem nm_sz {x : Str} (h : nmB x = true) : Sz 0 8 (.str x) := by
  unfold nmB at h
  rw [Bool.and_eq_true, Bool.and_eq_true] at h
  exact sz_str (of_decide_eq_true h.1.1) h.1.2
theorem nm_ok {x : Str} (h : nmB x = true) : PyData.strOk x = true := by
  unfold nmB at h
  rw [Bool.and_eq_true] at h
  exact h.2
mutual
/-- names and numbers are short -/
def It.nm : It → Prop
  | .line x t => nmB x = true ∧ t.natAbs < 2 ^ 128
  | .loop r is => r.natAbs < 2 ^ 128 ∧ Its.nm is
def Its.nm : List It → Prop
  | [] => True
  | i :: is => It.nm i ∧ Its.nm is
end
mutual
def It.ni : It → Nat
  | .line _ _ => 1
  | .loop _ is => 1 + Its.ni is
def Its.ni : List It → Nat
  | [] => 0
  | i :: is => It.ni i + Its.ni is
end
theorem lit_sz : Sz 0 8 (.str "line") ∧ Sz 0 8 (.str "loop") := ⟨nm_sz (by decide +kernel), nm_sz (by decide +kernel)⟩
mutual
theorem It.szd : ∀ (n : Nat) (B : Nat) (i : It), Okp B n i → It.nm i → (It.d i).showable = true ∧ (It.d i).leavesShort 1000 = true ∧ (It.d i).depth ≤ 2 * n + 1 ∧ (It.d i).weight + 1 ≤ 165 * It.ni i
  | n, B, .line x t, _, h => by
    rw [It.nm] at h
    rw [It.d, It.ni]
    have z := sz_tup (e := 0) (w := 128) (ds := [.str "line", .str x, .int t]) fun d hd => by
      rcases List.mem_cons.mp hd with rfl | hd
      · exact lit_sz.1.up (Nat.le_refl _) (by decide)
      rcases List.mem_cons.mp hd with rfl | hd
      · exact (nm_sz h.1).up (Nat.le_refl _) (by decide)
      rcases List.mem_cons.mp hd with rfl | hd
      · exact sz_int h.2 (by decide) (by decide)
      cases hd
    refine ⟨z.sh, z.ls, Nat.le_trans z.dp (by omega), ?_⟩
    rw [PyData.weight, PyData.weightAll, PyData.weightAll, PyData.weightAll, PyData.weightAll]
    have w1 := lit_sz.1.wt
    have w2 := (nm_sz h.1).wt
    have w3 := (sz_int (i := t) h.2 (by decide) (by decide)).wt
    omega
  | 0, B, .loop r is, h, _ => h.elim
  | n + 1, B, .loop r is, ho, h => by
    rw [It.nm] at h
    obtain ⟨_, _, hj⟩ : 0 ≤ r ∧ r < (2 ^ B : Nat) ∧ ∀ i ∈ is, Okp B n i := ho
    obtain ⟨k1, k2, k3, k4⟩ := Its.szd n B is hj h.2
    have z1 := lit_sz.2
    have z2 := sz_int (i := r) h.1 (by decide) (by decide)
    rw [It.d, Its.d_map, It.ni]
    refine ⟨?_, ?_, ?_, ?_⟩
    · rw [PyData.showable, PyData.showableAll, PyData.showableAll, PyData.showableAll, PyData.showableAll, z1.sh, z2.sh]
      rw [PyData.showable, k1]
      rfl
    · rw [PyData.leavesShort, PyData.leavesShortAll, PyData.leavesShortAll, PyData.leavesShortAll, PyData.leavesShortAll, z1.ls, z2.ls]
      rw [PyData.leavesShort, k2]
      rfl
    · rw [PyData.depth, PyData.depthAll, PyData.depthAll, PyData.depthAll, PyData.depthAll]
      have d1 := z1.dp
      have d2 := z2.dp
      have d3 : (PyData.tuple (is.map It.d)).depth ≤ 2 * n + 2 := by
        rw [PyData.depth]
        omega
      have : max (PyData.str "loop").depth (max (PyData.int r).depth (max (PyData.tuple (is.map It.d)).depth 0)) ≤ 2 * n + 2 := by
        refine Nat.max_le.mpr ⟨by omega, Nat.max_le.mpr ⟨by omega, Nat.max_le.mpr ⟨d3, by omega⟩⟩⟩
      omega
    · rw [PyData.weight, PyData.weightAll, PyData.weightAll, PyData.weightAll, PyData.weightAll]
      rw [show (PyData.tuple (is.map It.d)).weight = PyData.weightAll (is.map It.d) by rw [PyData.weight]]
      have w1 := z1.wt
      have w2 := z2.wt
      have h5 : PyData.weightAll (is.map It.d) ≤ 165 * Its.ni is := k4
      omega
theorem Its.szd : ∀ (n : Nat) (B : Nat) (is : List It), (∀ i ∈ is, Okp B n i) → Its.nm is → PyData.showableAll (is.map It.d) = true ∧ PyData.leavesShortAll 1000 (is.map It.d) = true ∧ PyData.depthAll (is.map It.d) ≤ 2 * n + 1 ∧ PyData.weightAll (is.map It.d) ≤ 165 * Its.ni is
  | n, B, [], _, _ => by
    refine ⟨by rw [List.map_nil, PyData.showableAll], by rw [List.map_nil, PyData.leavesShortAll], ?_, ?_⟩
    · rw [List.map_nil, PyData.depthAll]
      exact Nat.zero_le _
    · rw [List.map_nil, PyData.weightAll]
      exact Nat.zero_le _
  | n, B, i :: is, ho, h => by
    rw [Its.nm] at h
    obtain ⟨h1, h2, h3, h4⟩ := It.szd n B i (ho i (List.mem_cons_self ..)) h.1
    obtain ⟨k1, k2, k3, k4⟩ := Its.szd n B is (fun j hj => ho j (List.mem_cons_of_mem _ hj)) h.2
    refine ⟨by rw [List.map_cons, PyData.showableAll, h1, k1]; rfl, by rw [List.map_cons, PyData.leavesShortAll, h2, k2]; rfl, ?_, ?_⟩
    · rw [List.map_cons, PyData.depthAll]
      exact Nat.max_le.mpr ⟨h3, k3⟩
    · rw [List.map_cons, PyData.weightAll, Its.ni]
      omega
end
theorem nm_of : ∀ {is : List It}, (∀ i ∈ is, It.nm i) → Its.nm is
  | [], _ => by
    rw [Its.nm]
    trivial
  | i :: is, h => by
    rw [Its.nm]
    exact ⟨h i (List.mem_cons_self ..), nm_of fun j hj => h j (List.mem_cons_of_mem _ hj)⟩
theorem ni_mul {W : Nat} : ∀ {is : List It}, (∀ i ∈ is, It.ni i ≤ W) → Its.ni is ≤ is.length * W
  | [], _ => by
    rw [Its.ni]
    exact Nat.zero_le _
  | i :: is, h => by
    rw [Its.ni, List.length_cons, Nat.succ_mul]
    have a := h i (List.mem_cons_self ..)
    have b := ni_mul fun j hj => h j (List.mem_cons_of_mem _ hj)
    omega
mutual
theorem It.nl_ni : ∀ i : It, It.nl i ≤ It.ni i
  | .line _ _ => by
    rw [It.nl, It.ni]
    exact Nat.le_refl _
  | .loop _ is => by
    rw [It.nl, It.ni]
    exact Nat.le_trans (Its.nl_ni is) (Nat.le_add_left _ _)
theorem Its.nl_ni : ∀ is : List It, Its.nl is ≤ Its.ni is
  | [] => by
    rw [Its.nl]
    exact Nat.zero_le _
  | i :: is => by
    rw [Its.nl, Its.ni]
    exact Nat.add_le_add (It.nl_ni i) (Its.nl_ni is)
end
mutual
theorem It.tupd : ∀ i : It, tupD (It.d i) = true
  | .line x t => by
    rw [It.d, tupD, tupDs, tupDs, tupDs, tupDs, tupD, tupD, tupD]
    rfl
    all_goals (intros; contradiction)
  | .loop r is => by
    rw [It.d, tupD, tupDs, tupDs, tupDs, tupDs, tupD, tupD, tupD, Its.tupd is]
    rfl
    all_goals (intros; contradiction)
theorem Its.tupd : ∀ is : List It, tupDs (Its.d is) = true
  | [] => by rw [Its.d, tupDs]
  | i :: is => by rw [Its.d, tupDs, It.tupd i, Its.tupd is]; rfl
end
theorem prog_tup (is : List It) : tupD (.tuple (is.map It.d)) = true := by
  rw [tupD, ← Its.d_map]
  exact Its.tupd is
theorem Bu.kt {p : Addr} {H H' : Hp} {xs : List V} (h : Bu p H H') (hp : H p = some (.lst xs)) : Kt H H' := fun b o e n => by
  refine h b o (fun z => ?_) e
  rw [z, hp] at e
  cases e
  exact n xs rfl
theorem Prg.kt {K : PySem.W.Frag} {B dep : Nat} {H H' : Hp} {x : V} {is : List It} (h : Prg K B dep H x is) (k : Kt H H') : Prg K B dep H' x is := ⟨h.da.kt k (prog_tup is), h.ok, h.few⟩
/-! ### the ticks, written out -/
mutual
def It.w : It → List Str
  | .line x t => List.replicate t.toNat x
  | .loop r is => (List.replicate r.toNat (Its.w is)).flatten
def Its.w : List It → List Str
  | [] => []
  | i :: is => It.w i ++ Its.w is
end
theorem w_app : ∀ is js : List It, Its.w (is ++ js) = Its.w is ++ Its.w js
  | [], js => by
    rw [List.nil_append, Its.w, List.nil_append]
  | i :: is, js => by
    rw [List.cons_append, Its.w, Its.w, w_app is js, List.append_assoc]
theorem w_one (i : It) : Its.w [i] = It.w i := by
  rw [Its.w, Its.w, List.append_nil]
mutual
/-- numbers from 0 -/
def It.nn : It → Prop
  | .line _ t => 0 ≤ t
  | .loop r is => 0 ≤ r ∧ Its.nn is
def Its.nn : List It → Prop
  | [] => True
  | i :: is => It.nn i ∧ Its.nn is
end
mutual
/-- numbers from 1, no empty loop -/
def It.ps : It → Prop
  | .line _ t => 1 ≤ t
  | .loop r is => 1 ≤ r ∧ is ≠ [] ∧ Its.ps is
def Its.ps : List It → Prop
  | [] => True
  | i :: is => It.ps i ∧ Its.ps is
end
mutual
theorem It.ps_nn : ∀ i : It, It.ps i → It.nn i
  | .line x t, h => by
    rw [It.ps] at h
    rw [It.nn]
    omega
  | .loop r is, h => by
    rw [It.ps] at h
    rw [It.nn]
    exact ⟨by omega, Its.ps_nn is h.2.2⟩
theorem Its.ps_nn : ∀ is : List It, Its.ps is → Its.nn is
  | [], _ => by
    rw [Its.nn]
    trivial
  | i :: is, h => by
    rw [Its.ps] at h
    rw [Its.nn]
    exact ⟨It.ps_nn i h.1, Its.ps_nn is h.2⟩
end
theorem ps_mem : ∀ {is : List It} {i : It}, Its.ps is → i ∈ is → It.ps i
  | j :: is, i, h, m => by
    rw [Its.ps] at h
    rcases List.mem_cons.mp m with rfl | m
    · exact h.1
    · exact ps_mem h.2 m
theorem ps_of : ∀ {is : List It}, (∀ i ∈ is, It.ps i) → Its.ps is
  | [], _ => by
    rw [Its.ps]
    trivial
  | i :: is, h => by
    rw [Its.ps]
    exact ⟨h i (List.mem_cons_self ..), ps_of fun j hj => h j (List.mem_cons_of_mem _ hj)⟩
theorem ps_take {is : List It} (h : Its.ps is) (n : Nat) : Its.ps (is.take n) := ps_of fun i hi => ps_mem h (List.mem_of_mem_take hi)
theorem ps_one {i : It} (h : It.ps i) : Its.ps [i] := ps_of fun j hj => by
  rw [List.mem_singleton.mp hj]
  exact h
theorem flat_count (x : Str) (l : List Str) : ∀ n : Nat, ((List.replicate n l).flatten.count x) = n * l.count x
  | 0 => by
    rw [List.replicate_zero, Nat.zero_mul]
    rfl
  | n + 1 => by
    rw [List.replicate_succ, List.flatten_cons, List.count_append, flat_count x l n, Nat.succ_mul]
    omega
theorem flat_len (l : List Str) : ∀ n : Nat, ((List.replicate n l).flatten.length) = n * l.length
  | 0 => by
    rw [List.replicate_zero, Nat.zero_mul]
    rfl
  | n + 1 => by
    rw [List.replicate_succ, List.flatten_cons, List.length_append, flat_len l n, Nat.succ_mul]
    omega
theorem mem_flat {x : Str} {l : List Str} {n : Nat} (h : 1 ≤ n) : x ∈ (List.replicate n l).flatten ↔ x ∈ l := by
  rw [List.mem_flatten]
  constructor
  · rintro ⟨m, h1, h2⟩
    rw [List.eq_of_mem_replicate h1] at h2
    exact h2
  · intro hx
    exact ⟨l, List.mem_replicate.mpr ⟨by omega, rfl⟩, hx⟩
mutual
theorem It.w_pos : ∀ i : It, It.ps i → 1 ≤ (It.w i).length
  | .line x t, h => by
    rw [It.ps] at h
    rw [It.w, List.length_replicate]
    omega
  | .loop r is, h => by
    rw [It.ps] at h
    rw [It.w, flat_len]
    have z := Its.w_pos is h.2.1 h.2.2
    have z2 : 1 * 1 ≤ r.toNat * (Its.w is).length := Nat.mul_le_mul (by omega) z
    omega
theorem Its.w_pos : ∀ is : List It, is ≠ [] → Its.ps is → 1 ≤ (Its.w is).length
  | [], n, _ => absurd rfl n
  | i :: is, _, h => by
    rw [Its.ps] at h
    rw [Its.w, List.length_append]
    have z := It.w_pos i h.1
    omega
end
/-- the ticks up to one within a loop -/
theorem flat_take {l : List Str} (hl : 1 ≤ l.length) : ∀ (n s : Nat), s < n * l.length → (List.replicate n l).flatten.take s = (List.replicate (s / l.length) l).flatten ++ l.take (s % l.length)
  | 0, s, h => by
    rw [Nat.zero_mul] at h
    omega
  | n + 1, s, h => by
    rw [List.replicate_succ, List.flatten_cons, List.take_append]
    by_cases c : s < l.length
    · rw [Nat.div_eq_of_lt c, Nat.mod_eq_of_lt c, Nat.sub_eq_zero_of_le (Nat.le_of_lt c)]
      simp
    · have e : s = (s - l.length) + l.length := by omega
      rw [Nat.succ_mul] at h
      have ih := flat_take hl n (s - l.length) (by omega)
      rw [List.take_of_length_le (by omega), ih]
      have d1 : s / l.length = (s - l.length) / l.length + 1 := by
        conv => lhs; rw [e]
        rw [Nat.add_div_right _ (by omega)]
      have d2 : s % l.length = (s - l.length) % l.length := by
        conv => lhs; rw [e]
        rw [Nat.add_mod_right]
      rw [d1, d2, List.replicate_succ, List.flatten_cons, List.append_assoc]
theorem flat_get {l : List Str} (hl : 1 ≤ l.length) : ∀ (n s : Nat), s < n * l.length → (List.replicate n l).flatten[s]? = l[s % l.length]?
  | 0, s, h => by
    rw [Nat.zero_mul] at h
    omega
  | n + 1, s, h => by
    rw [List.replicate_succ, List.flatten_cons]
    by_cases c : s < l.length
    · rw [List.getElem?_append_left c, Nat.mod_eq_of_lt c]
    · rw [Nat.succ_mul] at h
      rw [List.getElem?_append_right (by omega), flat_get hl n (s - l.length) (by omega)]
      congr 1
      exact (Nat.mod_eq_sub_mod (by omega)).symm
end Ev

/-! ## The numbers of a pot -/
namespace Ev
open PySem PySem.Spec PyProof.Rows L2
/-- the numbers of a pot out of which at most n draws came by reckoning -/
def PotL (n : Nat) (xs : List V) : Prop := ∃ x y c : Int, xs = [.int x, .int y, .int c] ∧ 0 ≤ x ∧ 0 ≤ y ∧ y < 2305843009213693921 ∧ 0 ≤ c ∧ c ≤ n
theorem own_nn (z m : Int) (b : Bool) (h : 0 < m) : 0 ≤ z % m * (if b = true then 1 else 0) := by
  refine Int.mul_nonneg (Int.emod_nonneg _ (by omega)) ?_
  cases b <;> decide
theorem flag_in (b : Bool) : -(2 ^ 64) < (if b = true then 1 else 0 : Int) ∧ (if b = true then 1 else 0 : Int) < 2 ^ 64 := by
  cases b <;> decide
theorem seq_nn {d : Int} {n : Nat} (h0 : 0 ≤ d) (h1 : d < n) : seqIndex? d n = some d.toNat := by
  unfold seqIndex?
  simp only []
  first
    | (rw [if_neg (by omega), if_pos (by omega)])
    | (split <;> simp_all <;> omega)
    | omega
/-- what len of a list or a tuple asks -/
def rLenK (K : PySem.W.Frag) : List V → Hp → VK → Prop := fun xs H Q => ∃ p ys, xs = [V.ref p] ∧ (SqL K H p ys ∨ SqT K H p ys) ∧ Q (.int (ys.length : Nat)) H
/-- what is tracked in H' and was not in H -/
def newer (H H' : Hp) : Hp := fun b => if H b = none then H' b else none
theorem newer_at {H H' : Hp} {b : Addr} (h : H b = none) : newer H H' b = H' b := if_pos h
theorem newer_le {A B A' B' : Hp} (h1 : ∀ b, A b = none → A' b = none) (h2 : ∀ b o, A b = none → B b = some o → B' b = some o) : Same (newer A B) (newer A' B') := fun b o e => by
  by_cases hb : A b = none
  · rw [newer_at hb] at e
    rw [newer_at (h1 b hb)]
    exact h2 b o hb e
  · have z : newer A B b = none := if_neg hb
    rw [z] at e
    cases e
theorem newer_sub {H H' : Hp} (h : ∀ b o, H b = none → H' b = some o → H' b = some o) : Same (newer H H') H' := fun b o e => by
  by_cases hb : H b = none
  · rw [newer_at hb] at e
    exact e
  · have z : newer H H' b = none := if_neg hb
    rw [z] at e
    cases e
theorem daAll_append {K : PySem.W.Frag} {H : Hp} {v : V} {d : PyData} (h : Da K H v d) : ∀ {vs : List V} {ds : List PyData}, DaAll K H vs ds → DaAll K H (vs ++ [v]) (ds ++ [d])
  | _, _, .nil => .cons h .nil
  | _, _, .cons a t => .cons a (daAll_append h t)
/-- tracked things stay tracked -/
theorem Bu.dom {p : Addr} {H H' : Hp} {o : HO} (h : Bu p H H') (hp : H' p = some o) (b : Addr) (e : H' b = none) : H b = none := by
  cases q : H b with
  | none => rfl
  | some u =>
    by_cases z : b = p
    · rw [z, hp] at e
      cases e
    · rw [h b u z q] at e
      cases e
theorem dom1 {p l : Addr} {H H' : Hp} {o1 o2 o3 : HO} (h : Bu p H H') (hp : H' p = some o1) (hl : H' l = some o2) {t : Addr} (e : H' t = none) : upd H l o3 t = none := by
  have ntl : t ≠ l := fun z => by
    rw [z, hl] at e
    cases e
  rw [upd_ne ntl]
  exact h.dom hp t e
theorem log_le {m : Int} (h1 : 1 ≤ m) (h2 : m ≤ 10 ^ 18) : m.natAbs.log2 < 9000 :=
  Nat.lt_of_lt_of_le (PySem.Flt.log2_lt_of (show 0 < 64 by decide) (show m.natAbs < 2 ^ 64 by omega)) (by decide)
theorem PotL.up {n m : Nat} {xs : List V} (h : PotL n xs) (k : n ≤ m) : PotL m xs := by
  obtain ⟨x, y, c, h1, h2, h3, h4, h5, h6⟩ := h
  exact ⟨x, y, c, h1, h2, h3, h4, h5, by omega⟩
theorem bu_seq {K : PySem.W.Frag} {p q : Addr} {H H' : Hp} {zs : List V} (n : q ≠ p) (h : Bu p H H') (s : SqL K H q zs) : SqL K H' q zs := by
  rcases s with (e | ⟨o, e⟩) | e
  · exact .inl (.inl (h _ _ n e))
  · exact .inl (.inr ⟨o, h _ _ n e⟩)
  · exact .inr e
end Ev

/-! ## isinstance of any datum; slices of tuples -/
namespace Ev
open PySem PySem.Spec PyProof.Rows L2
def tyD : PyData → String
  | .none => "NoneType"
  | .bool _ => "bool"
  | .int _ => "int"
  | .str _ => "str"
  | .list _ => "list"
  | .tuple _ => "tuple"
  | .dict _ => "dict"
theorem Da.ty {K : PySem.W.Frag} {H : Hp} {x : V} {d : PyData} (h : Da K H x d) : TyX K H x (.type (tyD d)) := by
  cases h with
  | non => exact .base .non
  | bl b => exact .base (.bl b)
  | int i => exact .base (.int i)
  | str x => exact .base (.str x)
  | lst hs ha =>
    rcases hs with (e | ⟨o, e⟩) | ⟨o, its, n, e, hc, _⟩
    · exact .base (.lst e)
    · exact .base (.frz e)
    · exact .kList e hc
  | tup hs ha =>
    rcases hs with (e | ⟨o, e⟩) | ⟨o, its, n, e, hc, _⟩
    · exact .base (.tup e)
    · exact .fTuple e
    · exact .kTuple e hc
  | dic e hk => exact .base (.dK e)
def isD (T : String) (d : PyData) : Bool := (kitB (tyD d) T).getD false
def OkT (T : String) : Prop := T = "int" ∨ T = "bool" ∨ T = "tuple" ∨ T = "str"
theorem kit_D {T : String} (hT : OkT T) (d : PyData) : kitB (tyD d) T = some (isD T d) := by
  rcases hT with rfl | rfl | rfl | rfl <;> cases d <;> kernel_rfl
theorem isD_int (d : PyData) : isD "int" d = (match d with | .int _ => true | .bool _ => true | _ => false) := by
  cases d <;> kernel_rfl
theorem isD_bool (d : PyData) : isD "bool" d = (match d with | .bool _ => true | _ => false) := by
  cases d <;> kernel_rfl
theorem isD_tuple (d : PyData) : isD "tuple" d = (match d with | .tuple _ => true | _ => false) := by
  cases d <;> kernel_rfl
theorem isD_str (d : PyData) : isD "str" d = (match d with | .str _ => true | _ => false) := by
  cases d <;> kernel_rfl
def tIsT (K : PySem.W.Frag) (T : String) (i : Nat) : TE := fun σ H Q => ∃ (x : V) (d : PyData), σ[i]? = some (some x) ∧ Da K H x d ∧ Q (.bl (isD T d)) H
section
variable {X : Cx} {x y : Str} {i : Nat} {p1 p2 q1 q2 : Pos}
theorem pe_isT {T : String} (hT : OkT T) (m : X.mg "isinstance" = none) (hv : ∀ pos, PE X (.Name y pos) (tVar i)) (hx : ∀ pos, PE X (.Name x pos) (tC (.ty T))) (hg : Gl X "isinstance" := by rfl) :
    PE X (.Call (.Name "isinstance" p1) [.Name y q1, .Name x q2] [] p2) (tIsT X.K T i) := by
  refine PE.imp (pe_callB call_isi hg m (by decide +kernel) (pa_cons (hv q1) (pa_cons (hx q2) pa_nil))) ?_
  rintro σ H Q ⟨x, d, h1, h2, h3⟩
  exact ⟨x, h1, x, .ty T, .type (tyD d), .type T, isD T d, rfl, .ty T, h2.ty, kit_ty (kit_D hT d), h3⟩
end
section
variable {K : PySem.W.Frag} {H0 : Hp} {σ : L2.St} {i : Nat} {x : V} {d : PyData} {T : String} {b c : Bool} {tt uu : TT} {t rest : TS} {D : Ends}
theorem t_isT (h : σ[i]? = some (some x)) (hd : Da K H0 x d) : GivesT H0 (tB (tIsT K T i)) (isD T d) σ := fun H Q s q => ⟨x, d, h, hd.mono s, _, rfl, q H Same.rfl'⟩
end
def intD (lo hi : Int) : PyData → Bool
  | .int i => decide (lo ≤ i) && decide (i ≤ hi)
  | _ => false
theorem ty_of {X : Cx} {x : Str} {T : String} {pos : Pos} (hg : Gl X x) (hm : X.mg x = none) (hb : bootBuiltins x = some (.type T)) (hn : x ≠ "__name__" := by decide) (hd : (x == ("__debug__" : Str)) = false := by decide) :
    PE X (.Name x pos) (tC (.ty T)) := pe_bltn (v := .ty T) hg hm hb (show RelV (.ty T) (.type T) from rfl) hn hd
def cutD (ds : List PyData) (lo hi : Option Int) : List PyData := (ds.drop (HT.sIx ds.length 0 lo)).take (HT.sIx ds.length ds.length hi - HT.sIx ds.length 0 lo)
theorem cut_to (ds : List PyData) (i : Nat) : cutD ds none (some (i : Nat)) = ds.take i := by
  unfold cutD
  rw [HT.sIx_none, HT.sIx_nat, List.drop_zero, Nat.sub_zero]
  by_cases h : i ≤ ds.length
  · rw [Nat.min_eq_left h]
  · rw [Nat.min_eq_right (by omega), List.take_of_length_le (by omega), List.take_of_length_le (by omega)]
theorem cut_mid (ds : List PyData) (i j : Nat) : cutD ds (some (i : Nat)) (some (j : Nat)) = (ds.drop i).take (j - i) := by
  unfold cutD
  rw [HT.sIx_nat, HT.sIx_nat]
  by_cases h : i ≤ ds.length
  · rw [Nat.min_eq_left h]
    by_cases k : j ≤ ds.length
    · rw [Nat.min_eq_left k]
    · rw [Nat.min_eq_right (by omega), List.take_of_length_le (by rw [List.length_drop]; omega), List.take_of_length_le (by rw [List.length_drop]; omega)]
  · have e : min i ds.length = ds.length := Nat.min_eq_right (by omega)
    rw [e, List.drop_of_length_le (Nat.le_refl _), List.drop_of_length_le (show ds.length ≤ i by omega), List.take_nil, List.take_nil]
theorem daAll_take {K : PySem.W.Frag} {H : Hp} : ∀ {vs : List V} {ds : List PyData} (n : Nat), DaAll K H vs ds → DaAll K H (vs.take n) (ds.take n)
  | _, _, 0, _ => .nil
  | _, _, _ + 1, .nil => .nil
  | _, _, n + 1, .cons a t => .cons a (daAll_take n t)
theorem daAll_drop {K : PySem.W.Frag} {H : Hp} : ∀ {vs : List V} {ds : List PyData} (n : Nat), DaAll K H vs ds → DaAll K H (vs.drop n) (ds.drop n)
  | _, _, 0, h => h
  | _, _, _ + 1, .nil => .nil
  | _, _, n + 1, .cons _ t => daAll_drop n t
/-- a slice of a tuple -/
theorem sl_val {K : PySem.W.Frag} {H : Hp} {x : V} {ds : List PyData} {lo hi : Option Int} {Q : VK} (hd : Da K H x (.tuple ds)) (q : ∀ H' u, Same H H' → Da K H' u (.tuple (cutD ds lo hi)) → Q u H') : rSlA K x lo hi H Q := by
  cases hd with
  | @tup a xs _ hs ha =>
  have hl := daAll_len ha
  refine ⟨a, xs, rfl, hs, fun e => ?_, fun e r nr => ?_⟩
  · refine q _ _ Same.rfl' ?_
    have z : cutD ds lo hi = ds := by
      unfold cutD
      rw [← hl, e.1, e.2, hl, List.drop_zero, Nat.sub_zero, List.take_length]
    rw [z]
    exact .tup hs ha
  · refine q _ _ (same_put nr) (.tup (xs := cutV xs lo hi) (.inl (.inl upd_same)) ?_)
    have z := (daAll_take (HT.sIx xs.length xs.length hi - HT.sIx xs.length 0 lo) (daAll_drop (HT.sIx xs.length 0 lo) ha)).mono (same_put (o := .tup (cutV xs lo hi)) nr)
    unfold cutV cutD
    rw [← hl]
    exact z
theorem cut_from (ds : List PyData) (i : Nat) : cutD ds (some (i : Nat)) none = ds.drop i := by
  unfold cutD
  rw [HT.sIx_none, HT.sIx_nat]
  by_cases h : i ≤ ds.length
  · rw [Nat.min_eq_left h, List.take_of_length_le (by rw [List.length_drop]; exact Nat.le_refl _)]
  · rw [Nat.min_eq_right (by omega), List.drop_of_length_le (Nat.le_refl _), List.drop_of_length_le (by omega), List.take_nil]
end Ev

/-! ## Defs by name: what stands there, and what it promises -/
namespace Ev
open PySem PySem.Spec PyProof.Rows L2
/-- a def of the module -/
structure Def (K : PySem.W.Frag) (mg : Str → Option Value) (x : Str) (st : Stmt) (ps : List Str) : Prop where
  ex : ∃ (f : Addr) (fd : FuncData), Fun K x x st f fd ∧ Binds K fd ps [] ∧ mg x = some (.ref f)
/-- a def that keeps a promise, ready to be called -/
structure Cal (P : Program) (w : World) (K : PySem.W.Frag) (mg : Str → Option Value) (base : Heap) (k : Nat) (x : Str) (ps : List Str) (sp : Sp) : Prop where
  ex : ∃ (f : Addr) (fd : FuncData), FnG P w K mg base CX0 k f fd ps sp ∧ Binds K fd ps [] ∧ mg x = some (.ref f) ∧ PySem.W.keepIn K (.ref f) = true
section
variable {P : Program} {w : World} {K : PySem.W.Frag} {mg : Str → Option Value} {base : Heap} {x : Str} {st : Stmt} {ps N : List Str} {sp : Sp} {k j : Nat}
theorem Cal.up (C : Cal P w K mg base j x ps sp) (h : j ≤ k) : Cal P w K mg base k x ps sp := by
  obtain ⟨f, fd, F, b, m, v⟩ := C.ex
  exact ⟨f, fd, F.up h, b, m, v⟩
theorem Cal.of {f : Addr} {fd : FuncData} (F : FnOk P w K mg base CX0 k f fd ps sp) (b : Binds K fd ps []) (m : mg x = some (.ref f)) (v : PySem.W.keepIn K (.ref f) = true) : Cal P w K mg base k x ps sp :=
  ⟨f, fd, .of F, b, m, v⟩
theorem Def.ok (D : Def K mg x st ps) (S : FnScope N ps (defScope st)) (len : ∀ vs H Q E, sp vs H Q E → vs.length = ps.length)
    (hbody : ∀ (f : Addr) (cdv : Value) (A : Around) (outer : List Env) (s : Shared) (H : Hp) (vs : List V) (Q : VK) (E : XK),
      Room k (A.deeper (envOfC x (defScope st) s.heap.objs.size f cdv)) → A.guards = some [] → sp vs H Q E →
      ∃ t, PSs (cxOf CX0 P w K mg base N x (defScope st) f cdv A outer s H E).nox (defBody st) t ∧
        t { nx := fun _ H' => Q .non H', rt := Q } (start N vs) H) : Cal P w K mg base (k + 1) x ps sp := by
  obtain ⟨f, fd, F, b, m⟩ := D.ex
  exact ⟨f, fd, okG F S len (hbody f), b, m, F.kp⟩
theorem no_cal (D : Def K mg x st ps) : Cal P w K mg base k x ps (fun _ _ _ _ => False) := by
  obtain ⟨f, fd, F, b, m⟩ := D.ex
  exact ⟨f, fd, .of no_fn, b, m, F.kp⟩
end
section
variable {X : Cx} {k : Nat} {ps : List Str} {sp : Sp} {x : Str} {p pos : Pos} {e : Expr} {es : List Expr} {t : TA}
theorem pcall (C : Cal X.prog X.w X.K X.mg X.base k x ps sp) (hr : Room k X.A) (gd : X.A.guards = some []) (hg : Gl X x) (ha : PA X (e :: es) t)
    (hdb : (x == ("__debug__" : Str)) = false := by decide) (he : starEach (e :: es) X.env = (false, eval e X.env) :: starEach es X.env := by rfl)
    (hpl : (backTo pos (starEach es X.env)).any (·.1) = false := by rfl) : PE X (.Call (.Name x p) (e :: es) [] pos) (tCall sp [] E0 t) := by
  obtain ⟨f, fd, F, hb, hm, hk⟩ := C.ex
  exact pe_callG F hr gd hg hm hk hb .nil pass0 ha hdb he hpl
theorem pcall0 (C : Cal X.prog X.w X.K X.mg X.base k x ps sp) (hr : Room k X.A) (gd : X.A.guards = some []) (hg : Gl X x)
    (hdb : (x == ("__debug__" : Str)) = false := by decide) : PE X (.Call (.Name x p) [] [] pos) (tCall sp [] E0 tNil) := by
  obtain ⟨f, fd, F, hb, hm, hk⟩ := C.ex
  exact pe_callG0 F hr gd hg hm hk hb .nil pass0 hdb
end
theorem hu70 {A : Around} {k : Nat} (hr : Room k A) : A.units + 70 < cLine := by
  have := hr.un
  omega
/-- built-in names that the module leaves alone -/
def nbs : List Str := ["len", "abs", "int", "bool", "isinstance", "range", "max", "min", "sum", "repr", "divmod", "tuple", "sorted", "set", "enumerate", "zip", "list", "dict", "any", "all", "str", "reversed"]
def NB (mg : Str → Option Value) : Prop := ∀ x ∈ nbs, mg x = none
theorem NB.at {mg : Str → Option Value} (h : NB mg) {x : Str} (hx : nbs.contains x = true := by decide +kernel) : mg x = none := h x (List.contains_iff_mem.mp hx)
/-! ### is_whole, is_integer_within -/
def spWh (K : PySem.W.Frag) : Sp := fun vs H Q _ => ∃ (x : V) (d : PyData), vs = [x] ∧ Da K H x d ∧ Q (.bl (isD "int" d && !isD "bool" d)) H
def spIn (K : PySem.W.Frag) : Sp := fun vs H Q _ => ∃ (x : V) (d : PyData) (lo hi : Int), vs = [x, .int lo, .int hi] ∧ Da K H x d ∧ ∀ H', Same H H' → Q (.bl (intD lo hi d)) H'
/-! ### tuple * 0, tuple * 1 -/
theorem tuple_mul1 (l : Addr) (items : Array Value) (n : Nat) (dd : Option Addr) (sl : Array (Option Value)) (x : Int) (u : Tok) (c0 : (decide (x < -(2 ^ 63)) || decide (x ≥ 2 ^ 63)) = false) (c1 : (items.isEmpty || x == 1) = true) :
    Meets (Builtin.«tuple.__mul__» ⟨[.ref l, .int x u], []⟩) (fun _ R s => s.heap.get? l = some { cls := .type "tuple", dict := dd, data := .seq items n, slots := sl } ∧
      R (.ok (.ret (Value.ref l))) s) :=
  .of_wp fun prog w A R s h => by
    obtain ⟨hp, g, d, tk, os⟩ := s
    obtain ⟨hl, h⟩ := h
    have f1 := AutoSeq1.idx_int
    wp_walk using wpAny_loadPart' hl
    repeat (first
      | (refine wpAny_ite_false (decide_eq_false (by rw [c0]; exact Bool.false_ne_true)) ?_; wp_walk using wpAny_loadPart' hl)
      | (refine wpAny_ite_true (decide_eq_true c1) ?_; wp_walk using wpAny_loadPart' hl))
    exact ⟨_, rfl, h⟩
theorem tuple_mul0 (l : Addr) (items : Array Value) (n : Nat) (dd : Option Addr) (sl : Array (Option Value)) (x : Int) (u : Tok) (c0 : (decide (x < -(2 ^ 63)) || decide (x ≥ 2 ^ 63)) = false) (c1 : (items.isEmpty || x == 1) = false)
    (c2 : (decide (x ≤ 0) || items.isEmpty) = true) :
    Meets (Builtin.«tuple.__mul__» ⟨[.ref l, .int x u], []⟩) (fun _ R s => s.heap.get? l = some { cls := .type "tuple", dict := dd, data := .seq items n, slots := sl } ∧
      R (.ok (.ret (Value.ref s.heap.objs.size))) { s with heap := s.heap.push { cls := Value.type "tuple", data := Data.seq #[] }, toks := s.toks }) :=
  .of_wp fun prog w A R s h => by
    obtain ⟨hp, g, d, tk, os⟩ := s
    obtain ⟨hl, h⟩ := h
    have f1 := AutoSeq1.idx_int
    wp_walk using wpAny_loadPart' hl
    repeat (first
      | (refine wpAny_ite_false (decide_eq_false (by rw [c0]; exact Bool.false_ne_true)) ?_; wp_walk using wpAny_loadPart' hl)
      | (refine wpAny_ite_false (decide_eq_false (by rw [c1]; exact Bool.false_ne_true)) ?_; wp_walk using wpAny_loadPart' hl)
      | (refine wpAny_ite_true (decide_eq_true c2) ?_; wp_walk using wpAny_loadPart' hl))
    exact ⟨_, rfl, h⟩
def rRepT01 (K : PySem.W.Frag) : R2 := fun x y H Q => ∃ l xs k, x = .ref l ∧ y = .int k ∧ SqT K H l xs ∧ xs ≠ [] ∧ ((k = 1 ∧ Q (.ref l) H) ∨ (k = 0 ∧ ∀ p, H p = none → Q (.ref p) (upd H p (.tup []))))
theorem op_repT01 {X : Cx} : OpR X (binaryOp .Mult) (rRepT01 X.K) := by
  intro pins s σ H x y v u Q I rx ry h
  obtain ⟨l, xs, k, rfl, rfl, hT, hne, h⟩ := h
  cases rx
  obtain ⟨t, rfl⟩ := ry
  obtain ⟨its, r, ⟨⟨cls, dd, data, sl⟩, ho, hc, n, hd⟩, hs⟩ := I.tuple hT
  simp only at hc hd
  subst hc hd
  have hle : its.length = xs.length := r.length.symm
  have hi : its.toArray.isEmpty = false := by
    cases its with
    | nil => exact absurd (List.eq_nil_of_length_eq_zero hle.symm) hne
    | cons a b => rfl
  rcases h with ⟨rfl, q⟩ | ⟨rfl, q⟩
  · refine wpAny_binaryOp_repeat_ref (T := "tuple") (U := "int") (by decide) ⟨_, ho, rfl⟩ (fun s' => typeIs_int s' 1 t) noFill_tuple_mul F.fills_int_mul F.slot_int_rmul repeat_tuple F.slot_int_index.lookup
      (call_meets F.slot_int_rmul (typeIs_int s 1 t) F.entry_int_rmul (F.args_int_rmul_2 _ _) (int_rmul_tuple 1 t l its.toArray n dd sl)
        ⟨ho, rfl, ⟨_, ho, rfl⟩, call_meets F.slot_tuple_mul ⟨_, ho, rfl⟩ F.entry_tuple_mul (F.args_tuple_mul_2 _ _) (tuple_mul1 l its.toArray n dd sl 1 t (by decide) (by rw [hi]; rfl)) ⟨ho, ?_⟩⟩)
    exact ⟨.ref l, H, I, rfl, q⟩
  · refine wpAny_binaryOp_repeat_ref (T := "tuple") (U := "int") (by decide) ⟨_, ho, rfl⟩ (fun s' => typeIs_int s' 0 t) noFill_tuple_mul F.fills_int_mul F.slot_int_rmul repeat_tuple F.slot_int_index.lookup
      (call_meets F.slot_int_rmul (typeIs_int s 0 t) F.entry_int_rmul (F.args_int_rmul_2 _ _) (int_rmul_tuple 0 t l its.toArray n dd sl)
        ⟨ho, rfl, ⟨_, ho, rfl⟩, call_meets F.slot_tuple_mul ⟨_, ho, rfl⟩ F.entry_tuple_mul (F.args_tuple_mul_2 _ _) (tuple_mul0 l its.toArray n dd sl 0 t (by decide) (by rw [hi]; rfl) (by simp)) ⟨ho, ?_⟩⟩)
    refine ⟨.ref s.heap.objs.size, _, I.laid (t' := s.toks) (o := .tup []) (fun b ob q => Heap.get?_push_of_some _ q) (Nat.le_refl _) ?_, rfl, q _ (I.hok.fresh (Nat.le_refl _))⟩
    exact ⟨Nat.zero_le _, [], .nil, IsTup.new _ _⟩
/-! ### pots -/
/-- at p stands a pot out of which at most n draws came by reckoning -/
def PotA (p : Addr) (n : Nat) (H : Hp) : Prop := ∃ xs, H p = some (.lst xs) ∧ PotL n xs
theorem PotA.up {p : Addr} {n m : Nat} {H : Hp} (h : PotA p n H) (k : n ≤ m) : PotA p m H := by
  obtain ⟨xs, e, q⟩ := h
  exact ⟨xs, e, q.up k⟩
theorem PotA.same {p : Addr} {n : Nat} {H H' : Hp} (h : PotA p n H) (s : Same H H') : PotA p n H' := by
  obtain ⟨xs, e, q⟩ := h
  exact ⟨xs, s _ _ e, q⟩
theorem PotA.new {p q : Addr} {n : Nat} {H : Hp} {o : HO} (h : PotA p n H) (nq : H q = none) : PotA p n (upd H q o) := h.same (same_put nq)
theorem PotA.ne {p q : Addr} {n : Nat} {H : Hp} (h : PotA p n H) (nq : H q = none) : p ≠ q := by
  obtain ⟨xs, e, _⟩ := h
  exact ne_of_none e nq
theorem PotA.put {p l : Addr} {n : Nat} {H : Hp} {o : HO} (h : PotA p n H) (ne : p ≠ l) : PotA p n (upd H l o) := by
  obtain ⟨xs, e, q⟩ := h
  exact ⟨xs, by rw [upd_ne ne]; exact e, q⟩
theorem PotA.kt {p : Addr} {n : Nat} {H H' : Hp} (h : PotA p n H) (b : Bu p H H') : Kt H H' := by
  obtain ⟨xs, e, _⟩ := h
  exact b.kt e
/-- tuples stay, while a pot is drawn from -/
theorem Da.bu {K : PySem.W.Frag} {p : Addr} {n : Nat} {H H' : Hp} {u : V} {d : PyData} (hd : Da K H u d) (ht : tupD d = true) (h : PotA p n H) (b : Bu p H H') : Da K H' u d := hd.kt (h.kt b) ht
theorem Bu.same {p : Addr} {H H1 H2 : Hp} (b : Bu p H H1) (s : Same H1 H2) : Bu p H H2 := b.trans (.of s)
def spDraw : Sp := fun vs H Q _ => ∃ (p : Addr) (m : Int) (n : Nat), vs = [.ref p, .int m] ∧ PotA p n H ∧ n < 10000000 ∧ 0 < m ∧ m.natAbs.log2 < 9000 ∧ ∀ H' d, Bu p H H' → PotA p (n + 1) H' → 0 ≤ d → d < m → Q (.int d) H'
def spPick (K : PySem.W.Frag) : Sp := fun vs H Q _ => ∃ (p q : Addr) (zs : List V) (n : Nat), vs = [.ref p, .ref q] ∧ PotA p n H ∧ n < 10000000 ∧ p ≠ q ∧ SqL K H q zs ∧ zs ≠ [] ∧ zs.length ≤ 1000000 ∧
  ∀ H' v, Bu p H H' → PotA p (n + 1) H' → v ∈ zs → Q v H'
def spPotS (K : PySem.W.Frag) : Sp := fun vs H Q _ => ∃ (a : Addr) (ns : List Int) (k : Int), vs = [.ref a, .int k] ∧ SqL K H a (ns.map V.int) ∧ 0 ≤ k ∧ k ≤ 1000 ∧ ∀ H' p, H p = none → Same H H' → PotA p 0 H' → Q (.ref p) H'
theorem log_i {m : Int} {k : Nat} (h1 : 0 ≤ m) (h2 : m < (2 ^ k : Nat)) (h0 : 0 < k) (hk : k ≤ 9000) : m.natAbs.log2 < 9000 :=
  Nat.lt_of_lt_of_le (PySem.Flt.log2_lt_of h0 (show m.natAbs < 2 ^ k by omega)) hk
/-! ### tuples joined; comprehensions whose elements are plain values -/
section
variable {K : PySem.W.Frag} {H0 : Hp} {σ : L2.St} {te ti : TE}
theorem cat_val {H : Hp} {x y : V} {ds es : List PyData} {Q : VK} (hx : Da K H x (.tuple ds)) (hy : Da K H y (.tuple es)) (hl : ds.length + es.length ≤ sizeLine)
    (q : ∀ H' u, Same H H' → Da K H' u (.tuple (ds ++ es)) → Q u H') : rCatA K x y H Q := by
  cases hx with
  | @tup a xs _ hs ha =>
  cases hy with
  | @tup b ys _ ht hb =>
  have l1 := daAll_len ha
  have l2 := daAll_len hb
  refine ⟨a, b, xs, ys, rfl, rfl, hs, ht, by omega, fun e => ?_, fun _ e => ?_, fun _ _ p np => ?_⟩
  · subst e
    cases ha
    exact q H _ Same.rfl' (.tup ht hb)
  · subst e
    cases hb
    refine q H _ Same.rfl' ?_
    rw [List.append_nil]
    exact .tup hs ha
  · exact q _ _ (same_put np) (.tup (xs := xs ++ ys) (.inl (.inl upd_same)) ((da_app ha hb).mono (same_put np)))
theorem g_lcT1 {ds : List PyData} {ys : List V} {g : TG} {vs : List Nat} (hi : ∀ (H : Hp) (Q : VK), Same H0 H → (∀ H' l us, Same H H' → SqT K H' l us → DaAll K H' us ds → Q (.ref l) H') → ti σ H Q) (hz : ds.length ≤ 1000000) (hl : ys.length = ds.length)
    (he : ∀ (j : Nat) (x y : V) (d : PyData), ds[j]? = some d → ys[j]? = some y → ∀ (H : Hp) (R : VK), Same H0 H → Da K H x d → (∀ H', Same H H' → R y H') → g x (wipe σ vs) H fun σ2 H2 => wipe σ2 vs = wipe σ vs ∧ te σ2 H2 R) :
    Gives H0 (tLc (iTup K ti) g tYes te vs) (gLst (ys.map gEq)) σ := fun H Q s q => by
  refine hi H _ s fun H1 l us s1 hl1 ha => ⟨l, rfl, ⟨us, hl1⟩, fun D nD => ?_⟩
  have sl := sizeLine_eq
  have hlen := daAll_len ha
  refine lc_tup (K := K) (a := l) (xs := us) (fun k H' => Same H1 H' ∧ H' D = some (.lst (ys.take k))) ⟨same_put nD, upd_same⟩ (fun k H' _ ⟨s', _⟩ => seqT_mono s' hl1) ?_ ?_
  · rintro k x H' hk ⟨s', eD⟩
    obtain ⟨d, hd, hx⟩ := daAll_at ha hk
    have hkl : k < ds.length := (List.getElem?_eq_some_iff.mp hd).1
    have hk' : k < ys.length := by omega
    have hy := List.getElem?_eq_getElem hk'
    refine cast ?_ (he k x ys[k] d hd hy H' (fun y' H4 => ∃ acc, H4 D = some (.lst acc) ∧ acc.length < sizeLine ∧ Same H1 (upd H4 D (.lst (acc ++ [y']))) ∧ upd H4 D (.lst (acc ++ [y'])) D = some (.lst (ys.take (k + 1))))
      (s.trans (s1.trans s')) (hx.mono s') (fun H4 s4 => ⟨_, s4 _ _ eD, ?_, ?_, ?_⟩))
    · rfl
    · rw [List.length_take]
      omega
    · intro b o e
      rw [upd_ne (ne_of_none e nD)]
      exact s4 _ _ (s' _ _ e)
    · rw [upd_same, List.take_add_one, hy]
      rfl
  · rintro H' ⟨s', eD⟩
    rw [hlen, ← hl, List.take_length] at eD
    exact q H' _ (s1.trans s') ⟨D, _, rfl, eD, allEq⟩
theorem g_lcL1 {ds : List PyData} {ys : List V} {g : TG} {vs : List Nat} (hi : ∀ (H : Hp) (Q : VK), Same H0 H → (∀ H' l us, Same H H' → SqL K H' l us → DaAll K H' us ds → Q (.ref l) H') → ti σ H Q) (hz : ds.length ≤ 1000000) (hl : ys.length = ds.length)
    (he : ∀ (j : Nat) (x y : V) (d : PyData), ds[j]? = some d → ys[j]? = some y → ∀ (H : Hp) (R : VK), Same H0 H → Da K H x d → (∀ H', Same H H' → R y H') → g x (wipe σ vs) H fun σ2 H2 => wipe σ2 vs = wipe σ vs ∧ te σ2 H2 R) :
    Gives H0 (tLc (iList K ti) g tYes te vs) (gLst (ys.map gEq)) σ := fun H Q s q => by
  refine hi H _ s fun H1 l us s1 hl1 ha => ⟨l, rfl, ⟨us, hl1⟩, fun D nD => ?_⟩
  have sl := sizeLine_eq
  have hlen := daAll_len ha
  refine lc_list (K := K) (a := l) (xs := us) (fun k H' => Same H1 H' ∧ H' D = some (.lst (ys.take k))) ⟨same_put nD, upd_same⟩ (fun k H' _ ⟨s', _⟩ => s'.seq hl1) ?_ ?_
  · rintro k x H' hk ⟨s', eD⟩
    obtain ⟨d, hd, hx⟩ := daAll_at ha hk
    have hkl : k < ds.length := (List.getElem?_eq_some_iff.mp hd).1
    have hk' : k < ys.length := by omega
    have hy := List.getElem?_eq_getElem hk'
    refine cast ?_ (he k x ys[k] d hd hy H' (fun y' H4 => ∃ acc, H4 D = some (.lst acc) ∧ acc.length < sizeLine ∧ Same H1 (upd H4 D (.lst (acc ++ [y']))) ∧ upd H4 D (.lst (acc ++ [y'])) D = some (.lst (ys.take (k + 1))))
      (s.trans (s1.trans s')) (hx.mono s') (fun H4 s4 => ⟨_, s4 _ _ eD, ?_, ?_, ?_⟩))
    · rfl
    · rw [List.length_take]
      omega
    · intro b o e
      rw [upd_ne (ne_of_none e nD)]
      exact s4 _ _ (s' _ _ e)
    · rw [upd_same, List.take_add_one, hy]
      rfl
  · rintro H' ⟨s', eD⟩
    rw [hlen, ← hl, List.take_length] at eD
    exact q H' _ (s1.trans s') ⟨D, _, rfl, eD, allEq⟩
theorem hi_tup {i : Nat} {x : V} {ds : List PyData} (hv : σ[i]? = some (some x)) (hd : Da K H0 x (.tuple ds)) :
    ∀ (H : Hp) (Q : VK), Same H0 H → (∀ H' l us, Same H H' → SqT K H' l us → DaAll K H' us ds → Q (.ref l) H') → tVar i σ H Q := fun H Q s q => by
  have z := hd.mono s
  cases z with
  | @tup a xs _ hs ha => exact ⟨_, hv, q H a xs Same.rfl' hs ha⟩
theorem hi_lst {i : Nat} {x : V} {ds : List PyData} (hv : σ[i]? = some (some x)) (hd : Da K H0 x (.list ds)) :
    ∀ (H : Hp) (Q : VK), Same H0 H → (∀ H' l us, Same H H' → SqL K H' l us → DaAll K H' us ds → Q (.ref l) H') → tVar i σ H Q := fun H Q s q => by
  have z := hd.mono s
  cases z with
  | @lst a xs _ hs ha => exact ⟨_, hv, q H a xs Same.rfl' hs ha⟩
end
end Ev

/-! ## Lines and their sums -/
namespace Ev
open PySem PySem.Spec PyProof.Rows L2
/-- a list of data made of tuples -/
def gLd (K : PySem.W.Frag) (es : List PyData) : GP := ⟨fun H u => ∃ l us, u = .ref l ∧ H l = some (.lst us) ∧ DaAll K H us es, fun s ⟨l, us, h1, h2, h3⟩ => ⟨l, us, h1, s _ _ h2, h3.mono s⟩⟩
section
variable {K : PySem.W.Frag} {H0 : Hp} {σ : L2.St} {te ti : TE}
theorem tupDs_take : ∀ {es : List PyData} (n : Nat), tupDs es = true → tupDs (es.take n) = true
  | [], n, h => by
    rw [List.take_nil]
    exact h
  | e :: es, 0, _ => by
    rw [List.take_zero, tupDs]
  | e :: es, n + 1, h => by
    rw [tupDs, Bool.and_eq_true] at h
    rw [List.take_succ_cons, tupDs, h.1, tupDs_take n h.2]
    rfl
/-- one more element of a comprehension's list -/
theorem lcD_more {H1 H4 H' : Hp} {D : Addr} {us : List V} {u : V} {es : List PyData} {e : PyData} {k : Nat} (nD : H1 D = none) (s' : Same H1 H') (s4 : Same H' H4) (eD : H' D = some (.lst us)) (ha : DaAll K H' us (es.take k)) (ht : tupDs es = true) (hk : es[k]? = some e) (hu : Da K H4 u e) :
    Same H1 (upd H4 D (.lst (us ++ [u]))) ∧ ∃ us', upd H4 D (.lst (us ++ [u])) D = some (.lst us') ∧ DaAll K (upd H4 D (.lst (us ++ [u]))) us' (es.take (k + 1)) := by
  have kt : Kt H4 (upd H4 D (.lst (us ++ [u]))) := Kt.put (s4 _ _ eD)
  have te : tupD e = true := by
    have z := tupDs_take (k + 1) ht
    rw [List.take_add_one, hk] at z
    exact tup_last z
  refine ⟨fun b o x => ?_, us ++ [u], upd_same, ?_⟩
  · rw [upd_ne (ne_of_none x nD)]
    exact s4 _ _ (s' _ _ x)
  · rw [List.take_add_one, hk]
    exact da_app (DaAll.kt ((Kt.of s4).trans kt) (tupDs_take k ht) ha) (.cons (Da.kt kt te hu) .nil)
where tup_last : ∀ {es : List PyData} {e : PyData}, tupDs (es ++ [e]) = true → tupD e = true
  | [], e, h => by
    rw [List.nil_append, tupDs, Bool.and_eq_true] at h
    exact h.1
  | d :: es, e, h => by
    rw [List.cons_append, tupDs, Bool.and_eq_true] at h
    exact tup_last h.2
theorem g_lcDL {ds es : List PyData} {g : TG} {vs : List Nat} (hi : ∀ (H : Hp) (Q : VK), Same H0 H → (∀ H' l us, Same H H' → SqL K H' l us → DaAll K H' us ds → Q (.ref l) H') → ti σ H Q) (hz : ds.length ≤ 1000000) (ht : tupDs es = true) (hl : es.length = ds.length)
    (he : ∀ (j : Nat) (x : V) (d e : PyData), ds[j]? = some d → es[j]? = some e → ∀ (H : Hp) (R : VK), Same H0 H → Da K H x d → (∀ H' u, Same H H' → Da K H' u e → R u H') → g x (wipe σ vs) H fun σ2 H2 => wipe σ2 vs = wipe σ vs ∧ te σ2 H2 R) :
    Gives H0 (tLc (iList K ti) g tYes te vs) (gLd K es) σ := fun H Q s q => by
  refine hi H _ s fun H1 l us s1 hl1 ha => ⟨l, rfl, ⟨us, hl1⟩, fun D nD => ?_⟩
  have sl := sizeLine_eq
  have hlen := daAll_len ha
  refine lc_list (K := K) (a := l) (xs := us) (fun k H' => Same H1 H' ∧ ∃ ws, H' D = some (.lst ws) ∧ DaAll K H' ws (es.take k)) ⟨same_put nD, [], upd_same, .nil⟩ (fun k H' _ ⟨s', _⟩ => s'.seq hl1) ?_ ?_
  · rintro k x H' hk ⟨s', ws, eD, hw⟩
    obtain ⟨d, hd, hx⟩ := daAll_at ha hk
    have hke : k < es.length := by
      have := (List.getElem?_eq_some_iff.mp hd).1
      omega
    have hek := List.getElem?_eq_getElem hke
    have hwl := daAll_len hw
    rw [List.length_take] at hwl
    refine cast ?_ (he k x d es[k] hd hek H' (fun y H4 => ∃ acc, H4 D = some (.lst acc) ∧ acc.length < sizeLine ∧ Same H1 (upd H4 D (.lst (acc ++ [y]))) ∧ ∃ ws, upd H4 D (.lst (acc ++ [y])) D = some (.lst ws) ∧ DaAll K (upd H4 D (.lst (acc ++ [y]))) ws (es.take (k + 1)))
      (s.trans (s1.trans s')) (hx.mono s') fun H4 u s4 hu => ⟨ws, s4 _ _ eD, by omega, lcD_more nD s' s4 eD hw ht hek hu⟩)
    rfl
  · rintro H' ⟨s', ws, eD, hw⟩
    rw [hlen, ← hl, List.take_length] at hw
    exact q H' _ (s1.trans s') ⟨D, ws, rfl, eD, hw⟩
theorem g_lcDT {a : Addr} {xs : List V} {es : List PyData} {g : TG} {vs : List Nat} {i : Nat} (hv : σ[i]? = some (some (.ref a))) (hx : SqT K H0 a xs) (hz : xs.length ≤ 1000000) (ht : tupDs es = true) (hl : es.length = xs.length)
    (he : ∀ (j : Nat) (x : V) (e : PyData), xs[j]? = some x → es[j]? = some e → ∀ (H : Hp) (R : VK), Same H0 H → (∀ H' u, Same H H' → Da K H' u e → R u H') → g x (wipe σ vs) H fun σ2 H2 => wipe σ2 vs = wipe σ vs ∧ te σ2 H2 R) :
    Gives H0 (tLc (iTup K (tVar i)) g tYes te vs) (gLd K es) σ := fun H Q s q => by
  refine ⟨_, hv, a, rfl, ⟨xs, seqT_mono s hx⟩, fun D nD => ?_⟩
  have sl := sizeLine_eq
  refine lc_tup (K := K) (a := a) (xs := xs) (fun k H' => Same H H' ∧ ∃ ws, H' D = some (.lst ws) ∧ DaAll K H' ws (es.take k)) ⟨same_put nD, [], upd_same, .nil⟩ (fun k H' _ ⟨s', _⟩ => seqT_mono (s.trans s') hx) ?_ ?_
  · rintro k x H' hk ⟨s', ws, eD, hw⟩
    have hke : k < es.length := by
      have := (List.getElem?_eq_some_iff.mp hk).1
      omega
    have hek := List.getElem?_eq_getElem hke
    have hwl := daAll_len hw
    rw [List.length_take] at hwl
    refine cast ?_ (he k x es[k] hk hek H' (fun y H4 => ∃ acc, H4 D = some (.lst acc) ∧ acc.length < sizeLine ∧ Same H (upd H4 D (.lst (acc ++ [y]))) ∧ ∃ ws, upd H4 D (.lst (acc ++ [y])) D = some (.lst ws) ∧ DaAll K (upd H4 D (.lst (acc ++ [y]))) ws (es.take (k + 1)))
      (s.trans s') fun H4 u s4 hu => ⟨ws, s4 _ _ eD, by omega, lcD_more nD s' s4 eD hw ht hek hu⟩)
    rfl
  · rintro H' ⟨s', ws, eD, hw⟩
    rw [← hl, List.take_length] at hw
    exact q H' _ s' ⟨D, ws, rfl, eD, hw⟩
end
def cntD (names : List Str) (c : Str → Int) : List (Key × V) := names.map fun n => (.inr n, .int (c n))
theorem cnt_val {names : List Str} {c : Str → Int} {x : Str} (h : x ∈ names) : valV (cntD names c) (.inr x) = some (.int (c x)) := by
  induction names with
  | nil => cases h
  | cons n names ih =>
    by_cases e : n = x
    · subst e
      exact valV_pos rfl
    · rw [show cntD (n :: names) c = ((.inr n, .int (c n)) : Key × V) :: cntD names c from rfl, valV_neg (fun z => e (Sum.inr.inj z))]
      exact ih ((List.mem_cons.mp h).resolve_left fun z => e z.symm)
theorem cnt_any {names : List Str} {c : Str → Int} {x : Str} : ((cntD names c).any fun kv => decide (kv.1 = .inr x)) = decide (x ∈ names) := by
  induction names with
  | nil => rfl
  | cons n names ih =>
    rw [show cntD (n :: names) c = ((.inr n, .int (c n)) : Key × V) :: cntD names c from rfl, List.any_cons, ih]
    by_cases e : n = x
    · subst e
      simp
    · have h1 : decide ((Sum.inr n : Key) = Sum.inr x) = false := decide_eq_false fun z => e (Sum.inr.inj z)
      have h2 : ¬ x = n := fun z => e z.symm
      show (decide ((Sum.inr n : Key) = Sum.inr x) || decide (x ∈ names)) = _
      rw [h1, Bool.false_or]
      exact decide_eq_decide.mpr ⟨fun z => List.mem_cons_of_mem _ z, fun z => (List.mem_cons.mp z).resolve_left h2⟩
theorem cnt_put {names : List Str} {c : Str → Int} {x : Str} {v : Int} (h : x ∈ names) : putK (cntD names c) (.inr x) (.int v) = cntD names fun n => if n = x then v else c n := by
  unfold putK
  rw [cnt_any, decide_eq_true h, if_pos rfl]
  unfold cntD
  rw [List.map_map]
  refine List.map_congr_left fun n _ => ?_
  show (if (Sum.inr n : Key) = Sum.inr x then _ else _) = ((.inr n, .int (if n = x then v else c n)) : Key × V)
  by_cases e : n = x
  · subst e
    rw [if_pos rfl]
    simp
  · rw [if_neg fun z => e (Sum.inr.inj z), if_neg e]
theorem cnt_new {names : List Str} {c : Str → Int} {x : Str} {v : Int} (h : x ∉ names) : putK (cntD names c) (.inr x) (.int v) = cntD names c ++ [(.inr x, .int v)] := by
  unfold putK
  rw [cnt_any, decide_eq_false h, if_neg Bool.false_ne_true]
/-- the sum of the numbers with the name n -/
def sumN (ps : List (Str × Int)) (n : Str) : Int := ((ps.filter fun p => decide (p.1 = n)).map (·.2)).sum
theorem sumN_snoc (ps : List (Str × Int)) (p : Str × Int) (n : Str) : sumN (ps ++ [p]) n = if n = p.1 then sumN ps n + p.2 else sumN ps n := by
  unfold sumN
  rw [List.filter_append, List.map_append, List.sum_append]
  by_cases e : p.1 = n
  · rw [if_pos e.symm]
    simp [e]
  · rw [if_neg fun z => e z.symm]
    simp [e]
theorem sumN_app (ps qs : List (Str × Int)) (n : Str) : sumN (ps ++ qs) n = sumN ps n + sumN qs n := by
  unfold sumN
  rw [List.filter_append, List.map_append, List.sum_append]
def totD (is : List It) (c : Str → Int) : PyData := .tuple ((linesI is).map fun n => pairD (n, c n))
theorem uniq_nd (xs : List Str) : (uniq [] xs).Nodup := uniq_nodup xs [] .nil
theorem lines_nd (is : List It) : (linesI is).Nodup := (srt_perm _).nodup_iff.mpr (uniq_nd _)
theorem lines_mem {is : List It} {x : Str} : x ∈ linesI is ↔ x ∈ (Its.sp 1 is).map (·.1) := by
  unfold linesI
  rw [(srt_perm _).mem_iff, uniq_mem]
  simp
theorem lines_len {is : List It} : (linesI is).length ≤ Its.nl is := by
  unfold linesI
  rw [(srt_perm _).length_eq]
  have z := uniq_len ((Its.sp 1 is).map (·.1)) []
  rw [List.length_map, Its.sp_len] at z
  have z0 : ([] : List Str).length = 0 := rfl
  omega
theorem sumN_nil (n : Str) : sumN [] n = 0 := rfl
mutual
/-- a line's ticks, r times -/
theorem It.sp_count (n : Str) (r : Int) : ∀ i : It, It.nn i → sumN (It.sp r i) n = r * ((It.w i).count n : Nat)
  | .line x t, h => by
    rw [It.nn] at h
    rw [It.sp, It.w]
    unfold sumN
    by_cases e : x = n
    · subst e
      rw [List.count_replicate_self]
      simp
      rw [Int.max_eq_left h]
    · rw [List.count_replicate, if_neg (by simpa using e)]
      simp [e]
  | .loop k is, h => by
    rw [It.nn] at h
    rw [It.sp, It.w, Its.sp_count n (r * k) is h.2, flat_count, Int.natCast_mul, Int.toNat_of_nonneg h.1, Int.mul_assoc]
theorem Its.sp_count (n : Str) (r : Int) : ∀ is : List It, Its.nn is → sumN (Its.sp r is) n = r * ((Its.w is).count n : Nat)
  | [], _ => by
    rw [Its.sp, Its.w, sumN_nil]
    simp
  | i :: is, h => by
    rw [Its.nn] at h
    rw [Its.sp, Its.w, sumN_app, It.sp_count n r i h.1, Its.sp_count n r is h.2, List.count_append, Int.natCast_add, Int.mul_add]
end
mutual
theorem It.sp_sum (r : Int) : ∀ i : It, It.nn i → ((It.sp r i).map (·.2)).sum = r * ((It.w i).length : Nat)
  | .line x t, h => by
    rw [It.nn] at h
    rw [It.sp, It.w, List.length_replicate, Int.toNat_of_nonneg h]
    simp
  | .loop k is, h => by
    rw [It.nn] at h
    rw [It.sp, It.w, Its.sp_sum (r * k) is h.2, flat_len, Int.natCast_mul, Int.toNat_of_nonneg h.1, Int.mul_assoc]
theorem Its.sp_sum (r : Int) : ∀ is : List It, Its.nn is → ((Its.sp r is).map (·.2)).sum = r * ((Its.w is).length : Nat)
  | [], _ => by
    rw [Its.sp, Its.w]
    simp
  | i :: is, h => by
    rw [Its.nn] at h
    rw [Its.sp, Its.w, List.map_append, List.sum_append, It.sp_sum r i h.1, Its.sp_sum r is h.2, List.length_append, Int.natCast_add, Int.mul_add]
end
theorem len_w {is : List It} (h : Its.nn is) : lenI is = ((Its.w is).length : Nat) := by
  unfold lenI
  rw [Its.sp_sum 1 is h, Int.one_mul]
theorem len_one {i : It} (h : It.nn i) : lenI [i] = ((It.w i).length : Nat) := by
  rw [len_w (by rw [Its.nn, Its.nn]; exact ⟨h, trivial⟩), w_one]
mutual
theorem It.sp_mem (x : Str) (r : Int) : ∀ i : It, It.ps i → (x ∈ (It.sp r i).map (·.1) ↔ x ∈ It.w i)
  | .line z t, h => by
    rw [It.ps] at h
    rw [It.sp, It.w, List.mem_replicate]
    simp
    intro e
    omega
  | .loop k is, h => by
    rw [It.ps] at h
    rw [It.sp, It.w, Its.sp_mem x (r * k) is h.2.2, mem_flat (by omega)]
theorem Its.sp_mem (x : Str) (r : Int) : ∀ is : List It, Its.ps is → (x ∈ (Its.sp r is).map (·.1) ↔ x ∈ Its.w is)
  | [], _ => by
    rw [Its.sp, Its.w]
    simp
  | i :: is, h => by
    rw [Its.ps] at h
    rw [Its.sp, Its.w, List.map_append, List.mem_append, List.mem_append, It.sp_mem x r i h.1, Its.sp_mem x r is h.2]
end
theorem lines_w {is : List It} (h : Its.ps is) {x : Str} : x ∈ linesI is ↔ x ∈ Its.w is := by
  rw [lines_mem, Its.sp_mem x 1 is h]
theorem lines_eq {is : List It} (h : Its.ps is) : linesI is = srtS (uniq [] (Its.w is)) := by
  unfold linesI
  refine srt_eq (uniq_nd _) (uniq_nd _) fun x => ?_
  rw [uniq_mem, uniq_mem, Its.sp_mem x 1 is h]
end Ev

/-! ## The row -/
namespace Ev
open PySem
def topS (i : Nat) : Stmt := PySem.Challenge.pw_evensamples_k84_whole_weights_or_a_blind.main.body.getD i (.Pass ⟨0, 0, 0, 0⟩)
end Ev

/-! ## Sums over classes -/
namespace Ev
open PySem
def sumK (h : Nat → Int) : Nat → Int
  | 0 => 0
  | n + 1 => sumK h n + h n
theorem sumK_congr {g h : Nat → Int} : ∀ {n : Nat}, (∀ k, k < n → g k = h k) → sumK g n = sumK h n
  | 0, _ => rfl
  | n + 1, e => by
    show sumK g n + g n = sumK h n + h n
    rw [sumK_congr fun k hk => e k (Nat.lt_succ_of_lt hk), e n (Nat.lt_succ_self n)]
theorem sumK_left (h : Nat → Int) : ∀ n : Nat, sumK h (n + 1) = h 0 + sumK (fun k => h (k + 1)) n
  | 0 => by
    show 0 + h 0 = h 0 + 0
    omega
  | n + 1 => by
    show sumK h (n + 1) + h (n + 1) = h 0 + (sumK (fun k => h (k + 1)) n + h (n + 1))
    rw [sumK_left h n]
    omega
theorem sumK_app (h : Nat → Int) (m : Nat) : ∀ n : Nat, sumK h (m + n) = sumK h m + sumK (fun k => h (m + k)) n
  | 0 => by
    show sumK h m = sumK h m + 0
    omega
  | n + 1 => by
    show sumK h (m + n) + h (m + n) = sumK h m + (sumK (fun k => h (m + k)) n + h (m + n))
    rw [sumK_app h m n]
    omega
theorem sumK_zero : ∀ n : Nat, sumK (fun _ => 0) n = 0
  | 0 => rfl
  | n + 1 => by
    show sumK _ n + 0 = 0
    rw [sumK_zero n]
    rfl
theorem sumK_plus (g h : Nat → Int) : ∀ n : Nat, sumK (fun k => g k + h k) n = sumK g n + sumK h n
  | 0 => rfl
  | n + 1 => by
    show sumK _ n + (g n + h n) = (sumK g n + g n) + (sumK h n + h n)
    rw [sumK_plus g h n]
    omega
theorem sumK_mul (c : Int) (h : Nat → Int) : ∀ n : Nat, sumK (fun k => c * h k) n = c * sumK h n
  | 0 => (Int.mul_zero c).symm
  | n + 1 => by
    show sumK _ n + c * h n = c * (sumK h n + h n)
    rw [sumK_mul c h n, Int.mul_add]
theorem sumK_mulR (c : Int) (h : Nat → Int) (n : Nat) : sumK (fun k => h k * c) n = sumK h n * c := by
  rw [Int.mul_comm, ← sumK_mul]
  exact sumK_congr fun k _ => Int.mul_comm _ _
theorem sumK_swap (h : Nat → Nat → Int) (m : Nat) : ∀ n : Nat, sumK (fun a => sumK (fun b => h a b) m) n = sumK (fun b => sumK (fun a => h a b) n) m
  | 0 => (sumK_zero m).symm
  | n + 1 => by
    show sumK (fun a => sumK (fun b => h a b) m) n + sumK (fun b => h n b) m = sumK (fun b => sumK (fun a => h a b) n + h n b) m
    rw [sumK_swap h m n, sumK_plus]
theorem sumK_shift1 (h : Nat → Int) (m : Nat) : sumK (fun a => h ((a + 1) % (m + 1))) (m + 1) = sumK h (m + 1) := by
  show sumK (fun a => h ((a + 1) % (m + 1))) m + h ((m + 1) % (m + 1)) = _
  rw [sumK_left h m, Nat.mod_self, sumK_congr (h := fun k => h (k + 1)) fun k hk => by rw [Nat.mod_eq_of_lt (by omega)]]
  omega
theorem sumK_shift {m : Nat} (hm : 0 < m) (h : Nat → Int) : ∀ s : Nat, sumK (fun a => h ((a + s) % m)) m = sumK h m
  | 0 => sumK_congr fun k hk => by rw [Nat.add_zero, Nat.mod_eq_of_lt hk]
  | s + 1 => by
    rw [← sumK_shift hm h s]
    obtain ⟨m', rfl⟩ : ∃ m', m = m' + 1 := ⟨m - 1, by omega⟩
    rw [← sumK_shift1 (fun a => h ((a + s) % (m' + 1))) m']
    exact sumK_congr fun k _ => by rw [Nat.mod_add_mod, show k + (s + 1) = k + 1 + s by omega]
theorem sumK_rev (h : Nat → Int) : ∀ n : Nat, sumK (fun k => h (n - 1 - k)) n = sumK h n
  | 0 => rfl
  | n + 1 => by
    rw [sumK_left]
    show h (n + 1 - 1 - 0) + sumK (fun k => h (n + 1 - 1 - (k + 1))) n = sumK h n + h n
    rw [← sumK_rev h n, sumK_congr (g := fun k => h (n + 1 - 1 - (k + 1))) (h := fun k => h (n - 1 - k)) fun k _ => by rw [show n + 1 - 1 - (k + 1) = n - 1 - k by omega]]
    rw [show n + 1 - 1 - 0 = n by omega]
    omega
theorem sumK_pick {c : Nat} (h : Nat → Int) : ∀ {m : Nat}, c < m → sumK (fun b => h b * (if b = c then 1 else 0)) m = h c
  | m + 1, hc => by
    show sumK _ m + h m * (if m = c then 1 else 0) = h c
    by_cases e : m = c
    · subst e
      rw [if_pos rfl, sumK_congr (h := fun _ => 0) fun k hk => by rw [if_neg (by omega), Int.mul_zero], sumK_zero]
      omega
    · rw [if_neg e, sumK_pick h (show c < m by omega)]
      omega
theorem sumK_le {h : Nat → Int} {M : Int} : ∀ {n : Nat}, (∀ k, k < n → (h k).natAbs ≤ M) → (sumK h n).natAbs ≤ n * M
  | 0, _ => by
    show ((0 : Int).natAbs : Int) ≤ 0 * M
    rw [Int.zero_mul]
    decide
  | n + 1, e => by
    show ((sumK h n + h n).natAbs : Int) ≤ ((n + 1 : Nat) : Int) * M
    have a := sumK_le fun k hk => e k (Nat.lt_succ_of_lt hk)
    have b := e n (Nat.lt_succ_self n)
    have c := Int.natAbs_add_le (sumK h n) (h n)
    rw [show ((n + 1 : Nat) : Int) * M = n * M + M by rw [Int.natCast_add, Int.add_mul]; simp]
    omega
theorem sumK_nn {h : Nat → Int} : ∀ {n : Nat}, (∀ k, k < n → 0 ≤ h k) → 0 ≤ sumK h n
  | 0, _ => Int.le_refl 0
  | n + 1, e => by
    have a := sumK_nn fun k hk => e k (Nat.lt_succ_of_lt hk)
    have b := e n (Nat.lt_succ_self n)
    show 0 ≤ sumK h n + h n
    omega
/-! ### classes, turned back -/
def rot (m c k : Nat) : Nat := (((c : Int) - (k : Int)) % (m : Int)).toNat
section
variable {m : Nat}
theorem rot_int (hm : 0 < m) (c k : Nat) : ((rot m c k : Nat) : Int) = ((c : Int) - k) % m := Int.toNat_of_nonneg (Int.emod_nonneg _ (by omega))
theorem rot_lt (hm : 0 < m) (c k : Nat) : rot m c k < m := by
  have a := rot_int hm c k
  have b := Int.emod_lt_of_pos ((c : Int) - k) (show (0 : Int) < m by omega)
  omega
theorem emod_of {a b : Int} {q : Int} (h : a - b = m * q) : a % (m : Int) = b % m := by
  rw [show a = b + m * q by omega, Int.add_mul_emod_self_left]
/-- what is r modulo m -/
theorem rot_eq (hm : 0 < m) {c k r : Nat} {q : Int} (hr : r < m) (h : (c : Int) - k - r = m * q) : rot m c k = r := by
  have a := rot_int hm c k
  rw [emod_of h, Int.emod_eq_of_lt (by omega) (by omega)] at a
  omega
theorem div_mod (a : Int) (m : Nat) : a % (m : Int) = a - m * (a / m) := by
  have := Int.emod_add_mul_ediv a m
  omega
theorem rot_back (hm : 0 < m) {a k : Nat} (ha : a < m) : rot m ((a + k) % m) k = a := by
  refine rot_eq hm ha (q := -(((a + k : Nat) : Int) / m)) ?_
  have z := div_mod ((a + k : Nat) : Int) m
  rw [Int.natCast_emod, z, Int.mul_neg]
  omega
theorem reindex (hm : 0 < m) (f g : Nat → Int) (s : Nat) : sumK (fun b => f (rot m b s) * g b) m = sumK (fun a => f a * g ((a + s) % m)) m := by
  rw [← sumK_shift hm (fun b => f (rot m b s) * g b) s]
  exact sumK_congr fun a ha => by rw [rot_back hm ha]
theorem rot_per (hm : 0 < m) (c k : Nat) : rot m c (k + m) = rot m c k := by
  refine rot_eq hm (rot_lt hm _ _) (q := ((c : Int) - k) / m - 1) ?_
  rw [rot_int hm, div_mod]
  rw [Int.mul_sub, Int.mul_one]
  omega
theorem rot_zero (hm : 0 < m) {c : Nat} (hc : c < m) : rot m c 0 = c := rot_eq hm hc (q := 0) (by omega)
theorem rot_self (hm : 0 < m) {c : Nat} (hc : c < m) : rot m c m = c := rot_eq hm hc (q := -1) (by omega)
theorem rot_succ (hm : 0 < m) (c k : Nat) : rot m ((c + 1) % m) (k + 1) = rot m c k := by
  refine rot_eq hm (rot_lt hm _ _) (q := ((c : Int) - k) / m - ((c + 1 : Nat) : Int) / m) ?_
  rw [rot_int hm, div_mod, Int.natCast_emod, div_mod]
  rw [Int.mul_sub]
  omega
end
/-! ### what is begun again and again -/
def repF (m s t : Nat) (f : Nat → Int) (c : Nat) : Int := sumK (fun k => f (rot m c (k * s))) t
def mvF (m s : Nat) (f : Nat → Int) (c : Nat) : Int := f (rot m c s)
section
variable {m : Nat} {g : Nat → Int}
theorem sumK_per {h : Nat → Int} (L : Nat) (hp : ∀ k, h (k + L) = h k) (r : Nat) : ∀ q : Nat, sumK h (q * L + r) = q * sumK h L + sumK h r
  | 0 => by
    rw [Nat.zero_mul, Nat.zero_add]
    simp
  | q + 1 => by
    rw [show (q + 1) * L + r = L + (q * L + r) by rw [Nat.succ_mul]; omega, sumK_app, sumK_congr (h := h) (n := q * L + r) fun k _ => by rw [Nat.add_comm L k, hp], sumK_per L hp r q, Int.natCast_add, Int.add_mul]
    simp
    omega
/-- a window that moves on by one -/
theorem slide (hm : 0 < m) (r c : Nat) : sumK (fun k => g (rot m ((c + 1) % m) k)) r = sumK (fun k => g (rot m c k)) r + g ((c + 1) % m) - g (rot m ((c + 1) % m) r) := by
  have a := sumK_left (fun k => g (rot m ((c + 1) % m) k)) r
  have b : sumK (fun k => g (rot m ((c + 1) % m) k)) (r + 1) = sumK (fun k => g (rot m ((c + 1) % m) k)) r + g (rot m ((c + 1) % m) r) := rfl
  rw [sumK_congr (g := fun k => g (rot m ((c + 1) % m) (k + 1))) (h := fun k => g (rot m c k)) fun k _ => by rw [rot_succ hm]] at a
  rw [rot_zero hm (Nat.mod_lt _ hm)] at a
  omega
theorem win_all (hm : 0 < m) : ∀ c : Nat, c < m → sumK (fun k => g (rot m c k)) m = sumK g m
  | 0, _ => by
    have a := slide (g := g) hm m (m - 1)
    rw [show m - 1 + 1 = m by omega, Nat.mod_self, rot_self hm hm] at a
    have b : sumK (fun k => g (rot m (m - 1) k)) m = sumK g m := by
      rw [← sumK_rev g m]
      exact sumK_congr fun k hk => by rw [rot_eq hm (r := m - 1 - k) (q := 0) (by omega) (by omega)]
    omega
  | c + 1, hc => by
    have a := slide (g := g) hm m c
    rw [Nat.mod_eq_of_lt hc, rot_self hm hc, win_all hm c (by omega)] at a
    omega
theorem rep1 (hm : 0 < m) {c : Nat} (hc : c < m) (t : Nat) : repF m 1 t g c = (t / m : Nat) * sumK g m + sumK (fun k => g (rot m c k)) (t % m) := by
  unfold repF
  rw [sumK_congr (h := fun k => g (rot m c k)) fun k _ => by rw [Nat.mul_one]]
  have e : t = t / m * m + t % m := by rw [Nat.mul_comm]; exact (Nat.div_add_mod t m).symm
  conv => lhs; rw [e]
  rw [sumK_per m (fun k => by rw [rot_per hm]), win_all hm c hc]
/-- the last r of a ring -/
theorem tail_sum (hm : 0 < m) {r : Nat} (hr : r ≤ m) : sumK (fun k => g (m - r + k)) r = sumK (fun k => g (rot m (m - 1) k)) r := by
  rw [← sumK_rev (fun k => g (m - r + k)) r]
  exact sumK_congr fun k hk => by rw [rot_eq hm (r := m - 1 - k) (q := 0) (by omega) (by omega), show m - r + (r - 1 - k) = m - 1 - k by omega]
end
/-! ### cycles -/
theorem bezout (a b : Nat) : ∃ x y : Int, (a : Int) * x + b * y = (Nat.gcd a b : Nat) := by
  induction a, b using Nat.gcd.induction with
  | H0 b => exact ⟨0, 1, by simp⟩
  | H1 a b h ih =>
    obtain ⟨x, y, e⟩ := ih
    refine ⟨y - (b / a : Nat) * x, x, ?_⟩
    rw [Nat.gcd_rec, ← e]
    have z : ((b : Nat) : Int) = a * (b / a : Nat) + (b % a : Nat) := by
      have := Nat.div_add_mod b a
      rw [← Int.natCast_mul, ← Int.natCast_add, this]
    rw [Int.mul_sub]
    conv => lhs; rw [z]
    rw [Int.add_mul, Int.mul_assoc]
    omega
section
variable {m s : Nat} {f : Nat → Int}
theorem cyc_len (s m : Nat) : s * (m / Nat.gcd s m) = m * (s / Nat.gcd s m) := by
  obtain ⟨u, hu⟩ := Nat.gcd_dvd_left s m
  obtain ⟨v, hv⟩ := Nat.gcd_dvd_right s m
  by_cases h : Nat.gcd s m = 0
  · rw [h]
    simp
  · have h : 0 < Nat.gcd s m := Nat.pos_of_ne_zero h
    rw [Nat.div_eq_of_eq_mul_right h hv, Nat.div_eq_of_eq_mul_right h hu]
    have gen : ∀ g : Nat, s = g * u → m = g * v → s * v = m * u := fun g h1 h2 => by
      rw [h1, h2, Nat.mul_assoc, Nat.mul_assoc, Nat.mul_comm u v]
    exact gen _ hu hv
theorem cyc_lenI (s m : Nat) : (s : Int) * (m / Nat.gcd s m : Nat) = m * (s / Nat.gcd s m : Nat) := by
  rw [← Int.natCast_mul, cyc_len, Int.natCast_mul]
theorem cyc_pos (hm : 0 < m) : 0 < Nat.gcd s m ∧ 0 < m / Nat.gcd s m ∧ Nat.gcd s m ≤ m ∧ m / Nat.gcd s m ≤ m := by
  have h : 0 < Nat.gcd s m := Nat.gcd_pos_of_pos_right s hm
  exact ⟨h, Nat.div_pos (Nat.le_of_dvd hm (Nat.gcd_dvd_right s m)) h, Nat.le_of_dvd hm (Nat.gcd_dvd_right s m), Nat.div_le_self _ _⟩
/-- steps within a cycle are steps of classes -/
theorem cyc_rot (hm : 0 < m) (first at' k : Nat) : (first + s * rot (m / Nat.gcd s m) at' k) % m = rot m ((first + s * at') % m) (k * s) := by
  obtain ⟨_, hL, _, _⟩ := cyc_pos (s := s) hm
  refine (rot_eq hm (Nat.mod_lt _ hm) (q := ((first + s * rot (m / Nat.gcd s m) at' k : Nat) : Int) / m - ((first + s * at' : Nat) : Int) / m + (s / Nat.gcd s m : Nat) * (((at' : Int) - k) / (m / Nat.gcd s m : Nat))) ?_).symm
  have hl := cyc_len s m
  have e1 := rot_int hL at' k
  rw [div_mod] at e1
  have z : (s : Int) * rot (m / Nat.gcd s m) at' k = s * at' - s * k - m * ((s / Nat.gcd s m : Nat) * (((at' : Int) - k) / (m / Nat.gcd s m : Nat))) := by
    rw [e1, Int.mul_sub, Int.mul_sub, ← Int.mul_assoc (s : Int) ((m / Nat.gcd s m : Nat) : Int), cyc_lenI, Int.mul_assoc]
  rw [Int.natCast_emod, Int.natCast_emod, div_mod, div_mod, Int.mul_add, Int.mul_sub]
  simp only [Int.natCast_add, Int.natCast_mul]
  rw [z, Int.mul_comm (k : Int) s]
  omega
theorem cyc_all (hm : 0 < m) {c : Nat} (hc : c < m) : ∃ first at', first < Nat.gcd s m ∧ at' < m / Nat.gcd s m ∧ (first + s * at') % m = c := by
  obtain ⟨hg, hL, _, _⟩ := cyc_pos (s := s) hm
  obtain ⟨x, y, e⟩ := bezout s m
  have hl := cyc_len s m
  refine ⟨c % Nat.gcd s m, ((x * (c / Nat.gcd s m : Nat)) % (m / Nat.gcd s m : Nat)).toNat, Nat.mod_lt _ hg, ?_, ?_⟩
  · have a := Int.emod_lt_of_pos (x * (c / Nat.gcd s m : Nat)) (show (0 : Int) < (m / Nat.gcd s m : Nat) by omega)
    have b := Int.emod_nonneg (x * (c / Nat.gcd s m : Nat)) (show ((m / Nat.gcd s m : Nat) : Int) ≠ 0 by omega)
    omega
  · have b := Int.emod_nonneg (x * (c / Nat.gcd s m : Nat)) (show ((m / Nat.gcd s m : Nat) : Int) ≠ 0 by omega)
    have cd : ((c : Nat) : Int) = (Nat.gcd s m : Nat) * (c / Nat.gcd s m : Nat) + (c % Nat.gcd s m : Nat) := by
      have := Nat.div_add_mod c (Nat.gcd s m)
      rw [← Int.natCast_mul, ← Int.natCast_add, this]
    have key : (((c % Nat.gcd s m + s * ((x * (c / Nat.gcd s m : Nat)) % (m / Nat.gcd s m : Nat)).toNat : Nat) : Int)) % m = c := by
      rw [show ((c : Nat) : Int) = ((c : Nat) : Int) % m from (Int.emod_eq_of_lt (by omega) (by omega)).symm]
      refine emod_of (q := -(y * (c / Nat.gcd s m : Nat)) - (s / Nat.gcd s m : Nat) * (x * (c / Nat.gcd s m : Nat) / (m / Nat.gcd s m : Nat))) ?_
      rw [Int.natCast_add, Int.natCast_mul, Int.toNat_of_nonneg b, div_mod, Int.mul_sub, ← Int.mul_assoc (s : Int) x, ← Int.mul_assoc (s : Int) ((m / Nat.gcd s m : Nat) : Int), cyc_lenI]
      have e2 : (s : Int) * x = (Nat.gcd s m : Nat) - m * y := by omega
      rw [e2, Int.sub_mul, Int.mul_sub, Int.mul_neg]
      rw [Int.mul_assoc (m : Int), Int.mul_assoc (m : Int)]
      omega
    omega
end
/-! ### ticks by class -/
/-- the ticks of line n in class c, the first tick being o -/
def cf (n : Str) (m c : Nat) : List Str → Nat → Int
  | [], _ => 0
  | x :: l, o => (if x = n ∧ o % m = c then 1 else 0) + cf n m c l (o + 1)
section
variable {n : Str} {m c : Nat}
theorem cf_app : ∀ (l k : List Str) (o : Nat), cf n m c (l ++ k) o = cf n m c l o + cf n m c k (o + l.length)
  | [], k, o => by
    show cf n m c k o = 0 + cf n m c k (o + 0)
    rw [Nat.add_zero]
    omega
  | x :: l, k, o => by
    show _ + cf n m c (l ++ k) (o + 1) = (_ + cf n m c l (o + 1)) + cf n m c k (o + (l.length + 1))
    rw [cf_app l k (o + 1), show o + 1 + l.length = o + (l.length + 1) by omega]
    omega
theorem cf_mod : ∀ (l : List Str) {o o' : Nat}, o % m = o' % m → cf n m c l o = cf n m c l o'
  | [], _, _, _ => rfl
  | x :: l, o, o', h => by
    show (if x = n ∧ o % m = c then 1 else 0) + cf n m c l (o + 1) = (if x = n ∧ o' % m = c then 1 else 0) + cf n m c l (o' + 1)
    rw [h, cf_mod l (o := o + 1) (o' := o' + 1) (by rw [Nat.add_mod, h, ← Nat.add_mod])]
theorem cf_nn : ∀ (l : List Str) (o : Nat), 0 ≤ cf n m c l o ∧ cf n m c l o ≤ l.length
  | [], _ => ⟨Int.le_refl 0, Int.le_refl 0⟩
  | x :: l, o => by
    have h := cf_nn l (o + 1)
    show 0 ≤ (if x = n ∧ o % m = c then 1 else 0) + cf n m c l (o + 1) ∧ (if x = n ∧ o % m = c then 1 else 0) + cf n m c l (o + 1) ≤ ((l.length + 1 : Nat) : Int)
    split <;> omega
theorem cf_flat (l : List Str) (o : Nat) : ∀ r : Nat, cf n m c (List.replicate r l).flatten o = sumK (fun k => cf n m c l (o + k * l.length)) r
  | 0 => rfl
  | r + 1 => by
    rw [List.replicate_succ', List.flatten_append, cf_app, cf_flat l o r, flat_len]
    show _ + cf n m c (l ++ []) _ = sumK _ r + _
    rw [List.append_nil]
end
mutual
def It.cols (m : Nat) : It → (Nat → Int) → List (Str × (Nat → Int))
  | .line x t, f => [(x, repF m 1 t.toNat f)]
  | .loop r js, f => Its.cols m js (repF m (Its.w js).length r.toNat f)
def Its.cols (m : Nat) : List It → (Nat → Int) → List (Str × (Nat → Int))
  | [], _ => []
  | i :: is, f => It.cols m i f ++ Its.cols m is (mvF m (It.w i).length f)
end
def colS (n : Str) (c : Nat) : List (Str × (Nat → Int)) → Int
  | [] => 0
  | p :: ps => (if p.1 = n then p.2 c else 0) + colS n c ps
theorem colS_app {n : Str} {c : Nat} : ∀ ps qs : List (Str × (Nat → Int)), colS n c (ps ++ qs) = colS n c ps + colS n c qs
  | [], qs => by
    show colS n c qs = 0 + _
    omega
  | p :: ps, qs => by
    show _ + colS n c (ps ++ qs) = (_ + colS n c ps) + _
    rw [colS_app ps qs]
    omega
theorem cf_line {n x : Str} {m c : Nat} (hm : 0 < m) (hc : c < m) (f : Nat → Int) : ∀ t : Nat, sumK (fun a => f a * cf n m c (List.replicate t x) a) m = if x = n then repF m 1 t f c else 0
  | 0 => by
    have : sumK (fun a => f a * cf n m c (List.replicate 0 x) a) m = 0 := by
      rw [sumK_congr (h := fun _ => 0) fun a _ => by show f a * 0 = 0; omega, sumK_zero]
    rw [this]
    split <;> rfl
  | t + 1 => by
    have step : ∀ a, cf n m c (List.replicate (t + 1) x) a = cf n m c (List.replicate t x) a + (if x = n ∧ (a + t) % m = c then 1 else 0) := fun a => by
      rw [List.replicate_succ', cf_app, List.length_replicate]
      show _ + ((if x = n ∧ (a + t) % m = c then 1 else 0) + 0) = _
      omega
    rw [sumK_congr (h := fun a => f a * cf n m c (List.replicate t x) a + f a * (if x = n ∧ (a + t) % m = c then 1 else 0)) fun a _ => by rw [step a, Int.mul_add], sumK_plus, cf_line hm hc f t]
    by_cases e : x = n
    · rw [if_pos e, if_pos e]
      have z := reindex hm f (fun b => if b = c then 1 else 0) t
      rw [sumK_pick (m := m) (fun b => f (rot m b t)) hc] at z
      rw [sumK_congr (h := fun a => f a * (if (a + t) % m = c then 1 else 0)) fun a _ => by simp [e], ← z]
      show repF m 1 t f c + _ = repF m 1 t f c + f (rot m c (t * 1))
      rw [Nat.mul_one]
    · rw [if_neg e, if_neg e, sumK_congr (h := fun _ => 0) fun a _ => by rw [if_neg (by simp [e]), Int.mul_zero], sumK_zero]
      rfl
mutual
theorem It.cols_cf {n : Str} {m c : Nat} (hm : 0 < m) (hc : c < m) : ∀ (i : It) (f : Nat → Int), It.nn i → colS n c (It.cols m i f) = sumK (fun a => f a * cf n m c (It.w i) a) m
  | .line x t, f, _ => by
    rw [It.cols, It.w, cf_line hm hc]
    show (if x = n then repF m 1 t.toNat f c else 0) + 0 = _
    omega
  | .loop r js, f, h => by
    rw [It.nn] at h
    rw [It.cols, It.w, Its.cols_cf hm hc js _ h.2]
    rw [sumK_congr (h := fun b => sumK (fun k => f (rot m b (k * (Its.w js).length)) * cf n m c (Its.w js) b) r.toNat) fun b _ => by
      show sumK _ _ * _ = _
      rw [sumK_mulR], sumK_swap]
    rw [sumK_congr (h := fun k => sumK (fun a => f a * cf n m c (Its.w js) (a + k * (Its.w js).length)) m) fun k _ => by
      rw [reindex hm f (fun b => cf n m c (Its.w js) b) (k * (Its.w js).length)]
      exact sumK_congr fun a _ => by rw [cf_mod (Its.w js) (o := (a + k * (Its.w js).length) % m) (o' := a + k * (Its.w js).length) (Nat.mod_mod _ _)]]
    rw [sumK_swap]
    exact sumK_congr fun a _ => by rw [sumK_mul, cf_flat]
theorem Its.cols_cf {n : Str} {m c : Nat} (hm : 0 < m) (hc : c < m) : ∀ (is : List It) (f : Nat → Int), Its.nn is → colS n c (Its.cols m is f) = sumK (fun a => f a * cf n m c (Its.w is) a) m
  | [], f, _ => by
    rw [Its.cols, Its.w]
    show 0 = sumK (fun a => f a * 0) m
    rw [sumK_congr (h := fun _ => 0) fun a _ => Int.mul_zero _, sumK_zero]
  | i :: is, f, h => by
    rw [Its.nn] at h
    rw [Its.cols, Its.w, colS_app, It.cols_cf hm hc i f h.1, Its.cols_cf hm hc is _ h.2]
    rw [show sumK (fun a => mvF m (It.w i).length f a * cf n m c (Its.w is) a) m = sumK (fun a => f a * cf n m c (Its.w is) (a + (It.w i).length)) m from (reindex hm f (fun b => cf n m c (Its.w is) b) (It.w i).length).trans
      (sumK_congr fun a _ => by rw [cf_mod (Its.w is) (o := (a + (It.w i).length) % m) (o' := a + (It.w i).length) (Nat.mod_mod _ _)])]
    rw [← sumK_plus]
    exact sumK_congr fun a _ => by rw [cf_app, Int.mul_add]
end
/-- one start, at tick 0 -/
def one0 (a : Nat) : Int := if a = 0 then 1 else 0
theorem cols_one {n : Str} {m c : Nat} (hm : 0 < m) (hc : c < m) {is : List It} (h : Its.nn is) : colS n c (Its.cols m is one0) = cf n m c (Its.w is) 0 := by
  rw [Its.cols_cf hm hc is _ h, sumK_congr (g := fun a => one0 a * cf n m c (Its.w is) a) (h := fun b => cf n m c (Its.w is) b * (if b = 0 then 1 else 0)) fun b _ => Int.mul_comm _ _]
  exact sumK_pick (m := m) (fun b => cf n m c (Its.w is) b) hm
end Ev

/-! ## When rows of lines are even -/
namespace Ev
open PySem
theorem sumK_one {P : Prop} [Decidable P] {k : Nat} : ∀ {m : Nat}, sumK (fun c => if P ∧ k = c then 1 else 0) m = if P ∧ k < m then 1 else 0
  | 0 => by
    rw [if_neg (fun z => absurd z.2 (Nat.not_lt_zero k))]
    rfl
  | m + 1 => by
    show sumK _ m + (if P ∧ k = m then 1 else 0) = _
    rw [sumK_one (m := m)]
    by_cases h : P
    · by_cases h1 : k < m
      · rw [if_pos ⟨h, h1⟩, if_neg (fun z => by have := z.2; omega), if_pos ⟨h, by omega⟩]
        rfl
      · by_cases h2 : k = m
        · rw [if_neg (fun z => h1 z.2), if_pos ⟨h, h2⟩, if_pos ⟨h, by omega⟩]
          rfl
        · rw [if_neg (fun z => h1 z.2), if_neg (fun z => h2 z.2), if_neg (fun z => by have := z.2; omega)]
          rfl
    · rw [if_neg (fun z => h z.1), if_neg (fun z => h z.1), if_neg (fun z => h z.1)]
      rfl
theorem cf_sum {n : Str} {m : Nat} (hm : 0 < m) : ∀ (l : List Str) (o : Nat), sumK (fun c => cf n m c l o) m = (l.count n : Nat)
  | [], _ => by
    show sumK (fun _ => 0) m = _
    rw [sumK_zero]
    rfl
  | x :: l, o => by
    show sumK (fun c => (if x = n ∧ o % m = c then 1 else 0) + cf n m c l (o + 1)) m = _
    rw [sumK_plus, sumK_one, cf_sum hm l (o + 1), List.count_cons]
    have := Nat.mod_lt o hm
    by_cases h : x = n
    · rw [if_pos ⟨h, this⟩, if_pos (beq_iff_eq.mpr h)]
      omega
    · rw [if_neg (fun z => h z.1), if_neg (fun z => h (beq_iff_eq.mp z))]
      omega
theorem sumK_const (k : Int) : ∀ m : Nat, sumK (fun _ => k) m = m * k
  | 0 => by
    show (0 : Int) = 0 * k
    omega
  | m + 1 => by
    show sumK _ m + k = _
    rw [sumK_const k m, Int.natCast_add, Int.add_mul]
    omega
/-- equal classes: the modulus divides how many there are -/
theorem even_dvd {n : Str} {m : Nat} (hm : 0 < m) {l : List Str} {o : Nat} (h : ∀ c, c < m → cf n m c l o = cf n m 0 l o) : m ∣ l.count n := by
  have z := cf_sum (n := n) hm l o
  rw [sumK_congr (h := fun _ => cf n m 0 l o) (fun c hc => h c hc), sumK_const] at z
  have h0 := (cf_nn (n := n) (m := m) (c := 0) l o).1
  refine ⟨(cf n m 0 l o).toNat, ?_⟩
  have e : ((m * (cf n m 0 l o).toNat : Nat) : Int) = (l.count n : Nat) := by
    rw [Int.natCast_mul, Int.toNat_of_nonneg h0, z]
  omega
theorem cf_short {n x : Str} {m c : Nat} : ∀ k : Nat, k ≤ m → cf n m c (List.replicate k x) 0 = if x = n ∧ c < k then 1 else 0
  | 0, _ => by
    rw [if_neg (fun z => absurd z.2 (Nat.not_lt_zero c))]
    rfl
  | k + 1, h => by
    rw [List.replicate_succ', cf_app, cf_short k (by omega), List.length_replicate]
    show _ + ((if x = n ∧ (0 + k) % m = c then 1 else 0) + 0) = _
    rw [Nat.zero_add, Nat.mod_eq_of_lt (by omega)]
    by_cases h1 : x = n
    · by_cases h2 : c < k
      · rw [if_pos ⟨h1, h2⟩, if_neg (fun z => by have := z.2; omega), if_pos ⟨h1, by omega⟩]
        rfl
      · by_cases h3 : k = c
        · rw [if_neg (fun z => h2 z.2), if_pos ⟨h1, h3⟩, if_pos ⟨h1, by omega⟩]
          rfl
        · rw [if_neg (fun z => h2 z.2), if_neg (fun z => h3 z.2), if_neg (fun z => by have := z.2; omega)]
          rfl
    · rw [if_neg (fun z => h1 z.1), if_neg (fun z => h1 z.1), if_neg (fun z => h1 z.1)]
      rfl
/-- one tick later -/
theorem cf_next {n x : Str} {m c f : Nat} (o : Nat) : cf n m c (List.replicate f x) (o + 1) = cf n m c (List.replicate f x) o - (if x = n ∧ o % m = c then 1 else 0) + (if x = n ∧ (o + f) % m = c then 1 else 0) := by
  have e1 : cf n m c (List.replicate (f + 1) x) o = (if x = n ∧ o % m = c then 1 else 0) + cf n m c (List.replicate f x) (o + 1) := rfl
  have e2 : cf n m c (List.replicate (f + 1) x) o = cf n m c (List.replicate f x) o + ((if x = n ∧ (o + f) % m = c then 1 else 0) + 0) := by
    rw [List.replicate_succ', cf_app, List.length_replicate]
    rfl
  omega
theorem cf_per {n x : Str} {m c : Nat} (hc : c < m) : ∀ o : Nat, cf n m c (List.replicate m x) o = if x = n then 1 else 0
  | 0 => by
    rw [cf_short m (Nat.le_refl m)]
    by_cases h : x = n
    · rw [if_pos ⟨h, hc⟩, if_pos h]
    · rw [if_neg (fun z => h z.1), if_neg h]
  | o + 1 => by
    rw [cf_next, cf_per hc o, Nat.add_mod_right]
    omega
theorem cf_mult {n x : Str} {m c : Nat} (hc : c < m) : ∀ (k o : Nat), cf n m c (List.replicate (m * k) x) o = if x = n then (k : Int) else 0
  | 0, o => by
    rw [Nat.mul_zero]
    show (0 : Int) = _
    split <;> rfl
  | k + 1, o => by
    rw [Nat.mul_succ, ← List.replicate_append_replicate, cf_app, cf_mult hc k o, cf_per hc]
    split <;> omega
/-! ### coarser classes -/
theorem cf_coarse {n : Str} {m d r : Nat} (hm : 0 < m) (hd : d ∣ m) : ∀ (l : List Str) (o : Nat), cf n d r l o = sumK (fun c => if c % d = r then cf n m c l o else 0) m
  | [], o => by
    rw [sumK_congr (h := fun _ => 0) (fun c _ => by show (if c % d = r then (0 : Int) else 0) = 0; split <;> rfl), sumK_zero]
    rfl
  | x :: l, o => by
    show (if x = n ∧ o % d = r then 1 else 0) + cf n d r l (o + 1) = _
    rw [cf_coarse hm hd l (o + 1)]
    have e : ∀ c, c < m → (if c % d = r then cf n m c (x :: l) o else 0) = (if (x = n ∧ o % d = r) ∧ o % m = c then 1 else 0) + (if c % d = r then cf n m c l (o + 1) else 0) := fun c _ => by
      show (if c % d = r then (if x = n ∧ o % m = c then 1 else 0) + cf n m c l (o + 1) else 0) = _
      have hmd : o % m % d = o % d := Nat.mod_mod_of_dvd o hd
      by_cases h1 : c % d = r
      · rw [if_pos h1, if_pos h1]
        congr 1
        by_cases h2 : x = n ∧ o % m = c
        · rw [if_pos h2, if_pos ⟨⟨h2.1, by rw [← hmd, h2.2]; exact h1⟩, h2.2⟩]
        · rw [if_neg h2, if_neg (fun z => h2 ⟨z.1.1, z.2⟩)]
      · rw [if_neg h1, if_neg h1, if_neg (fun z => h1 (by rw [← z.2, hmd]; exact z.1.2))]
        rfl
    rw [sumK_congr e, sumK_plus, sumK_one]
    have := Nat.mod_lt o hm
    by_cases h : x = n ∧ o % d = r
    · rw [if_pos h, if_pos ⟨h, this⟩]
    · rw [if_neg h, if_neg (fun z => h z.1)]
/-- equal classes are equal in coarser ones -/
theorem even_coarse {n : Str} {m d : Nat} (hm : 0 < m) (hd : d ∣ m) {l : List Str} {o : Nat} (h : ∀ c, c < m → cf n m c l o = cf n m 0 l o) {r : Nat} (hr : r < d) : cf n d r l o = cf n d 0 l o := by
  have d0 : 0 < d := by omega
  have key : ∀ r, r < d → cf n d r l o = cf n m 0 l o * ((m / d : Nat) : Int) := fun r hr => by
    rw [cf_coarse hm hd, sumK_congr (h := fun c => cf n m 0 l o * (if c % d = r then 1 else 0)) (fun c hc => by rw [h c hc]; split <;> omega), sumK_mul]
    congr 1
    have z : ∀ k, sumK (fun c => if c % d = r then 1 else 0) k = cf n d r (List.replicate k n) 0 := fun k => by
      induction k with
      | zero => rfl
      | succ k ih =>
        rw [List.replicate_succ', cf_app, List.length_replicate]
        show sumK _ k + (if k % d = r then 1 else 0) = _ + ((if n = n ∧ (0 + k) % d = r then 1 else 0) + 0)
        rw [ih, Nat.zero_add]
        by_cases h1 : k % d = r
        · rw [if_pos h1, if_pos ⟨rfl, h1⟩]
          omega
        · rw [if_neg h1, if_neg (fun z => h1 z.2)]
          omega
    rw [z m, show m = d * (m / d) from (Nat.mul_div_cancel' hd).symm, cf_mult hr, if_pos rfl]
    rw [Nat.mul_div_cancel_left _ d0]
  rw [key r hr, key 0 d0]
/-! ### periods -/
theorem per_gcd {N : Nat → Int} : ∀ (a b : Nat), (∀ o, N (o + a) = N o) → (∀ o, N (o + b) = N o) → ∀ o, N (o + Nat.gcd a b) = N o := by
  intro a b
  induction a, b using Nat.gcd.induction with
  | H0 b =>
    intro _ hb o
    rw [Nat.gcd_zero_left]
    exact hb o
  | H1 a b ha ih =>
    intro h1 h2 o
    rw [Nat.gcd_rec]
    refine ih (fun o => ?_) h1 o
    have mul : ∀ k o, N (o + a * k) = N o := fun k => by
      induction k with
      | zero =>
        intro o
        rw [Nat.mul_zero, Nat.add_zero]
      | succ k ihk =>
        intro o
        rw [Nat.mul_succ, ← Nat.add_assoc, h1, ihk]
    have e : o + b % a + a * (b / a) = o + b := by
      have := Nat.div_add_mod b a
      omega
    rw [← mul (b / a) (o + b % a), e, h2]
theorem per_mul {N : Nat → Int} {a : Nat} (h : ∀ o, N (o + a) = N o) : ∀ k o, N (o + a * k) = N o
  | 0, o => by rw [Nat.mul_zero, Nat.add_zero]
  | k + 1, o => by rw [Nat.mul_succ, ← Nat.add_assoc, h, per_mul h k o]
/-- intervals of f ticks, every L ticks, R of them, are even if gcd(m, L) divides f and m divides L * R -/
theorem loop_even {x : Str} {m L R f : Nat} (hm : 0 < m) (hLR : m ∣ L * R) (hf : Nat.gcd m L ∣ f) (o0 : Nat) {c : Nat} (hc : c < m) :
    sumK (fun k => cf x m c (List.replicate f x) (o0 + k * L)) R = sumK (fun k => cf x m 0 (List.replicate f x) (o0 + k * L)) R := by
  have step : ∀ c, c + 1 < m → sumK (fun k => cf x m (c + 1) (List.replicate f x) (o0 + k * L)) R = sumK (fun k => cf x m c (List.replicate f x) (o0 + k * L)) R := fun c hc => by
    let N : Nat → Int := fun o => sumK (fun k => if (o + k * L) % m = c + 1 then 1 else 0) R
    have pm : ∀ o, N (o + m) = N o := fun o => sumK_congr fun k _ => by
      rw [show o + m + k * L = o + k * L + m by omega, Nat.add_mod_right]
    have pL : ∀ o, N (o + L) = N o := fun o => by
      show sumK (fun k => if (o + L + k * L) % m = c + 1 then 1 else 0) R = sumK (fun k => if (o + k * L) % m = c + 1 then 1 else 0) R
      have e1 := sumK_left (fun k => if (o + k * L) % m = c + 1 then (1 : Int) else 0) R
      have e2 : sumK (fun k => if (o + k * L) % m = c + 1 then (1 : Int) else 0) (R + 1) = sumK (fun k => if (o + k * L) % m = c + 1 then 1 else 0) R + (if (o + R * L) % m = c + 1 then 1 else 0) := rfl
      have e3 : (o + R * L) % m = (o + 0 * L) % m := by
        obtain ⟨q, hq⟩ := hLR
        rw [Nat.mul_comm R L, hq, Nat.add_mul_mod_self_left, Nat.zero_mul, Nat.add_zero]
      rw [e3] at e2
      have e4 : sumK (fun k => if (o + (k + 1) * L) % m = c + 1 then (1 : Int) else 0) R = sumK (fun k => if (o + L + k * L) % m = c + 1 then 1 else 0) R := sumK_congr fun k _ => by
        rw [show o + (k + 1) * L = o + L + k * L by rw [Nat.add_mul, Nat.one_mul]; omega]
      omega
    have pd := per_gcd m L pm pL
    obtain ⟨q, hq⟩ := hf
    have pf : N (o0 + f) = N o0 := by
      rw [hq]
      exact per_mul pd q o0
    have cls : ∀ (l : List Str) (o : Nat), cf x m (c + 1) l (o + 1) = cf x m c l o := fun l => by
      induction l with
      | nil => intro o; rfl
      | cons y l ih =>
        intro o
        show (if y = x ∧ (o + 1) % m = c + 1 then 1 else 0) + cf x m (c + 1) l (o + 1 + 1) = (if y = x ∧ o % m = c then 1 else 0) + cf x m c l (o + 1)
        rw [ih (o + 1)]
        congr 1
        have hiff : (o + 1) % m = c + 1 ↔ o % m = c := by
          have h1 := Nat.div_add_mod o m
          have h2 := Nat.mod_lt o hm
          by_cases h3 : o % m + 1 = m
          · have e : (o + 1) % m = 0 := by
              rw [show o + 1 = m * (o / m + 1) by rw [Nat.mul_add, Nat.mul_one]; omega, Nat.mul_mod_right]
            omega
          · have e : (o + 1) % m = o % m + 1 := by
              rw [Nat.add_mod, Nat.mod_eq_of_lt (show 1 < m by omega), Nat.mod_eq_of_lt (by omega)]
            omega
        by_cases h : y = x
        · by_cases h4 : o % m = c
          · rw [if_pos ⟨h, hiff.mpr h4⟩, if_pos ⟨h, h4⟩]
          · rw [if_neg (fun z => h4 (hiff.mp z.2)), if_neg (fun z => h4 z.2)]
        · rw [if_neg (fun z => h z.1), if_neg (fun z => h z.1)]
    have e5 : sumK (fun k => cf x m c (List.replicate f x) (o0 + k * L)) R = sumK (fun k => cf x m (c + 1) (List.replicate f x) (o0 + k * L) + ((if (o0 + f + k * L) % m = c + 1 then 1 else 0) + (-1) * (if (o0 + k * L) % m = c + 1 then 1 else 0))) R := sumK_congr fun k _ => by
      rw [← cls, cf_next, show o0 + k * L + f = o0 + f + k * L by omega]
      have a1 : (if x = x ∧ (o0 + k * L) % m = c + 1 then (1 : Int) else 0) = if (o0 + k * L) % m = c + 1 then 1 else 0 := by
        by_cases h : (o0 + k * L) % m = c + 1
        · rw [if_pos h, if_pos ⟨rfl, h⟩]
        · rw [if_neg h, if_neg (fun z => h z.2)]
      have a2 : (if x = x ∧ (o0 + f + k * L) % m = c + 1 then (1 : Int) else 0) = if (o0 + f + k * L) % m = c + 1 then 1 else 0 := by
        by_cases h : (o0 + f + k * L) % m = c + 1
        · rw [if_pos h, if_pos ⟨rfl, h⟩]
        · rw [if_neg h, if_neg (fun z => h z.2)]
      rw [a1, a2]
      omega
    rw [e5, sumK_plus, sumK_plus, sumK_mul]
    have : N (o0 + f) = N o0 := pf
    show _ = _ + (N (o0 + f) + (-1) * N o0)
    omega
  induction c with
  | zero => rfl
  | succ c ih => rw [step c hc, ih (by omega)]
theorem cf_none {n : Str} {m c : Nat} : ∀ (l : List Str) (o : Nat), n ∉ l → cf n m c l o = 0
  | [], _, _ => rfl
  | x :: l, o, h => by
    have h1 : x ≠ n := fun e => h (e ▸ List.mem_cons_self ..)
    have h2 : n ∉ l := fun e => h (List.mem_cons_of_mem _ e)
    show (if x = n ∧ o % m = c then 1 else 0) + cf n m c l (o + 1) = 0
    rw [if_neg (fun z => h1 z.1), cf_none l (o + 1) h2]
    rfl
end Ev

/-! ## Going round by steps of p -/
namespace Ev
open PySem
theorem orb_back {L p : Nat} (hL : 0 < L) : L ∣ L / Nat.gcd p L * p := by
  have hg := Nat.gcd_pos_of_pos_right p hL
  obtain ⟨a, ha⟩ := Nat.gcd_dvd_left p L
  obtain ⟨b, hb⟩ := Nat.gcd_dvd_right p L
  generalize Nat.gcd p L = g at *
  refine ⟨a, ?_⟩
  rw [hb, Nat.mul_div_cancel_left _ hg, ha, Nat.mul_comm g a, ← Nat.mul_assoc, Nat.mul_comm (g * b) a, Nat.mul_comm b a, Nat.mul_assoc, Nat.mul_comm b g]
theorem orb_ne {L p k : Nat} (hL : 0 < L) (h0 : 0 < k) (hk : k < L / Nat.gcd p L) : ¬ L ∣ k * p := by
  intro h
  have hg := Nat.gcd_pos_of_pos_right p hL
  have cop := Nat.coprime_div_gcd_div_gcd (m := p) (n := L) hg
  have e1 : Nat.gcd p L * (L / Nat.gcd p L) = L := Nat.mul_div_cancel' (Nat.gcd_dvd_right p L)
  have e2 : Nat.gcd p L * (p / Nat.gcd p L) = p := Nat.mul_div_cancel' (Nat.gcd_dvd_left p L)
  have h2 : Nat.gcd p L * (L / Nat.gcd p L) ∣ Nat.gcd p L * (k * (p / Nat.gcd p L)) := by
    rw [e1, ← Nat.mul_assoc, Nat.mul_comm _ k, Nat.mul_assoc, e2]
    exact h
  have h3 := Nat.dvd_of_mul_dvd_mul_left hg h2
  have h4 := Nat.Coprime.dvd_of_dvd_mul_right (Nat.Coprime.symm cop) h3
  have := Nat.le_of_dvd h0 h4
  omega
theorem orb_count {L p s i : Nat} (hL : 0 < L) (hi : i < L) : sumK (fun k => if (s + k * p) % L = i then 1 else 0) (L / Nat.gcd p L) = if i % Nat.gcd p L = s % Nat.gcd p L then 1 else 0 := by
  have hg := Nat.gcd_pos_of_pos_right p hL
  by_cases h : i % Nat.gcd p L = s % Nat.gcd p L
  · rw [if_pos h]
    let N : Nat → Int := fun o => sumK (fun k => if (o + k * p) % L = i then 1 else 0) (L / Nat.gcd p L)
    have pL : ∀ o, N (o + L) = N o := fun o => sumK_congr fun k _ => by
      rw [show o + L + k * p = o + k * p + L by omega, Nat.add_mod_right]
    have pp : ∀ o, N (o + p) = N o := fun o => by
      show sumK (fun k => if (o + p + k * p) % L = i then 1 else 0) (L / Nat.gcd p L) = sumK (fun k => if (o + k * p) % L = i then 1 else 0) (L / Nat.gcd p L)
      have e1 := sumK_left (fun k => if (o + k * p) % L = i then (1 : Int) else 0) (L / Nat.gcd p L)
      have e2 : sumK (fun k => if (o + k * p) % L = i then (1 : Int) else 0) (L / Nat.gcd p L + 1) = sumK (fun k => if (o + k * p) % L = i then 1 else 0) (L / Nat.gcd p L) + (if (o + L / Nat.gcd p L * p) % L = i then 1 else 0) := rfl
      have e3 : (o + L / Nat.gcd p L * p) % L = (o + 0 * p) % L := by
        obtain ⟨q, hq⟩ := orb_back (p := p) hL
        rw [hq, Nat.add_mul_mod_self_left, Nat.zero_mul, Nat.add_zero]
      rw [e3] at e2
      have e4 : sumK (fun k => if (o + (k + 1) * p) % L = i then (1 : Int) else 0) (L / Nat.gcd p L) = sumK (fun k => if (o + p + k * p) % L = i then 1 else 0) (L / Nat.gcd p L) := sumK_congr fun k _ => by
        rw [show o + (k + 1) * p = o + p + k * p by rw [Nat.add_mul, Nat.one_mul]; omega]
      omega
    have pg := per_gcd p L pp pL
    have e1 : N s = N (s % Nat.gcd p L) := by
      have z := per_mul pg (s / Nat.gcd p L) (s % Nat.gcd p L)
      rw [Nat.mod_add_div] at z
      exact z
    have e2 : N i = N (i % Nat.gcd p L) := by
      have z := per_mul pg (i / Nat.gcd p L) (i % Nat.gcd p L)
      rw [Nat.mod_add_div] at z
      exact z
    show N s = 1
    rw [e1, ← h, ← e2]
    have hn : 0 < L / Nat.gcd p L := Nat.div_pos (Nat.gcd_le_right _ hL) hg
    obtain ⟨n, hn'⟩ : ∃ n, L / Nat.gcd p L = n + 1 := ⟨L / Nat.gcd p L - 1, by omega⟩
    show sumK (fun k => if (i + k * p) % L = i then 1 else 0) (L / Nat.gcd p L) = 1
    rw [hn', sumK_left, Nat.zero_mul, Nat.add_zero, Nat.mod_eq_of_lt hi, if_pos rfl, sumK_congr (h := fun _ => 0) (fun k hk => if_neg fun z => ?_), sumK_zero]
    · rfl
    · refine orb_ne (p := p) (k := k + 1) hL (by omega) (by omega) ?_
      have z2 := Nat.div_add_mod (i + (k + 1) * p) L
      rw [z] at z2
      exact ⟨(i + (k + 1) * p) / L, by omega⟩
  · rw [if_neg h, sumK_congr (h := fun _ => 0) (fun k _ => if_neg fun z => h ?_), sumK_zero]
    obtain ⟨q, hq⟩ := Nat.gcd_dvd_left p L
    have e : (s + k * p) % L % Nat.gcd p L = s % Nat.gcd p L := by
      rw [Nat.mod_mod_of_dvd _ (Nat.gcd_dvd_right p L)]
      have : Nat.gcd p L ∣ k * p := Nat.dvd_trans (Nat.gcd_dvd_left p L) (Nat.dvd_mul_left _ _)
      obtain ⟨u, hu⟩ := this
      rw [hu, Nat.add_mul_mod_self_left]
    rw [← e, z]
theorem cf_idx {n : Str} {m c : Nat} (w : List Str) : ∀ k, k ≤ w.length → cf n m c (w.take k) 0 = sumK (fun i => if w[i]? = some n ∧ i % m = c then 1 else 0) k
  | 0, _ => by
    rw [List.take_zero]
    rfl
  | k + 1, h => by
    have e := List.getElem?_eq_getElem (show k < w.length by omega)
    rw [List.take_add_one, e, cf_app, cf_idx w k (by omega), List.length_take, Nat.min_eq_left (by omega)]
    show _ + ((if w[k] = n ∧ (0 + k) % m = c then 1 else 0) + 0) = _ + (if w[k]? = some n ∧ k % m = c then 1 else 0)
    rw [Nat.zero_add, e]
    by_cases h1 : w[k] = n ∧ k % m = c
    · rw [if_pos h1, if_pos ⟨by rw [h1.1], h1.2⟩]
      omega
    · rw [if_neg h1, if_neg (fun z => h1 ⟨Option.some.inj z.1, z.2⟩)]
      omega
/-- the looks from s on, by steps of p, till they come back, see the class of s -/
theorem seen_count {n : Str} {w : List Str} {p s : Nat} (hL : 0 < w.length) : sumK (fun k => if w[(s + k * p) % w.length]? = some n then 1 else 0) (w.length / Nat.gcd p w.length) = cf n (Nat.gcd p w.length) (s % Nat.gcd p w.length) w 0 := by
  have e0 := cf_idx (n := n) (m := Nat.gcd p w.length) (c := s % Nat.gcd p w.length) w w.length (Nat.le_refl _)
  rw [List.take_length] at e0
  rw [e0, sumK_congr (h := fun k => sumK (fun i => if w[i]? = some n ∧ (s + k * p) % w.length = i then 1 else 0) w.length) fun k _ => ?_, sumK_swap]
  · refine sumK_congr fun i hi => ?_
    have oc := orb_count (p := p) (s := s) hL hi
    by_cases h : w[i]? = some n
    · rw [sumK_congr (h := fun k => if (s + k * p) % w.length = i then 1 else 0) fun k _ => ?_, oc]
      · by_cases h2 : i % Nat.gcd p w.length = s % Nat.gcd p w.length
        · rw [if_pos h2, if_pos ⟨h, h2⟩]
        · rw [if_neg h2, if_neg (fun z => h2 z.2)]
      · by_cases h3 : (s + k * p) % w.length = i
        · rw [if_pos h3, if_pos ⟨h, h3⟩]
        · rw [if_neg h3, if_neg (fun z => h3 z.2)]
    · rw [if_neg (fun z => h z.1), sumK_congr (h := fun _ => 0) fun k _ => if_neg (fun z => h z.1), sumK_zero]
  · have hlt := Nat.mod_lt (s + k * p) hL
    have e : ∀ i, i < w.length → (if w[i]? = some n ∧ (s + k * p) % w.length = i then (1 : Int) else 0) = if w[(s + k * p) % w.length]? = some n ∧ (s + k * p) % w.length = i then 1 else 0 := fun i _ => by
      by_cases h : (s + k * p) % w.length = i
      · rw [h]
      · rw [if_neg (fun z => h z.2), if_neg (fun z => h z.2)]
    rw [sumK_congr e, sumK_one]
    by_cases h : w[(s + k * p) % w.length]? = some n
    · rw [if_pos h, if_pos ⟨h, hlt⟩]
    · rw [if_neg h, if_neg (fun z => h z.1)]
end Ev

/-! ## Branches that join -/
namespace Ev
open PySem PySem.Spec PyProof.Rows L2
theorem s_join {a rest : TS} {D : Ends} {σ : L2.St} {H : Hp} (J : L2.St → Hp → Prop) (k : ∀ σ H, J σ H → rest D σ H) (h : (∀ σ H, J σ H → rest D σ H) → a { D with nx := rest D } σ H) : tSeq a rest D σ H := h k
theorem back_none {H H' : Hp} {r : Addr} (s : Same H H') (h : H' r = none) : H r = none := by
  cases e : H r with
  | none => rfl
  | some o =>
    rw [s _ _ e] at h
    cases h
theorem bool_fits (c : Bool) : (PyData.bool c).showable = true ∧ (PyData.bool c).depth ≤ 64 ∧ (PyData.bool c).shown.length ≤ sizeLine := by
  rw [sizeLine_eq]
  cases c <;> exact ⟨by decide +kernel, by decide +kernel, by decide +kernel⟩
theorem rg_nat {a b : Nat} {v : V} (h : v ∈ rgV ((a : Nat) : Int) ((b : Nat) : Int)) : ∃ k : Nat, v = .int (k : Nat) ∧ a ≤ k ∧ k < b := by
  unfold rgV at h
  obtain ⟨i, hi, rfl⟩ := List.mem_map.mp h
  have hi := List.mem_range.mp hi
  exact ⟨a + i, by rw [Int.natCast_add], by omega, by omega⟩
/-- how long the text of a program is -/
theorem prog_szA {B n : Nat} {is : List It} (h : ∀ i ∈ is, Okp B n i) (hm : Its.nm is) (hn : Its.ni is ≤ 96) (h6 : n ≤ 6) :
    (PyData.tuple (is.map It.d)).showable = true ∧ (PyData.tuple (is.map It.d)).depth ≤ 64 ∧ (PyData.tuple (is.map It.d)).shown.length ≤ sizeLine := by
  obtain ⟨h1, h2, h3, h4⟩ := Its.szd n B is h hm
  refine Sz.fits (e := 64) (w := 16000) ⟨by rw [PyData.showable]; exact h1, by rw [PyData.leavesShort]; exact h2, ?_, ?_⟩ (by decide) (by decide)
  · rw [PyData.depth]
    omega
  · rw [PyData.weight]
    omega
end Ev

/-! ## Lists of numbers by place -/
namespace Ev
open PySem PySem.Spec PyProof.Rows L2
theorem divp_by {i j : Int} {n : Nat} (hj : 0 < j) (h : i.natAbs < 2 ^ n) (hn : n ≤ 4000) : CDivP i j :=
  divp_ok hj (Nat.le_trans (PyProof.Rows.intBits_le h) (by omega))
def LI (m : Nat) (f : Nat → Int) : List V := (List.range m).map fun c => V.int (f c)
section
variable {m : Nat} {f g : Nat → Int}
theorem LI_len : (LI m f).length = m := by
  unfold LI
  rw [List.length_map, List.length_range]
theorem LI_get {c : Nat} (h : c < m) : (LI m f)[c]? = some (.int (f c)) := by
  unfold LI
  rw [List.getElem?_map, List.getElem?_range h]
  rfl
theorem LI_ints : LI m f = ((List.range m).map f).map V.int := by
  unfold LI
  rw [List.map_map]
  rfl
theorem LI_congr (e : ∀ c, c < m → f c = g c) : LI m f = LI m g := by
  unfold LI
  exact List.map_congr_left fun c hc => by rw [e c (List.mem_range.mp hc)]
theorem LI_succ : LI (m + 1) f = LI m f ++ [.int (f m)] := by
  unfold LI
  rw [List.range_succ, List.map_append]
  rfl
theorem LI_ext {xs : List V} (hl : xs.length = m) (h : ∀ c, c < m → xs[c]? = some (.int (f c))) : xs = LI m f := by
  apply List.ext_getElem?
  intro c
  by_cases hc : c < m
  · rw [h c hc, LI_get hc]
  · rw [List.getElem?_eq_none (by omega), List.getElem?_eq_none (by rw [LI_len]; omega)]
theorem range_sum (f : Nat → Int) : ∀ m : Nat, ((List.range m).map f).sum = sumK f m
  | 0 => rfl
  | m + 1 => by
    rw [List.range_succ, List.map_append, List.sum_append, range_sum f m]
    show _ + (f m + 0) = _ + _
    omega
theorem LI_at {c : Nat} (h : c < m) : atI (LI m f) (c : Nat) = some (.int (f c)) := atI_of (LI_get h)
/-- from the end -/
theorem LI_neg {c : Nat} (h0 : 0 < c) (h : c ≤ m) : atI (LI m f) (-(c : Int)) = some (.int (f (m - c))) := by
  have e : ixN (LI m f).length (-(c : Int)) = some (m - c) := by
    unfold ixN
    rw [LI_len, if_neg (by omega), if_pos (by omega)]
    congr 1
    omega
  unfold atI
  rw [e]
  exact LI_get (by omega)
theorem ixN_nat {n c : Nat} (h : c < n) : ixN n (c : Nat) = some c := by
  unfold ixN
  rw [if_pos (by omega), if_pos (by omega)]
  rfl
theorem cutV_from (xs : List V) (i : Nat) : cutV xs (some (i : Nat)) none = xs.drop i := by
  unfold cutV
  rw [HT.sIx_none, HT.sIx_nat]
  by_cases h : i ≤ xs.length
  · rw [Nat.min_eq_left h, List.take_of_length_le (by rw [List.length_drop]; exact Nat.le_refl _)]
  · rw [Nat.min_eq_right (by omega), List.drop_of_length_le (Nat.le_refl _), List.drop_of_length_le (by omega), List.take_nil]
theorem cutV_to (xs : List V) (i : Nat) : cutV xs none (some (i : Nat)) = xs.take i := by
  unfold cutV
  rw [HT.sIx_none, HT.sIx_nat, List.drop_zero, Nat.sub_zero]
  by_cases h : i ≤ xs.length
  · rw [Nat.min_eq_left h]
  · rw [Nat.min_eq_right (by omega), List.take_of_length_le (by omega), List.take_of_length_le (by omega)]
theorem LI_drop {r : Nat} (h : r ≤ m) : (LI m f).drop r = LI (m - r) fun k => f (r + k) := by
  refine LI_ext (by rw [List.length_drop, LI_len]) fun c hc => ?_
  rw [List.getElem?_drop, LI_get (by omega)]
/-- starts that are moved on -/
theorem LI_moved (hm : 0 < m) (s : Nat) {cut : Nat} (hc : (cut : Int) = (-(s : Int)) % m) : (LI m f).drop cut ++ (LI m f).take cut = LI m (mvF m s f) := by
  have c1 := Int.emod_lt_of_pos (-(s : Int)) (show (0 : Int) < m by omega)
  have z := div_mod (-(s : Int)) m
  refine LI_ext (by rw [List.length_append, List.length_drop, List.length_take, LI_len]; omega) fun c hcm => ?_
  unfold mvF
  by_cases h : c < m - cut
  · rw [List.getElem?_append_left (by rw [List.length_drop, LI_len]; exact h), List.getElem?_drop, LI_get (by omega), rot_eq hm (r := cut + c) (q := (-(s : Int)) / m) (by omega) (by omega)]
  · rw [List.getElem?_append_right (by rw [List.length_drop, LI_len]; omega), List.length_drop, LI_len, List.getElem?_take_of_lt (by omega), LI_get (by omega), rot_eq hm (r := c - (m - cut)) (q := (-(s : Int)) / m + 1) (by omega) ?_]
    rw [Int.mul_add, Int.mul_one]
    omega
end
theorem LI_set {m c : Nat} {f : Nat → Int} {v : Int} (h : c < m) : (LI m f).set c (.int v) = LI m fun x => if x = c then v else f x := by
  refine LI_ext (by rw [List.length_set, LI_len]) fun x hx => ?_
  by_cases e : x = c
  · subst e
    rw [List.getElem?_set_self (by rw [LI_len]; exact h), if_pos rfl]
  · rw [List.getElem?_set_ne (fun z => e z.symm), LI_get hx, if_neg e]
theorem LI_zero (m : Nat) : (List.replicate m [V.int 0]).flatten = LI m fun _ => 0 := by
  refine LI_ext ?_ fun c hc => ?_
  · induction m with
    | zero => rfl
    | succ m ih => rw [List.replicate_succ, List.flatten_cons, List.length_append, ih]; show 1 + m = m + 1; omega
  · have e : ∀ m : Nat, (List.replicate m [V.int 0]).flatten = List.replicate m (V.int 0) := fun m => by
      induction m with
      | zero => rfl
      | succ m ih => rw [List.replicate_succ, List.flatten_cons, ih]; rfl
    rw [e, List.getElem?_replicate, if_pos hc]
/-- one turned back, by a place that may be below 0 -/
theorem LI_back {m i r : Nat} {f : Nat → Int} (hi : i < m) (hr : r < m) : atI (LI m f) ((i : Int) - (r : Int)) = some (.int (f (rot m i r))) := by
  by_cases h : r ≤ i
  · rw [show (i : Int) - r = ((i - r : Nat) : Int) by omega, LI_at (by omega), rot_eq (by omega) (r := i - r) (q := 0) (by omega) (by omega)]
  · rw [show (i : Int) - r = -((r - i : Nat) : Int) by omega, LI_neg (by omega) (by omega), rot_eq (by omega) (r := m - (r - i)) (q := -1) (by omega) (by omega)]
theorem none_of {H H' : Hp} {p : Addr} (s : Same H H') (n : H' p = none) : H p = none := by
  cases e : H p with
  | none => rfl
  | some o =>
    rw [s _ _ e] at n
    cases n
/-- [elt for i in range(n)], the elements plain values -/
theorem g_lcR1 {H0 : Hp} {σ : L2.St} {te : TE} {ys : List V} {ta : TA} {n : Nat} {g : TG} {vs : List Nat} (hta : ∀ (H : Hp) (Q : List V → Hp → Prop), Same H0 H → Q [.int (n : Nat)] H → ta σ H Q) (hz : n ≤ 1000000) (hl : ys.length = n)
    (he : ∀ (j : Nat) (y : V), ys[j]? = some y → ∀ (H : Hp) (R : VK), Same H0 H → (∀ H', Same H H' → R y H') → g (.int (0 + j)) (wipe σ vs) H fun σ2 H2 => wipe σ2 vs = wipe σ vs ∧ te σ2 H2 R) :
    Gives H0 (tLc (iRng1 ta) g tYes te vs) (gLst (ys.map gEq)) σ := fun H Q s q => by
  refine hta H _ s ⟨(n : Nat), rfl, by omega, by omega, fun D nD => ?_⟩
  have y := sizeLine_eq
  rw [Int.toNat_natCast]
  refine lc_range (lo := 0) (n := n) (fun k H' => Same H H' ∧ H' D = some (.lst (ys.take k))) ⟨same_put nD, upd_same⟩ ?_ ?_
  · rintro k H' hk ⟨s', eD⟩
    have hk' : k < ys.length := by omega
    have hy := List.getElem?_eq_getElem hk'
    refine cast ?_ (he k ys[k] hy H' (fun y H4 => ∃ acc, H4 D = some (.lst acc) ∧ acc.length < sizeLine ∧ Same H (upd H4 D (.lst (acc ++ [y]))) ∧ upd H4 D (.lst (acc ++ [y])) D = some (.lst (ys.take (k + 1)))) (s.trans s') fun H4 s4 => ⟨_, s4 _ _ eD, ?_, ?_, ?_⟩)
    · rfl
    · rw [List.length_take]
      omega
    · intro b o e
      rw [upd_ne (ne_of_none e nD)]
      exact s4 _ _ (s' _ _ e)
    · rw [upd_same, List.take_add_one, hy]
      rfl
  · rintro H' ⟨s', eD⟩
    rw [← hl, List.take_length] at eD
    exact q H' _ s' ⟨D, ys, rfl, eD, allEq⟩
theorem s_asg {te : TE} {i : Nat} {rest : TS} {D : Ends} {σ : L2.St} {H : Hp} (h : te σ H fun u H' => rest D (σ.set i (some u)) H') : tSeq (tAsg te (gName i)) rest D σ H := h
theorem s_call {sp : Sp} {te : TE} {ta : TA} {i : Nat} {rest : TS} {D : Ends} {σ : L2.St} {H : Hp} (h : te σ H fun u H1 => ta σ H1 fun us H2 => sp (u :: us ++ []) H2 (fun v H' => rest D (σ.set i (some v)) H') E0) : tSeq (tAsg (tCall sp [] E0 (tCons te ta)) (gName i)) rest D σ H := h
/-- the same, the list being new -/
theorem lc_rng {σ : L2.St} {H : Hp} {Q : VK} {te : TE} {ys : List V} {ta : TA} {n : Nat} {g : TG} {vs : List Nat} (hta : ∀ (Q : List V → Hp → Prop), Q [.int (n : Nat)] H → ta σ H Q) (hz : n ≤ 1000000) (hl : ys.length = n)
    (he : ∀ (j : Nat) (y : V), ys[j]? = some y → ∀ (H' : Hp) (R : VK), Same H H' → (∀ H'', Same H' H'' → R y H'') → g (.int (0 + j)) (wipe σ vs) H' fun σ2 H2 => wipe σ2 vs = wipe σ vs ∧ te σ2 H2 R)
    (q : ∀ H' D, Same H H' → H D = none → H' D = some (.lst ys) → Q (.ref D) H') : tLc (iRng1 ta) g tYes te vs σ H Q := by
  refine hta _ ⟨(n : Nat), rfl, by omega, by omega, fun D nD => ?_⟩
  have y := sizeLine_eq
  rw [Int.toNat_natCast]
  refine lc_range (lo := 0) (n := n) (fun k H' => Same H H' ∧ H' D = some (.lst (ys.take k))) ⟨same_put nD, upd_same⟩ ?_ ?_
  · rintro k H' hk ⟨s', eD⟩
    have hk' : k < ys.length := by omega
    have hy := List.getElem?_eq_getElem hk'
    refine cast ?_ (he k ys[k] hy H' (fun y H4 => ∃ acc, H4 D = some (.lst acc) ∧ acc.length < sizeLine ∧ Same H (upd H4 D (.lst (acc ++ [y]))) ∧ upd H4 D (.lst (acc ++ [y])) D = some (.lst (ys.take (k + 1)))) s' fun H4 s4 => ⟨_, s4 _ _ eD, ?_, ?_, ?_⟩)
    · rfl
    · rw [List.length_take]
      omega
    · intro b o e
      rw [upd_ne (ne_of_none e nD)]
      exact s4 _ _ (s' _ _ e)
    · rw [upd_same, List.take_add_one, hy]
      rfl
  · rintro H' ⟨s', eD⟩
    rw [← hl, List.take_length] at eD
    exact q H' D s' nD eD
/-- [elt for x in a list], the elements plain values, the list new -/
theorem lc_lst {K : PySem.W.Frag} {σ : L2.St} {H : Hp} {Q : VK} {te ti : TE} {a : Addr} {xs ys : List V} {g : TG} {vs : List Nat} (hi : ∀ Q : VK, Q (.ref a) H → ti σ H Q) (hx : SqL K H a xs) (hz : xs.length ≤ 1000000) (hl : ys.length = xs.length)
    (he : ∀ (j : Nat) (x y : V), xs[j]? = some x → ys[j]? = some y → ∀ (H' : Hp) (R : VK), Same H H' → (∀ H'', Same H' H'' → R y H'') → g x (wipe σ vs) H' fun σ2 H2 => wipe σ2 vs = wipe σ vs ∧ te σ2 H2 R)
    (q : ∀ H' D, Same H H' → H D = none → H' D = some (.lst ys) → Q (.ref D) H') : tLc (iList K ti) g tYes te vs σ H Q := by
  refine hi _ ⟨a, rfl, ⟨xs, hx⟩, fun D nD => ?_⟩
  have y := sizeLine_eq
  refine lc_list (K := K) (a := a) (xs := xs) (fun k H' => Same H H' ∧ H' D = some (.lst (ys.take k))) ⟨same_put nD, upd_same⟩ (fun k H' _ ⟨s', _⟩ => s'.seq hx) ?_ ?_
  · rintro k x H' hk ⟨s', eD⟩
    have hk' : k < ys.length := by
      obtain ⟨h, _⟩ := List.getElem?_eq_some_iff.mp hk
      omega
    have hy := List.getElem?_eq_getElem hk'
    refine cast ?_ (he k x ys[k] hk hy H' (fun y H4 => ∃ acc, H4 D = some (.lst acc) ∧ acc.length < sizeLine ∧ Same H (upd H4 D (.lst (acc ++ [y]))) ∧ upd H4 D (.lst (acc ++ [y])) D = some (.lst (ys.take (k + 1)))) s' fun H4 s4 => ⟨_, s4 _ _ eD, ?_, ?_, ?_⟩)
    · rfl
    · rw [List.length_take]
      omega
    · intro b o e
      rw [upd_ne (ne_of_none e nD)]
      exact s4 _ _ (s' _ _ e)
    · rw [upd_same, List.take_add_one, hy]
      rfl
  · rintro H' ⟨s', eD⟩
    rw [← hl, List.take_length] at eD
    exact q H' D s' nD eD
/-! ### how great the numbers are -/
def Bd (R m : Nat) (f : Nat → Int) : Prop := ∀ c, c < m → (f c).natAbs < 2 ^ R
theorem sum_bd {h : Nat → Int} {R n B : Nat} (hb : ∀ k, k < n → (h k).natAbs < 2 ^ R) (hn : n < 2 ^ B) : (sumK h n).natAbs < 2 ^ (R + B) := by
  have a := sumK_le (M := (2 ^ R : Nat)) (h := h) (n := n) fun k hk => by
    have := hb k hk
    omega
  have b : n * 2 ^ R < 2 ^ B * 2 ^ R := Nat.mul_lt_mul_of_pos_right hn (Nat.pos_of_ne_zero (by simp))
  rw [← Int.natCast_mul] at a
  rw [Nat.add_comm, Nat.pow_add]
  omega
theorem bd_rep {R B m s t : Nat} {f : Nat → Int} (hm : 0 < m) (hf : Bd R m f) (ht : t < 2 ^ B) : Bd (R + B) m (repF m s t f) := fun _ _ => sum_bd (fun _ _ => hf _ (rot_lt hm _ _)) ht
theorem bd_mv {R m s : Nat} {f : Nat → Int} (hm : 0 < m) (hf : Bd R m f) : Bd R m (mvF m s f) := fun _ _ => hf _ (rot_lt hm _ _)
theorem Bd.up {R R' m : Nat} {f : Nat → Int} (hf : Bd R m f) (h : R ≤ R') : Bd R' m f := fun c hc => Nat.lt_of_lt_of_le (hf c hc) (Nat.pow_le_pow_right (by decide) h)
end Ev

/-! ## name = {..: .. for ..}, the name a local of the def -/
namespace Ev
open PySem PySem.Spec PyProof.Rows L2
theorem swd_true {kx vx : Expr} {gs : List Comprehension} {sc : Scope} {p0 p1 : Pos} {nm : Str} {ln : Nat} {en : Env} (h1 : en.scope.kind = .function) (h2 : en.scope.names.lookup nm = some .local)
    (h3 : (p1.line == p0.line) = true) (h4 : (sc.names.any fun (n, k) => n == nm && (k == .local || k == .cell)) = false) : swapsWith (.DictComp kx vx gs sc p0) (some (.Name nm p1)) ln en = pure true := by
  have e1 : en.kindOf nm = some .local := h2
  have e2 : en.blockKind = .function := by
    unfold Env.blockKind
    rw [h1]
    rfl
  unfold swapsWith
  simp only [e2, e1, h4, Expr.pos, h3]
  rfl
theorem ps_setDc {X : Cx} {n : Nat} {nm : Str} {p0 p1 p2 : Pos} {kx vx tg it : Expr} {cs : List Expr} {sc : Scope} {own : List (Str × Nat)} {wi : TI} {g : TG} {tt : TT} {tk tv : TE} (hc : X.calm = true) (hN : X.N.Nodup) (h1 : X.N[n]? = some nm)
    (h2 : X.env.scope.names.lookup nm = some .local) (h3 : swapsWith (.DictComp kx vx [⟨tg, it, cs, 0⟩] sc p0) (some (.Name nm p1)) p2.line X.env = pure true) (hi : PI X tg it wi) (ok : BlkOk X.N X.env.scope sc own)
    (hg : ∀ (s : Shared) (H : Hp) (c : Addr) (l : List (Str × Addr)) (fp : List Addr), PG (X.blk s H sc (compEnvC sc l c X.env) fp) tg g) (ht : ∀ (s : Shared) (H : Hp) (c : Addr) (l : List (Str × Addr)) (fp : List Addr), PTs (X.blk s H sc (compEnvC sc l c X.env) fp) cs tt)
    (hk : ∀ (s : Shared) (H : Hp) (c : Addr) (l : List (Str × Addr)) (fp : List Addr), PE (X.blk s H sc (compEnvC sc l c X.env) fp) kx tk) (he : ∀ (s : Shared) (H : Hp) (c : Addr) (l : List (Str × Addr)) (fp : List Addr), PE (X.blk s H sc (compEnvC sc l c X.env) fp) vx tv)
    (hs : ∀ x, foldedSetIterable it X.env x = pure x := by intro _; rfl) : PS X (.Assign [.Name nm p1] (.DictComp kx vx [⟨tg, it, cs, 0⟩] sc p0) p2) (tAsg (tDc wi g tt tk tv (own.map (·.2))) (gName n)) := by
  constructor
  intro pins s σ H D I h
  have e0 := exec_Assign_Name_used (env := X.env) _ _ _ _ h3
  rw [e0]
  have h : tDc wi g tt tk tv (own.map (·.2)) σ H (fun x H1 => gName n x σ H1 D.nx) := h
  refine wpAny_bind (wpAny_standAt (wpAny_bind ?go))
  case go =>
    change wpAny _ X.A (do let _ ← comprehension (.DictComp kx vx [⟨tg, it, cs, 0⟩] sc p0) sc X.env (firstIterPos [⟨tg, it, cs, 0⟩] p0) newDict false (eval it X.env) (some (assign (.Name nm p1) X.env))) _ _ s
    refine wpAny_bind (thn (dc_core (Qf := fun _ z => SP X pins D .next z) hc hN I hi ok hg ht hk he hs h fun dd C s1 mm H1 I1 q hn fp => ?_) fun _ z hq => wpAny_pure (wpAny_pure hq))
    change wpAny _ _ (assign (.Name nm p1) X.env (.ref dd)) _ _ _
    refine wpAny_assign_Name (store_ok2 (v := V.ref dd) I1 hN h1 (.inl h2) rfl (fun s2 I2 ⟨aa, sb, ha⟩ => ?_) (.inr h2))
    obtain ⟨g0, g1, g2, g3, g4, g5⟩ := fp
    have ne : C ≠ aa := by
      rcases ha with z | z
      · rw [z]
        exact g1
      · exact fun e => g4 nm aa z e.symm
    exact ⟨mm, hn.sameBut sb ne, fun h' sb' => ⟨_, H1, I2.turned (t' := s2.toks) (fun b o hb e => (sb'.2 b hb).trans e) g0 g1 g3 g4 g5, q⟩⟩
/-! ### dicts by names -/
def mapD (names : List Str) (v : Str → V) : List (Key × V) := names.map fun n => ((.inr n : Key), v n)
section
variable {names : List Str} {v : Str → V} {x : Str} {u : V}
theorem mapD_len : (mapD names v).length = names.length := by
  unfold mapD
  rw [List.length_map]
theorem mapD_val (h : x ∈ names) : valV (mapD names v) (.inr x) = some (v x) := by
  induction names with
  | nil => cases h
  | cons n names ih =>
    by_cases e : n = x
    · subst e
      exact valV_pos rfl
    · rw [show mapD (n :: names) v = ((.inr n, v n) : Key × V) :: mapD names v from rfl, valV_neg (fun z => e (Sum.inr.inj z))]
      exact ih ((List.mem_cons.mp h).resolve_left fun z => e z.symm)
theorem mapD_any : ((mapD names v).any fun p => decide (p.1 = (.inr x : Key))) = decide (x ∈ names) := by
  induction names with
  | nil => rfl
  | cons n names ih =>
    rw [show mapD (n :: names) v = ((.inr n, v n) : Key × V) :: mapD names v from rfl, List.any_cons, ih]
    by_cases e : n = x
    · subst e
      simp
    · have h1 : decide ((Sum.inr n : Key) = Sum.inr x) = false := decide_eq_false fun z => e (Sum.inr.inj z)
      have h2 : ¬ x = n := fun z => e z.symm
      show (decide ((Sum.inr n : Key) = Sum.inr x) || decide (x ∈ names)) = _
      rw [h1, Bool.false_or]
      exact decide_eq_decide.mpr ⟨fun z => List.mem_cons_of_mem _ z, fun z => (List.mem_cons.mp z).resolve_left h2⟩
theorem mapD_put (h : x ∈ names) : putK (mapD names v) (.inr x) u = mapD names fun n => if n = x then u else v n := by
  unfold putK
  rw [mapD_any, decide_eq_true h, if_pos rfl]
  unfold mapD
  rw [List.map_map]
  refine List.map_congr_left fun n _ => ?_
  show (if (Sum.inr n : Key) = Sum.inr x then _ else _) = ((.inr n, if n = x then u else v n) : Key × V)
  by_cases e : n = x
  · subst e
    rw [if_pos rfl]
    simp
  · rw [if_neg fun z => e (Sum.inr.inj z), if_neg e]
theorem mapD_new (h : x ∉ names) : putK (mapD names v) (.inr x) u = mapD names v ++ [(.inr x, u)] := by
  unfold putK
  rw [mapD_any, decide_eq_false h, if_neg Bool.false_ne_true]
theorem mapD_snoc (h : x ∉ names) : mapD names v ++ [(.inr x, u)] = mapD (names ++ [x]) fun n => if n = x then u else v n := by
  unfold mapD
  rw [List.map_append]
  congr 1
  · refine List.map_congr_left fun n hn => ?_
    have ne : ¬ n = x := fun z => by
      rw [z] at hn
      exact h hn
    show _ = ((.inr n, if n = x then u else v n) : Key × V)
    rw [if_neg ne]
  · simp
end
theorem but_bu {H H' : Hp} {p : Addr} (b : Bu p H H') : Same (but H p) (but H' p) := fun x o e => by
  by_cases h : x = p
  · rw [h] at e
    have z : but H p p = none := if_pos rfl
    rw [z] at e
    cases e
  · rw [but_ne h] at e ⊢
    exact b x o h e
theorem but_in {H : Hp} {p : Addr} : Same (but H p) H := fun x o e => by
  by_cases h : x = p
  · rw [h] at e
    have z : but H p p = none := if_pos rfl
    rw [z] at e
    cases e
  · rw [but_ne h] at e
    exact e
theorem newer_but {H H' : Hp} {p : Addr} {o : HO} (hp : H p = some o) : Same (newer H H') (but H' p) := fun x u e => by
  by_cases hb : H x = none
  · rw [newer_at hb] at e
    have n : x ≠ p := fun z => by
      rw [z, hp] at hb
      cases hb
    rw [but_ne n]
    exact e
  · have z : newer H H' x = none := if_neg hb
    rw [z] at e
    cases e
theorem newer_in {H H' : Hp} : Same (newer H H') H' := fun b o e => by
  by_cases hb : H b = none
  · rw [newer_at hb] at e
    exact e
  · have z : newer H H' b = none := if_neg hb
    rw [z] at e
    cases e
/-! ### columns as data -/
def intsD (m : Nat) (f : Nat → Int) : List PyData := (List.range m).map fun c => .int (f c)
def colD (m : Nat) (p : Str × (Nat → Int)) : PyData := .tuple [.str p.1, .list (intsD m p.2)]
theorem da_LI {K : PySem.W.Frag} {H : Hp} {m : Nat} {f : Nat → Int} : DaAll K H (LI m f) (intsD m f) := by
  unfold LI intsD
  generalize List.range m = l
  induction l with
  | nil => exact .nil
  | cons c l ih => exact .cons (.int _) ih
theorem da_ints {K : PySem.W.Frag} {H : Hp} : ∀ {ns : List Int} {vs : List V}, DaAll K H vs (ns.map PyData.int) → vs = ns.map V.int
  | [], _, .nil => rfl
  | n :: ns, _, .cons h t => by
    cases h
    rw [da_ints t]
    rfl
theorem da_col {K : PySem.W.Frag} {H : Hp} {m : Nat} {v : V} {p : Str × (Nat → Int)} (h : Da K H v (colD m p)) : ∃ t q, v = .ref t ∧ SqT K H t [.str p.1, .ref q] ∧ SqL K H q (LI m p.2) := by
  unfold colD at h
  cases h with
  | @tup t xs _ hs ha =>
  cases ha with
  | cons h1 ha =>
  cases ha with
  | cons h2 ha =>
  cases ha
  cases h1
  cases h2 with
  | @lst q ys _ hq hb =>
  have e : intsD m p.2 = ((List.range m).map p.2).map PyData.int := by
    unfold intsD
    rw [List.map_map]
    rfl
  rw [e] at hb
  have e2 := da_ints hb
  rw [← LI_ints] at e2
  subst e2
  exact ⟨t, q, rfl, hs, hq⟩
/-! ### starts behind items -/
def Its.st (m : Nat) : List It → (Nat → Int) → (Nat → Int)
  | [], f => f
  | i :: is, f => Its.st m is (mvF m (It.w i).length f)
theorem cols_app (m : Nat) : ∀ (is js : List It) (f : Nat → Int), Its.cols m (is ++ js) f = Its.cols m is f ++ Its.cols m js (Its.st m is f)
  | [], js, f => by
    rw [List.nil_append, Its.cols, Its.st, List.nil_append]
  | i :: is, js, f => by
    rw [List.cons_append, Its.cols, Its.cols, cols_app m is js, Its.st, List.append_assoc]
theorem st_app (m : Nat) : ∀ (is js : List It) (f : Nat → Int), Its.st m (is ++ js) f = Its.st m js (Its.st m is f)
  | [], js, f => by
    rw [List.nil_append, Its.st]
  | i :: is, js, f => by
    rw [List.cons_append, Its.st, Its.st, st_app m is js]
theorem cols_take {m : Nat} {is : List It} {i : Nat} {it : It} {f : Nat → Int} (h : is[i]? = some it) : Its.cols m (is.take (i + 1)) f = Its.cols m (is.take i) f ++ It.cols m it (Its.st m (is.take i) f) := by
  rw [List.take_add_one, h, cols_app]
  show _ ++ Its.cols m [it] _ = _
  rw [Its.cols, Its.cols, List.append_nil]
theorem st_take {m : Nat} {is : List It} {i : Nat} {it : It} {f : Nat → Int} (h : is[i]? = some it) : Its.st m (is.take (i + 1)) f = mvF m (It.w it).length (Its.st m (is.take i) f) := by
  rw [List.take_add_one, h, st_app]
  rfl
theorem st_bd {R m : Nat} (hm : 0 < m) : ∀ (is : List It) {f : Nat → Int}, Bd R m f → Bd R m (Its.st m is f)
  | [], _, h => h
  | i :: is, _, h => st_bd hm is (bd_mv hm h)
mutual
theorem It.cols_len (m : Nat) : ∀ (i : It) (f : Nat → Int), (It.cols m i f).length = It.nl i
  | .line _ _, _ => by
    rw [It.cols, It.nl]
    rfl
  | .loop _ js, _ => by
    rw [It.cols, It.nl, Its.cols_len m js]
theorem Its.cols_len (m : Nat) : ∀ (is : List It) (f : Nat → Int), (Its.cols m is f).length = Its.nl is
  | [], _ => by
    rw [Its.cols, Its.nl]
    rfl
  | i :: is, _ => by
    rw [Its.cols, Its.nl, List.length_append, It.cols_len m i, Its.cols_len m is]
end
mutual
theorem It.cols_nm (m : Nat) (r : Int) : ∀ (i : It) (f : Nat → Int), (It.cols m i f).map (·.1) = (It.sp r i).map (·.1)
  | .line _ _, _ => by
    rw [It.cols, It.sp]
    rfl
  | .loop k js, _ => by
    rw [It.cols, It.sp, Its.cols_nm m (r * k) js]
theorem Its.cols_nm (m : Nat) (r : Int) : ∀ (is : List It) (f : Nat → Int), (Its.cols m is f).map (·.1) = (Its.sp r is).map (·.1)
  | [], _ => by
    rw [Its.cols, Its.sp]
    rfl
  | i :: is, _ => by
    rw [Its.cols, Its.sp, List.map_append, List.map_append, It.cols_nm m r i, Its.cols_nm m r is]
end
mutual
theorem It.w_bd {B : Nat} : ∀ (n : Nat) (i : It), Okp B n i → (It.w i).length ≤ It.nl i * 2 ^ ((n + 1) * B)
  | n, .line x t, h => by
    have h := okp_line.mp h
    rw [It.w, It.nl, List.length_replicate, Nat.one_mul]
    have : 2 ^ B ≤ 2 ^ ((n + 1) * B) := Nat.pow_le_pow_right (by decide) (Nat.le_mul_of_pos_left _ (Nat.succ_pos _))
    omega
  | 0, .loop _ _, h => h.elim
  | n + 1, .loop r js, h => by
    obtain ⟨h1, h2, h3⟩ : 0 ≤ r ∧ r < (2 ^ B : Nat) ∧ ∀ i ∈ js, Okp B n i := h
    rw [It.w, It.nl, flat_len]
    have a := Its.w_bd n js h3
    have b : r.toNat * (Its.w js).length ≤ 2 ^ B * (Its.nl js * 2 ^ ((n + 1) * B)) := Nat.mul_le_mul (by omega) a
    have e : 2 ^ B * (Its.nl js * 2 ^ ((n + 1) * B)) = Its.nl js * 2 ^ ((n + 1 + 1) * B) := by
      rw [← Nat.mul_assoc, Nat.mul_comm (2 ^ B), Nat.mul_assoc, ← Nat.pow_add, Nat.succ_mul (n + 1) B, Nat.add_comm B]
    omega
theorem Its.w_bd {B : Nat} : ∀ (n : Nat) (is : List It), (∀ i ∈ is, Okp B n i) → (Its.w is).length ≤ Its.nl is * 2 ^ ((n + 1) * B)
  | n, [], _ => by
    rw [Its.w]
    exact Nat.zero_le _
  | n, i :: is, h => by
    rw [Its.w, Its.nl, List.length_append, Nat.add_mul]
    exact Nat.add_le_add (It.w_bd n i (h i (List.mem_cons_self ..))) (Its.w_bd n is fun j hj => h j (List.mem_cons_of_mem _ hj))
end
theorem w_bits {B n : Nat} {is : List It} (h : ∀ i ∈ is, Okp B n i) (hn : Its.nl is ≤ 100000) : (Its.w is).length < 2 ^ (17 + (n + 1) * B) := by
  have a := Its.w_bd n is h
  rw [Nat.pow_add]
  have p : 0 < 2 ^ ((n + 1) * B) := Nat.pos_of_ne_zero (by simp)
  have b : Its.nl is * 2 ^ ((n + 1) * B) < 2 ^ 17 * 2 ^ ((n + 1) * B) := Nat.mul_lt_mul_of_pos_right (by omega) p
  omega
theorem _root_.L2.SqL.mono' {K : PySem.W.Frag} {H H' : Hp} {a : Addr} {xs : List V} (h : SqL K H a xs) (s : Same H H') : SqL K H' a xs := s.seq h
theorem okp_up1 {B : Nat} : ∀ {n : Nat} {i : It}, Okp B n i → Okp B (n + 1) i
  | n, .line x t, h => okp_line.mpr (okp_line.mp h)
  | 0, .loop r is, h => h.elim
  | n + 1, .loop r is, h => ⟨h.1, h.2.1, fun i hi => okp_up1 (h.2.2 i hi)⟩
theorem room_dn {B d M : Nat} (h : Room2 B M) (hd : d ≤ M) : Room2 B d := ⟨h.1, by
  have a := h.2
  have b : (d + 1) * B ≤ (M + 1) * B := Nat.mul_le_mul_right B (Nat.succ_le_succ hd)
  omega⟩
end Ev

/-! ## Items as drawn (family C) -/
namespace Ev
open PySem PySem.Spec PyProof.Rows L2
def poolC : List Str := ["a", "b", "a", "c", "idle", "line", "loop", "zzzzzzzz"]
/-- an item as drawn -/
def Wc (T R : Int) : Nat → It → Prop
  | _, .line x t => x ∈ poolC ∧ 1 ≤ t ∧ t ≤ T
  | 0, .loop _ _ => False
  | n + 1, .loop r is => 1 ≤ r ∧ r ≤ R ∧ 1 ≤ is.length ∧ is.length ≤ 2 ∧ ∀ i ∈ is, Wc T R n i
theorem wc_line {T R : Int} {n : Nat} {x : Str} {t : Int} : Wc T R n (.line x t) ↔ x ∈ poolC ∧ 1 ≤ t ∧ t ≤ T := by
  cases n <;> exact Iff.rfl
theorem ni_mem : ∀ {is : List It} {i : It}, i ∈ is → It.ni i ≤ Its.ni is
  | j :: is, i, h => by
    rw [Its.ni]
    rcases List.mem_cons.mp h with rfl | h
    · exact Nat.le_add_right _ _
    · exact Nat.le_trans (ni_mem h) (Nat.le_add_left _ _)
theorem It.ni_pos : ∀ i : It, 1 ≤ It.ni i
  | .line _ _ => by rw [It.ni]; exact Nat.le_refl _
  | .loop _ _ => by rw [It.ni]; exact Nat.le_add_right _ _
theorem ni_len : ∀ is : List It, is.length ≤ Its.ni is
  | [] => Nat.zero_le _
  | i :: is => by
    rw [Its.ni, List.length_cons]
    have := It.ni_pos i
    have := ni_len is
    omega
theorem ni_sum : ∀ is : List It, (is.map fun i => ((It.ni i : Nat) : Int)).sum = ((Its.ni is : Nat) : Int)
  | [] => by rw [Its.ni]; rfl
  | i :: is => by
    rw [Its.ni, List.map_cons, List.sum_cons, ni_sum is]
    omega
/-! ### items as drawn -/
theorem wc_ps {T R : Int} : ∀ (n : Nat) (i : It), Wc T R n i → It.ps i
  | n, .line x t, h => by
    rw [It.ps]
    exact (wc_line.mp h).2.1
  | 0, .loop r is, h => h.elim
  | n + 1, .loop r is, h => by
    obtain ⟨h1, h2, h3, h4, h5⟩ : 1 ≤ r ∧ r ≤ R ∧ 1 ≤ is.length ∧ is.length ≤ 2 ∧ ∀ i ∈ is, Wc T R n i := h
    rw [It.ps]
    exact ⟨h1, (fun e => by rw [e] at h3; exact absurd h3 (by decide)), ps_of fun i hi => wc_ps n i (h5 i hi)⟩
theorem wc_okp {T R : Int} {B : Nat} (hT : T < (2 ^ B : Nat)) (hR : R < (2 ^ B : Nat)) : ∀ (n : Nat) (i : It), Wc T R n i → Okp B n i
  | n, .line x t, h => by
    have h := wc_line.mp h
    exact okp_line.mpr ⟨by omega, by omega⟩
  | 0, .loop r is, h => h.elim
  | n + 1, .loop r is, h => by
    obtain ⟨h1, h2, h3, h4, h5⟩ : 1 ≤ r ∧ r ≤ R ∧ 1 ≤ is.length ∧ is.length ≤ 2 ∧ ∀ i ∈ is, Wc T R n i := h
    exact ⟨by omega, by omega, fun i hi => wc_okp hT hR n i (h5 i hi)⟩
theorem poolC_nm : poolC.all nmB = true := by decide +kernel
theorem wc_nm {T R : Int} (hT : T < (2 ^ 64 : Nat)) (hR : R < (2 ^ 64 : Nat)) : ∀ (n : Nat) (i : It), Wc T R n i → It.nm i
  | n, .line x t, h => by
    have h := wc_line.mp h
    rw [It.nm]
    exact ⟨List.all_eq_true.mp poolC_nm x h.1, by omega⟩
  | 0, .loop r is, h => h.elim
  | n + 1, .loop r is, h => by
    obtain ⟨h1, h2, h3, h4, h5⟩ : 1 ≤ r ∧ r ≤ R ∧ 1 ≤ is.length ∧ is.length ≤ 2 ∧ ∀ i ∈ is, Wc T R n i := h
    rw [It.nm]
    exact ⟨by omega, nm_of fun i hi => wc_nm hT hR n i (h5 i hi)⟩
theorem wc_up {T R T' R' : Int} (hT : T ≤ T') (hR : R ≤ R') : ∀ (d e : Nat) (i : It), d ≤ e → Wc T R d i → Wc T' R' e i
  | d, e, .line x t, _, h => by
    have h := wc_line.mp h
    exact wc_line.mpr ⟨h.1, h.2.1, by omega⟩
  | 0, _, .loop _ _, _, h => h.elim
  | d + 1, 0, .loop _ _, hl, _ => absurd hl (Nat.not_succ_le_zero d)
  | d + 1, e + 1, .loop r is, hl, h => by
    obtain ⟨h1, h2, h3, h4, h5⟩ : 1 ≤ r ∧ r ≤ R ∧ 1 ≤ is.length ∧ is.length ≤ 2 ∧ ∀ i ∈ is, Wc T R d i := h
    exact ⟨h1, by omega, h3, h4, fun i hi => wc_up hT hR d e i (by omega) (h5 i hi)⟩
def itC : Nat → Nat
  | 0 => 1
  | n + 1 => 1 + 2 * itC n
theorem wc_ni {T R : Int} : ∀ (n : Nat) (i : It), Wc T R n i → It.ni i ≤ itC n
  | n, .line x t, _ => by
    rw [It.ni]
    cases n
    · exact Nat.le_refl _
    · show 1 ≤ 1 + _
      omega
  | 0, .loop r is, h => h.elim
  | n + 1, .loop r is, h => by
    obtain ⟨h1, h2, h3, h4, h5⟩ : 1 ≤ r ∧ r ≤ R ∧ 1 ≤ is.length ∧ is.length ≤ 2 ∧ ∀ i ∈ is, Wc T R n i := h
    rw [It.ni]
    have z := ni_mul fun i hi => wc_ni n i (h5 i hi)
    have z2 : is.length * itC n ≤ 2 * itC n := Nat.mul_le_mul_right _ h4
    show 1 + Its.ni is ≤ 1 + 2 * itC n
    omega
theorem w_takeS {is : List It} {i : Nat} {it : It} (h : is[i]? = some it) : Its.w (is.take (i + 1)) = Its.w (is.take i) ++ It.w it := by
  obtain ⟨h1, h2⟩ := List.getElem?_eq_some_iff.mp h
  rw [List.take_succ_eq_append_getElem h1, h2, w_app, w_one]
theorem w_len_take (is : List It) (i : Nat) : (Its.w (is.take i)).length ≤ (Its.w is).length := by
  have e : Its.w is = Its.w (is.take i) ++ Its.w (is.drop i) := by
    rw [← w_app, List.take_append_drop]
  rw [e, List.length_append]
  exact Nat.le_add_right _ _
theorem w_mem_len {is : List It} {it : It} (h : it ∈ is) : (It.w it).length ≤ (Its.w is).length := by
  obtain ⟨i, hi⟩ := List.getElem?_of_mem h
  have a := w_len_take is (i + 1)
  rw [w_takeS hi, List.length_append] at a
  omega
theorem flat_str (n : Nat) (xs : List Str) : (List.replicate n (xs.map V.str)).flatten = ((List.replicate n xs).flatten).map V.str := by
  rw [List.map_flatten, List.map_replicate]
theorem flat_one (n : Nat) (x : V) : (List.replicate n [x]).flatten = List.replicate n x := by
  induction n with
  | zero => rfl
  | succ n ih => rw [List.replicate_succ, List.flatten_cons, ih]; rfl
theorem len_flat (n : Nat) (xs : List Str) : ((List.replicate n xs).flatten).length = xs.length * n := by
  induction n with
  | zero => rfl
  | succ n ih =>
    rw [List.replicate_succ, List.flatten_cons, List.length_append, ih, Nat.mul_succ]
    omega
theorem ni_takeC (is : List It) (k : Nat) : Its.ni (is.take k) + Its.ni (is.drop k) = Its.ni is := by
  have app : ∀ is js : List It, Its.ni (is ++ js) = Its.ni is + Its.ni js := fun is => by
    induction is with
    | nil => intro js; rw [List.nil_append, Its.ni, Nat.zero_add]
    | cons i is ih => intro js; rw [List.cons_append, Its.ni, Its.ni, ih js, Nat.add_assoc]
  rw [← app, List.take_append_drop]
theorem w_sumC : ∀ is : List It, (is.map fun i => (((It.w i).length : Nat) : Int)).sum = (((Its.w is).length : Nat) : Int)
  | [] => by rw [Its.w]; rfl
  | i :: is => by
    rw [Its.w, List.length_append, List.map_cons, List.sum_cons, w_sumC is]
    omega
end Ev

/-! ## Any walk by an invariant, whatever its body is -/
namespace Ev
open PySem PySem.Spec PyProof.Rows L2
theorem it_gen {J : L2.It} {n : Nat} {G : Hp → Prop} {Y : Nat → Hp → V → Hp → Prop} (wk : Walk J n G Y) {Bd : (Hp → Prop) → V → Hp → Prop} {Qd : Hp → Prop} {H1 : Hp} (Pv : Nat → Hp → Prop) (h0 : Pv 0 H1) (hG : ∀ i H, i ≤ n → Pv i H → G H)
    (hs : ∀ i x H H', i < n → Pv i H → Y i H x H' → Bd (Pv (i + 1)) x H') (hd : ∀ H, Pv n H → Qd H) :
    ∃ W : Nat → Nat → Hp → Prop, (∃ m, W 0 m H1) ∧ ∀ i m H, W i m H → (J.stop i H ∧ Qd H) ∨ (J.go i H ∧ ∃ Nx : Hp → Prop, (∀ H', Nx H' → ∃ m', m' < m ∧ W (i + 1) m' H') ∧ ∀ x H', J.yld i H x H' → Bd Nx x H') := by
  refine ⟨fun i m H => m + i = n ∧ Pv i H, ⟨n, rfl, h0⟩, fun i m H ⟨e, p⟩ => ?_⟩
  cases m with
  | zero =>
    have e : i = n := by omega
    subst e
    exact .inl ⟨wk.stops H (hG _ H (Nat.le_refl _) p), hd H p⟩
  | succ k =>
    have hi : i < n := by omega
    have g := hG i H (Nat.le_of_lt hi) p
    exact .inr ⟨wk.goes i H hi g, Pv (i + 1), fun H' p' => ⟨k, Nat.lt_succ_self k, by omega, p'⟩, fun x H' y => hs i x H H' hi p (wk.yields i H x H' hi g y)⟩
theorem Its.tupd' (is : List It) : tupDs (is.map It.d) = true := by
  rw [← Its.d_map]
  exact Its.tupd is
theorem seqT_kt {K : PySem.W.Frag} {H H' : Hp} {a : Addr} {xs : List V} (k : Kt H H') (h : SqT K H a xs) : SqT K H' a xs := by
  rcases h with (e | ⟨o, e⟩) | e
  · exact .inl (.inl (k _ _ e fun _ z => by cases z))
  · exact .inl (.inr ⟨o, k _ _ e fun _ z => by cases z⟩)
  · exact .inr e
/-! ### the items within loops -/
def insI : It → List It
  | .line _ _ => []
  | .loop _ js => js
def insIs (is : List It) : List It := (is.map insI).flatten
def isLn : It → Bool
  | .line _ _ => true
  | .loop _ _ => false
theorem ins_take {is : List It} {i : Nat} {it : It} (h : is[i]? = some it) : insIs (is.take (i + 1)) = insIs (is.take i) ++ insI it := by
  unfold insIs
  rw [List.take_add_one, h, List.map_append, List.flatten_append]
  show _ ++ (insI it ++ []) = _
  rw [List.append_nil]
theorem insI_len : ∀ i : It, (insI i).length ≤ It.ni i
  | .line _ _ => Nat.zero_le _
  | .loop _ js => by
    have := ni_len js
    rw [insI, It.ni]
    omega
theorem insIs_len : ∀ is : List It, (insIs is).length ≤ Its.ni is
  | [] => Nat.zero_le _
  | i :: is => by
    have h1 := insIs_len is
    have h2 := insI_len i
    have e : insIs (i :: is) = insI i ++ insIs is := rfl
    rw [e, List.length_append, Its.ni]
    omega
theorem ins_ok {B : Nat} {is : List It} (h : ∀ i ∈ is, Okp B 1 i) : (insIs is).all isLn = true := by
  refine List.all_eq_true.mpr fun j hj => ?_
  unfold insIs at hj
  obtain ⟨l, hl, hjl⟩ := List.mem_flatten.mp hj
  obtain ⟨i, hi, rfl⟩ := List.mem_map.mp hl
  have hok := h i hi
  cases i with
  | line x t => cases hjl
  | loop r js =>
    obtain ⟨_, _, h3⟩ : 0 ≤ r ∧ r < (2 ^ B : Nat) ∧ ∀ i ∈ js, Okp B 0 i := hok
    have hj0 := h3 j hjl
    cases j with
    | line x t => rfl
    | loop r ks => exact hj0.elim
end Ev

/-! ## the law's divisor -/
namespace Ev
open PySem PySem.Spec PyProof.Rows L2
def spLG : Sp := fun vs H Q _ => ∃ a b : Nat, vs = [.int (a : Nat), .int (b : Nat)] ∧ Q (.int (Nat.gcd a b : Nat)) H
theorem scLG : FnScope ["_law_one", "_law_other"] ["_law_one", "_law_other"] (defScope (topS 24)) := ⟨rfl, rfl, rfl, by decide +kernel, rfl, by decide +kernel, by decide +kernel⟩
section
variable {P : Program} {w : World} {K : PySem.W.Frag} {mg : Str → Option Value} {base : Heap}
theorem ok_lg (D : Def K mg "_law_gcd" (topS 24) ["_law_one", "_law_other"]) (nb : NB mg) : Cal P w K mg base 1 "_law_gcd" ["_law_one", "_law_other"] spLG := by
  refine D.ok scLG (fun vs H Q E h => ?_) (fun f cdv A outer s H vs Q E hr gd h => ?_)
  · obtain ⟨a, b, rfl, _⟩ := h
    rfl
  · obtain ⟨a, b, rfl, q⟩ := h
    refine ⟨_, (pss_cons (ps_while PassesOwn.never (pt_cmpR op_gt (pv 1) pe_int (nomark _))
        (pss_one (ps_par (i := 0) (j := 1) rfl scLG.nd rfl rfl (by decide) rfl rfl (pa_cons (pv 1) (pa_cons (pe_op op_mod (pv 0) (pv 1)) pa_nil)) (by rfl))))
      (pss_one (ps_ret (pv 0)))), ?_⟩
    refine while_w (fun m σ' H' => ∃ x : Nat, σ' = [some (.int (x : Nat)), some (.int (m : Nat))] ∧ H' = H ∧ Nat.gcd x m = Nat.gcd a b) ⟨b, a, rfl, rfl, rfl⟩ ?_ ?_
    · rintro m σ' H' ⟨x, rfl, rfl, e⟩
      refine ⟨_, rfl, _, _, rfl, rfl, _, rfl, ite2 (fun hm => ?_) (fun hm => ?_)⟩
      · have hm : (0 : Int) < (m : Int) := of_decide_eq_true hm
        refine ⟨_, rfl, _, rfl, _, rfl, _, _, rfl, rfl, hm, _, _, rfl, x % m, Nat.mod_lt _ (by omega), m, by
          show [some (V.int (m : Nat)), some (V.int ((x : Int) % (m : Int)))] = _
          rw [← Int.natCast_emod], rfl, ?_⟩
        rw [← e, Nat.gcd_comm x m, Nat.gcd_rec m x, Nat.gcd_comm]
      · have hm : ¬ (0 : Int) < (m : Int) := of_decide_eq_false (Bool.eq_false_iff.mpr hm)
        have hm0 : m = 0 := by omega
        subst hm0
        refine ⟨_, rfl, ?_⟩
        rw [Nat.gcd_zero_right] at e
        rw [e]
        exact q
    · rintro σ' H' Q1 Q2 hQ ⟨v, hv, i, j, e1, e2, k, ek, h⟩
      exact ⟨v, hv, i, j, e1, e2, k, ek, hQ _ _ h⟩
end
end Ev

/-! ## Sums; whole numbers that solve few equations (by pigeonholes) -/
namespace Ev
namespace Pm
def sumN : Nat → (Nat → Int) → Int
  | 0, _ => 0
  | k + 1, f => sumN k f + f k
theorem sumN_congr {f g : Nat → Int} : ∀ {k : Nat}, (∀ i, i < k → f i = g i) → sumN k f = sumN k g
  | 0, _ => rfl
  | k + 1, h => by rw [sumN, sumN, sumN_congr fun i hi => h i (by omega), h k (by omega)]
theorem sumN_zero {f : Nat → Int} : ∀ {k : Nat}, (∀ i, i < k → f i = 0) → sumN k f = 0
  | 0, _ => rfl
  | k + 1, h => by rw [sumN, sumN_zero fun i hi => h i (by omega), h k (by omega)]; rfl
theorem sumN_add (f g : Nat → Int) : ∀ k : Nat, sumN k (fun i => f i + g i) = sumN k f + sumN k g
  | 0 => rfl
  | k + 1 => by rw [sumN, sumN, sumN, sumN_add f g k]; omega
theorem sumN_mul (a : Int) (f : Nat → Int) : ∀ k : Nat, sumN k (fun i => a * f i) = a * sumN k f
  | 0 => by rw [sumN, sumN, Int.mul_zero]
  | k + 1 => by rw [sumN, sumN, sumN_mul a f k, Int.mul_add]
theorem sumN_lin (a b : Int) (f g : Nat → Int) (k : Nat) : sumN k (fun i => a * f i - b * g i) = a * sumN k f - b * sumN k g := by
  induction k with
  | zero => simp [sumN]
  | succ k ih => rw [sumN, sumN, sumN, ih]; grind
theorem sumN_swap (f : Nat → Nat → Int) (m : Nat) : ∀ k : Nat, sumN k (fun i => sumN m fun j => f i j) = sumN m fun j => sumN k fun i => f i j
  | 0 => (sumN_zero fun j _ => rfl).symm
  | k + 1 => by
    rw [sumN, sumN_swap f m k, ← sumN_add]
    rfl
theorem sumN_one (a : Nat) (g : Nat → Int) : ∀ {k : Nat}, a < k → sumN k (fun i => if i = a then g i else 0) = g a
  | 0, h => absurd h (by omega)
  | k + 1, h => by
    rw [sumN]
    by_cases e : k = a
    · subst e
      rw [if_pos rfl, sumN_zero fun i hi => if_neg (by omega), Int.zero_add]
    · rw [if_neg e, sumN_one a g (by omega), Int.add_zero]
theorem sumN_dvd {d : Int} {f : Nat → Int} : ∀ {k : Nat}, (∀ i, i < k → d ∣ f i) → d ∣ sumN k f
  | 0, _ => ⟨0, by rw [sumN, Int.mul_zero]⟩
  | k + 1, h => by
    rw [sumN]
    exact Int.dvd_add (sumN_dvd fun i hi => h i (by omega)) (h k (by omega))
theorem sumN_abs {f : Nat → Int} {B : Nat} : ∀ {k : Nat}, (∀ i, i < k → (f i).natAbs ≤ B) → (sumN k f).natAbs ≤ k * B
  | 0, _ => by rw [sumN]; exact Nat.zero_le _
  | k + 1, h => by
    rw [sumN, Nat.succ_mul]
    have a := sumN_abs fun i hi => h i (Nat.lt_succ_of_lt hi)
    have b := h k (Nat.lt_succ_self k)
    have c := Int.natAbs_add_le (sumN k f) (f k)
    omega
/-- a sum over some of the numbers -/
theorem sumN_mask (g : Nat → Int) {m : Nat} : ∀ {J : List Nat}, J.Nodup → (∀ x ∈ J, x < m) → sumN m (fun x => if x ∈ J then g x else 0) = (J.map g).sum
  | [], _, _ => sumN_zero fun i _ => if_neg List.not_mem_nil
  | a :: J, hn, hm => by
    obtain ⟨h1, h2⟩ := List.nodup_cons.mp hn
    rw [List.map_cons, List.sum_cons, ← sumN_mask g h2 fun x hx => hm x (List.mem_cons_of_mem _ hx), ← sumN_one a g (hm a (List.mem_cons_self ..)), ← sumN_add]
    refine sumN_congr fun i _ => ?_
    by_cases e : i = a
    · subst e
      rw [if_pos (List.mem_cons_self ..), if_pos rfl, if_neg h1, Int.add_zero]
    · rw [if_neg e, Int.zero_add]
      by_cases z : i ∈ J
      · rw [if_pos z, if_pos (List.mem_cons_of_mem _ z)]
      · rw [if_neg z, if_neg fun h => (List.mem_cons.mp h).elim e z]
/-! ### digits -/
def encN (B : Nat) : Nat → (Nat → Nat) → Nat
  | 0, _ => 0
  | k + 1, s => encN B k s * B + s k
theorem encN_lt {B : Nat} {s : Nat → Nat} : ∀ {k : Nat}, (∀ i, i < k → s i < B) → encN B k s < B ^ k
  | 0, _ => by rw [encN]; exact Nat.one_pos
  | k + 1, h => by
    have a := encN_lt fun i hi => h i (Nat.lt_succ_of_lt hi)
    have b := h k (Nat.lt_succ_self k)
    rw [encN, Nat.pow_succ]
    have : (encN B k s + 1) * B ≤ B ^ k * B := Nat.mul_le_mul_right _ a
    rw [Nat.succ_mul] at this
    omega
theorem encN_inj {B : Nat} {s u : Nat → Nat} : ∀ {k : Nat}, (∀ i, i < k → s i < B) → (∀ i, i < k → u i < B) → encN B k s = encN B k u → ∀ i, i < k → s i = u i
  | 0, _, _, _, i, hi => absurd hi (by omega)
  | k + 1, hs, hu, e, i, hi => by
    rw [encN, encN] at e
    have a := hs k (Nat.lt_succ_self k)
    have b := hu k (Nat.lt_succ_self k)
    have hB : 0 < B := by omega
    have e1 : s k = u k := by
      have := congrArg (· % B) e
      simp only [Nat.mul_add_mod_of_lt a, Nat.mul_add_mod_of_lt b] at this
      exact this
    have e2 : encN B k s = encN B k u := Nat.eq_of_mul_eq_mul_right hB (by omega)
    rcases Nat.lt_succ_iff_lt_or_eq.mp hi with h | h
    · exact encN_inj (fun i hi => hs i (by omega)) (fun i hi => hu i (by omega)) e2 i h
    · rw [h]
      exact e1
def dgN (W k j : Nat) : Nat := k / W ^ j % W
theorem dgN_inj {W : Nat} (hW : 0 < W) : ∀ {R a b : Nat}, a < W ^ R → b < W ^ R → (∀ j, j < R → dgN W a j = dgN W b j) → a = b
  | 0, a, b, ha, hb, _ => by rw [Nat.pow_zero] at ha hb; omega
  | R + 1, a, b, ha, hb, h => by
    have e0 := h 0 (by omega)
    unfold dgN at e0
    rw [Nat.pow_zero, Nat.div_one, Nat.div_one] at e0
    have e1 : a / W = b / W := by
      refine dgN_inj hW (R := R) (Nat.div_lt_of_lt_mul (by rw [Nat.mul_comm, ← Nat.pow_succ]; exact ha)) (Nat.div_lt_of_lt_mul (by rw [Nat.mul_comm, ← Nat.pow_succ]; exact hb)) fun j hj => ?_
      have := h (j + 1) (by omega)
      unfold dgN at this ⊢
      rw [Nat.pow_succ', ← Nat.div_div_eq_div_mul, ← Nat.div_div_eq_div_mul] at this
      exact this
    rw [← Nat.div_add_mod a W, ← Nat.div_add_mod b W, e0, e1]
theorem pigeon {T B : Nat} (f : Nat → Nat) (hf : ∀ k, k < T → f k < B) (h : B < T) : ∃ i j, i < j ∧ j < T ∧ f i = f j := by
  refine Classical.byContradiction fun no => ?_
  have nd : ((List.range T).map f).Nodup := by
    rw [List.Nodup, List.pairwise_map]
    refine List.Pairwise.imp_of_mem ?_ List.pairwise_lt_range
    intro i j hi hj hij e
    exact no ⟨i, j, hij, List.mem_range.mp hj, e⟩
  have := nd.length_le_of_subset (l₂ := List.range B) fun x hx => by
    obtain ⟨i, hi, rfl⟩ := List.mem_map.mp hx
    exact List.mem_range.mpr (hf i (List.mem_range.mp hi))
  rw [List.length_map, List.length_range, List.length_range] at this
  omega
theorem sum_leN {g : Nat → Nat} {N : Nat} : ∀ {J : List Nat}, (∀ x ∈ J, g x ≤ N) → (J.map g).sum ≤ J.length * N
  | [], _ => Nat.zero_le _
  | a :: J, h => by
    rw [List.map_cons, List.sum_cons, List.length_cons, Nat.succ_mul]
    have := sum_leN fun x hx => h x (List.mem_cons_of_mem _ hx)
    have := h a (List.mem_cons_self ..)
    omega
theorem sum_castN (g : Nat → Nat) : ∀ J : List Nat, (((J.map g).sum : Nat) : Int) = (J.map fun x => (g x : Int)).sum
  | [] => rfl
  | a :: J => by
    rw [List.map_cons, List.sum_cons, List.map_cons, List.sum_cons, ← sum_castN g J]
    omega
theorem sum_subI (f g : Nat → Int) : ∀ J : List Nat, (J.map fun x => f x - g x).sum = (J.map f).sum - (J.map g).sum
  | [] => rfl
  | a :: J => by
    simp only [List.map_cons, List.sum_cons, sum_subI f g J]
    omega
theorem siegel {J : List Nat} (hJ : J.Nodup) (A : Nat → Nat → Nat) (hA : ∀ i x, A i x ≤ 1) {r N : Nat} (hN : (J.length * N + 1) ^ r < (N + 1) ^ J.length) :
    ∃ c : Nat → Int, (∀ x, x ∉ J → c x = 0) ∧ (∃ x ∈ J, c x ≠ 0) ∧ (∀ x, (c x).natAbs ≤ N) ∧ ∀ i, i < r → (J.map fun x => c x * (A i x : Int)).sum = 0 := by
  obtain ⟨k1, k2, hk, hk2, e⟩ := pigeon (T := (N + 1) ^ J.length) (B := (J.length * N + 1) ^ r) (fun k => encN (J.length * N + 1) r fun i => (J.map fun x => dgN (N + 1) k (J.idxOf x) * A i x).sum)
    (fun k _ => encN_lt fun i _ => Nat.lt_succ_of_le (sum_leN fun x _ => by
      have a : dgN (N + 1) k (J.idxOf x) < N + 1 := Nat.mod_lt _ (by omega)
      have b := Nat.mul_le_mul (Nat.le_of_lt_succ a) (hA i x)
      omega)) hN
  have bd : ∀ k i, i < r → (J.map fun x => dgN (N + 1) k (J.idxOf x) * A i x).sum < J.length * N + 1 := fun k i _ => Nat.lt_succ_of_le (sum_leN fun x _ => by
      have a : dgN (N + 1) k (J.idxOf x) < N + 1 := Nat.mod_lt _ (by omega)
      have b := Nat.mul_le_mul (Nat.le_of_lt_succ a) (hA i x)
      omega)
  have eq := encN_inj (bd k1) (bd k2) e
  refine ⟨fun x => if x ∈ J then (dgN (N + 1) k1 (J.idxOf x) : Int) - (dgN (N + 1) k2 (J.idxOf x) : Int) else 0, fun x hx => if_neg hx, ?_, fun x => ?_, fun i hi => ?_⟩
  · refine Classical.byContradiction fun no => ?_
    have : k1 = k2 := dgN_inj (by omega) (R := J.length) (by omega) hk2 fun j hj => by
      refine Classical.byContradiction fun nj => no ⟨J[j], List.getElem_mem hj, ?_⟩
      show (if J[j] ∈ J then _ else _) ≠ _
      rw [if_pos (List.getElem_mem hj), hJ.idxOf_getElem]
      omega
    omega
  · show (if x ∈ J then _ else _ : Int).natAbs ≤ N
    by_cases z : x ∈ J
    · rw [if_pos z]
      have a : dgN (N + 1) k1 (J.idxOf x) < N + 1 := Nat.mod_lt _ (by omega)
      have b : dgN (N + 1) k2 (J.idxOf x) < N + 1 := Nat.mod_lt _ (by omega)
      omega
    · rw [if_neg z]
      exact Nat.zero_le _
  · have h := eq i hi
    have e1 : (J.map fun x => (if x ∈ J then (dgN (N + 1) k1 (J.idxOf x) : Int) - (dgN (N + 1) k2 (J.idxOf x) : Int) else 0) * (A i x : Int)) = J.map fun x => ((dgN (N + 1) k1 (J.idxOf x) * A i x : Nat) : Int) - ((dgN (N + 1) k2 (J.idxOf x) * A i x : Nat) : Int) := List.map_congr_left fun x hx => by
      rw [if_pos hx, Int.sub_mul]
      rfl
    rw [e1, sum_subI, ← sum_castN, ← sum_castN, h, Int.sub_self]
end Pm
end Ev

/-! ## Rows of whole numbers, made 0 at places -/
namespace Ev
namespace Pm
def gd (v : List Int) (i : Nat) : Int := v.getD i 0
theorem gd_map (f : Int → Int) (h : f 0 = 0) (v : List Int) (i : Nat) : gd (v.map f) i = f (gd v i) := by
  unfold gd
  rw [List.getD_eq_getElem?_getD, List.getD_eq_getElem?_getD, List.getElem?_map]
  cases v[i]? with
  | none => exact h.symm
  | some x => rfl
theorem gd_mem {v : List Int} {i : Nat} (h : i < v.length) : gd v i ∈ v := by
  unfold gd
  rw [List.getD_eq_getElem?_getD, List.getElem?_eq_getElem h]
  exact List.getElem_mem h
theorem mem_gd {v : List Int} {x : Int} (h : x ∈ v) : ∃ i, i < v.length ∧ gd v i = x := by
  obtain ⟨i, hi, e⟩ := List.mem_iff_getElem.mp h
  exact ⟨i, hi, by unfold gd; rw [List.getD_eq_getElem?_getD, List.getElem?_eq_getElem hi]; exact e⟩
def gcdL : List Int → Nat → Nat
  | [], g => g
  | x :: l, g => gcdL l (Nat.gcd g x.natAbs)
theorem gcdL_dvd : ∀ (l : List Int) (g : Nat), gcdL l g ∣ g ∧ ∀ x ∈ l, ((gcdL l g : Nat) : Int) ∣ x
  | [], g => ⟨Nat.dvd_refl g, fun _ h => absurd h List.not_mem_nil⟩
  | x :: l, g => by
    obtain ⟨h1, h2⟩ := gcdL_dvd l (Nat.gcd g x.natAbs)
    refine ⟨Nat.dvd_trans h1 (Nat.gcd_dvd_left ..), fun y hy => ?_⟩
    rcases List.mem_cons.mp hy with rfl | hy
    · exact Int.ofNat_dvd_left.mpr (Nat.dvd_trans h1 (Nat.gcd_dvd_right ..))
    · exact h2 y hy
theorem gcdL_great {d : Nat} : ∀ (l : List Int) (g : Nat), d ∣ g → (∀ x ∈ l, (d : Int) ∣ x) → d ∣ gcdL l g
  | [], g, h, _ => h
  | x :: l, g, h, hl => gcdL_great l _ (Nat.dvd_gcd h (Int.ofNat_dvd_left.mp (hl x (List.mem_cons_self ..)))) fun y hy => hl y (List.mem_cons_of_mem _ hy)
def lefts (r p : List Int) (pl : Nat) : List Int := List.zipWith (fun a b => a * gd p pl - b * gd r pl) r p
def wth (r p : List Int) (pl : Nat) : List Int := (lefts r p pl).map fun x => x / (gcdL (lefts r p pl) 0 : Nat)
theorem lefts_len {r p : List Int} {pl N : Nat} (hr : r.length = N) (hp : p.length = N) : (lefts r p pl).length = N := by
  unfold lefts
  rw [List.length_zipWith, hr, hp, Nat.min_self]
theorem wth_len {r p : List Int} {pl N : Nat} (hr : r.length = N) (hp : p.length = N) : (wth r p pl).length = N := by
  unfold wth
  rw [List.length_map, lefts_len hr hp]
theorem gd_lefts {r p : List Int} {pl N i : Nat} (hr : r.length = N) (hp : p.length = N) (hi : i < N) : gd (lefts r p pl) i = gd r i * gd p pl - gd p i * gd r pl := by
  have h : (lefts r p pl)[i]? = some (gd r i * gd p pl - gd p i * gd r pl) := by
    unfold lefts
    rw [List.getElem?_zipWith, List.getElem?_eq_getElem (show i < r.length by omega), List.getElem?_eq_getElem (show i < p.length by omega)]
    show some (r[i] * _ - p[i] * _) = some (gd r i * _ - gd p i * _)
    have er : gd r i = r[i] := by
      unfold gd
      rw [List.getD_eq_getElem?_getD, List.getElem?_eq_getElem (show i < r.length by omega)]
      rfl
    have ep : gd p i = p[i] := by
      unfold gd
      rw [List.getD_eq_getElem?_getD, List.getElem?_eq_getElem (show i < p.length by omega)]
      rfl
    rw [er, ep]
  show (lefts r p pl).getD i 0 = _
  rw [List.getD_eq_getElem?_getD, h]
  rfl
/-- nothing but 1 and -1 divides all parts -/
def Prim (N : Nat) (v : List Int) : Prop := ∀ d : Int, (∀ i, i < N → d ∣ gd v i) → d ∣ 1
theorem wth_spec {r p : List Int} {pl N i0 : Nat} (hr : r.length = N) (hp : p.length = N) (h0 : i0 < N) (hz : gd r i0 * gd p pl - gd p i0 * gd r pl ≠ 0) :
    ∃ g : Int, 0 < g ∧ (∀ i, i < N → g * gd (wth r p pl) i = gd r i * gd p pl - gd p i * gd r pl) ∧ Prim N (wth r p pl) ∧ g = ((gcdL (lefts r p pl) 0 : Nat) : Int) := by
  obtain ⟨_, d2⟩ := gcdL_dvd (lefts r p pl) 0
  have hl := lefts_len (pl := pl) hr hp
  have gpos : 0 < gcdL (lefts r p pl) 0 := Nat.pos_of_ne_zero fun e => by
    have := d2 _ (gd_mem (v := lefts r p pl) (i := i0) (by omega))
    rw [e, gd_lefts hr hp h0] at this
    exact hz (Int.zero_dvd.mp this)
  have ev : ∀ i, i < N → ((gcdL (lefts r p pl) 0 : Nat) : Int) * gd (wth r p pl) i = gd r i * gd p pl - gd p i * gd r pl := by
    intro i hi
    unfold wth
    rw [gd_map (fun x => x / (gcdL (lefts r p pl) 0 : Nat)) (by simp), ← gd_lefts hr hp hi]
    exact Int.mul_ediv_cancel' (d2 _ (gd_mem (by omega)))
  refine ⟨_, Int.natCast_pos.mpr gpos, ev, fun d hd => ?_, rfl⟩
  have h1 : gcdL (lefts r p pl) 0 * d.natAbs ∣ gcdL (lefts r p pl) 0 := by
    refine gcdL_great _ _ (Nat.dvd_zero _) fun x hx => ?_
    obtain ⟨i, hi, rfl⟩ := mem_gd hx
    rw [gd_lefts hr hp (by omega), ← ev i (by omega), Int.natCast_mul]
    refine Int.mul_dvd_mul (Int.dvd_refl _) ?_
    exact Int.natAbs_dvd.mpr (hd i (by omega))
  have h2 : gcdL (lefts r p pl) 0 * d.natAbs ∣ gcdL (lefts r p pl) 0 * 1 := by rw [Nat.mul_one]; exact h1
  have h3 := Nat.dvd_of_mul_dvd_mul_left gpos h2
  exact Int.natAbs_dvd.mp (Int.ofNat_dvd.mpr h3)
/-- what is written of the ticks follows from the parts -/
def Comb (n M : Nat) (ind : Nat → Nat → Nat) (v : List Int) : Prop := ∀ t, t < n → gd v t = sumN M fun j => gd v (n + j) * (ind j t : Int)
theorem Comb.lin {n M : Nat} {ind : Nat → Nat → Nat} {r p v : List Int} {g a b : Int} (hg : g ≠ 0) (hr : Comb n M ind r) (hp : Comb n M ind p) (h : ∀ i, i < n + M → g * gd v i = gd r i * a - gd p i * b) : Comb n M ind v := by
  intro t ht
  refine Int.eq_of_mul_eq_mul_left hg ?_
  rw [h t (by omega), hr t ht, hp t ht, ← sumN_mul, Int.mul_comm _ a, Int.mul_comm _ b, ← sumN_lin]
  refine sumN_congr fun j hj => ?_
  rw [← Int.mul_assoc g, h (n + j) (by omega)]
  grind
theorem Prim.parts {n M : Nat} {ind : Nat → Nat → Nat} {v : List Int} (hc : Comb n M ind v) (hp : Prim (n + M) v) {d : Int} (h : ∀ j, j < M → d ∣ gd v (n + j)) : d ∣ 1 := by
  refine hp d fun i hi => ?_
  by_cases c : i < n
  · rw [hc i c]
    exact sumN_dvd fun j hj => Int.dvd_trans (h j hj) (Int.dvd_mul_right ..)
  · have := h (i - n) (by omega)
    rwa [show n + (i - n) = i by omega] at this
theorem prim_bound {M N : Nat} {c v : Nat → Int} {σ δ : Int} (hσ : 0 < σ) (h : ∀ j, j < M → σ * c j = δ * v j) (hp : ∀ d : Int, (∀ j, j < M → d ∣ v j) → d ∣ 1) (h0 : ∃ j, j < M ∧ c j ≠ 0) (hN : ∀ j, (c j).natAbs ≤ N) : ∀ j, j < M → (v j).natAbs ≤ N := by
  have hg : 0 < Int.gcd σ δ := Int.gcd_pos_of_ne_zero_left _ (by omega)
  obtain ⟨s, hs⟩ := Int.gcd_dvd_left (a := σ) (b := δ)
  obtain ⟨e, he⟩ := Int.gcd_dvd_right (a := σ) (b := δ)
  generalize hG : (Int.gcd σ δ : Int) = G at hs he
  have hG0 : 0 < G := by omega
  have cop : Int.gcd s e = 1 := by
    have z : Int.gcd (G * s) (G * e) = G.natAbs * Int.gcd s e := Int.gcd_mul_left ..
    rw [← hs, ← he] at z
    have : G.natAbs = Int.gcd σ δ := by omega
    rw [this] at z
    exact Nat.eq_of_mul_eq_mul_left hg (by omega)
  have h' : ∀ j, j < M → s * c j = e * v j := fun j hj => by
    refine Int.eq_of_mul_eq_mul_left (show G ≠ 0 by omega) ?_
    rw [← Int.mul_assoc, ← Int.mul_assoc, ← hs, ← he]
    exact h j hj
  have hs0 : 0 < s := by
    rcases Int.lt_or_le 0 s with z | z
    · exact z
    · have : G * s ≤ 0 := Int.mul_nonpos_of_nonneg_of_nonpos (by omega) z
      omega
  have s1 : s ∣ 1 := hp s fun j hj => by
    have z : s.natAbs ∣ e.natAbs * (v j).natAbs := by
      rw [← Int.natAbs_mul, ← h' j hj, Int.natAbs_mul]
      exact Nat.dvd_mul_right ..
    exact Int.natAbs_dvd_natAbs.mp (Nat.Coprime.dvd_of_dvd_mul_left cop z)
  have es : s = 1 := by
    have := Int.le_of_dvd (by decide) s1
    omega
  have e0 : e ≠ 0 := fun z => by
    obtain ⟨j, hj, nz⟩ := h0
    have := h' j hj
    rw [es, z, Int.one_mul, Int.zero_mul] at this
    exact nz this
  intro j hj
  have h1 := h' j hj
  rw [es, Int.one_mul] at h1
  have h2 := hN j
  rw [h1, Int.natAbs_mul] at h2
  have h3 : 1 * (v j).natAbs ≤ e.natAbs * (v j).natAbs := Nat.mul_le_mul_right _ (by omega)
  omega
def dot (n : Nat) (v : List Int) (x : Nat → Int) : Int := sumN n fun t => gd v t * x t
theorem dot_lin {n : Nat} {v r p : List Int} {g a b : Int} (x : Nat → Int) (h : ∀ i, i < n → g * gd v i = gd r i * a - gd p i * b) : g * dot n v x = a * dot n r x - b * dot n p x := by
  unfold dot
  rw [← sumN_mul, ← sumN_lin]
  refine sumN_congr fun t ht => ?_
  rw [← Int.mul_assoc, h t ht]
  grind
theorem dot_comb {n M : Nat} {ind : Nat → Nat → Nat} {v : List Int} (hc : Comb n M ind v) (x : Nat → Int) : dot n v x = sumN M fun j => gd v (n + j) * sumN n fun t => (ind j t : Int) * x t := by
  unfold dot
  have e : ∀ t, t < n → gd v t * x t = sumN M fun j => gd v (n + j) * ((ind j t : Int) * x t) := fun t ht => by
    rw [hc t ht, Int.mul_comm, ← sumN_mul]
    exact sumN_congr fun j _ => by grind
  rw [sumN_congr e, sumN_swap]
  exact sumN_congr fun j _ => sumN_mul ..
def crow (n M : Nat) (ind : Nat → Nat → Nat) (a : Nat) : List Int := (List.range n).map (fun t => (ind a t : Int)) ++ (List.range M).map (fun j => if j = a then 1 else 0)
theorem crow_len {n M : Nat} {ind : Nat → Nat → Nat} {a : Nat} : (crow n M ind a).length = n + M := by
  unfold crow
  simp
theorem crow_t {n M : Nat} {ind : Nat → Nat → Nat} {a t : Nat} (h : t < n) : gd (crow n M ind a) t = (ind a t : Int) := by
  unfold gd crow
  rw [List.getD_eq_getElem?_getD, List.getElem?_append_left (by simp; exact h), List.getElem?_map, List.getElem?_range h]
  rfl
theorem crow_p {n M : Nat} {ind : Nat → Nat → Nat} {a j : Nat} (h : j < M) : gd (crow n M ind a) (n + j) = if j = a then 1 else 0 := by
  unfold gd crow
  rw [List.getD_eq_getElem?_getD, List.getElem?_append_right (by simp), List.length_map, List.length_range, Nat.add_sub_cancel_left, List.getElem?_map, List.getElem?_range h]
  rfl
theorem crow_comb {n M : Nat} {ind : Nat → Nat → Nat} {a : Nat} (ha : a < M) : Comb n M ind (crow n M ind a) := by
  intro t ht
  rw [crow_t ht, ← sumN_one a (fun j => (ind j t : Int)) ha]
  refine sumN_congr fun j hj => ?_
  rw [crow_p hj]
  by_cases e : j = a
  · rw [if_pos e, if_pos e, Int.one_mul]
  · rw [if_neg e, if_neg e, Int.zero_mul]
theorem crow_prim {n M : Nat} {ind : Nat → Nat → Nat} {a : Nat} (ha : a < M) : Prim (n + M) (crow n M ind a) := fun d hd => by
  have := hd (n + a) (by omega)
  rwa [crow_p ha, if_pos rfl] at this
def clr (v : List Int) : List (Nat × List Int) → List Int
  | [] => v
  | q :: ps => clr (wth v q.2 q.1) ps
def fst0 : List Int → Option Nat
  | [] => none
  | x :: l => if x ≠ 0 then some 0 else (fst0 l).map (· + 1)
theorem fst0_none : ∀ {l : List Int}, fst0 l = none → ∀ i, gd l i = 0
  | [], _, i => by unfold gd; rfl
  | x :: l, h, i => by
    rw [fst0] at h
    by_cases e : x ≠ 0
    · rw [if_pos e] at h
      cases h
    · rw [if_neg e] at h
      have e : x = 0 := Classical.not_not.mp e
      cases i with
      | zero => exact e
      | succ i => exact fst0_none (Option.map_eq_none_iff.mp h) i
theorem fst0_some : ∀ {l : List Int} {k : Nat}, fst0 l = some k → k < l.length ∧ gd l k ≠ 0 ∧ ∀ i, i < k → gd l i = 0
  | [], _, h => by cases h
  | x :: l, k, h => by
    rw [fst0] at h
    by_cases e : x ≠ 0
    · rw [if_pos e] at h
      cases h
      exact ⟨Nat.succ_pos _, e, fun i hi => absurd hi (by omega)⟩
    · rw [if_neg e] at h
      have e : x = 0 := Classical.not_not.mp e
      obtain ⟨k', h1, rfl⟩ := Option.map_eq_some_iff.mp h
      obtain ⟨a, b, c⟩ := fst0_some h1
      refine ⟨Nat.succ_lt_succ a, b, fun i hi => ?_⟩
      cases i with
      | zero => exact e
      | succ i => exact c i (by omega)
theorem gd_take {l : List Int} {n t : Nat} (h : t < n) : gd (l.take n) t = gd l t := by
  unfold gd
  rw [List.getD_eq_getElem?_getD, List.getD_eq_getElem?_getD, List.getElem?_take_of_lt h]
end Pm
end Ev

/-! ## Pivots: rows that are above 0 at one place and 0 at the others' -/
namespace Ev
namespace Pm
theorem gd_out {v : List Int} {i : Nat} (h : v.length ≤ i) : gd v i = 0 := by
  unfold gd
  rw [List.getD_eq_getElem?_getD, List.getElem?_eq_none h]
  rfl
structure PRow (n M : Nat) (ind : Nat → Nat → Nat) (J : List Nat) (q : Nat × List Int) : Prop where
  pl : q.1 < n
  len : q.2.length = n + M
  pos : 0 < gd q.2 q.1
  comb : Comb n M ind q.2
  prim : Prim (n + M) q.2
  out : ∀ j, j ∉ J → gd q.2 (n + j) = 0
structure CRow (n M : Nat) (ind : Nat → Nat → Nat) (J : List Nat) (a : Nat) (v : List Int) : Prop where
  len : v.length = n + M
  comb : Comb n M ind v
  prim : Prim (n + M) v
  pos : 0 < gd v (n + a)
  out : ∀ j, j ∉ J → j ≠ a → gd v (n + j) = 0
def Off (a b : Nat × List Int) : Prop := a.1 ≠ b.1 ∧ gd a.2 b.1 = 0 ∧ gd b.2 a.1 = 0
theorem clr_spec {n M a : Nat} {ind : Nat → Nat → Nat} {J : List Nat} (ha : a ∉ J) (haM : a < M) : ∀ {ps : List (Nat × List Int)}, (∀ q ∈ ps, PRow n M ind J q) → ps.Pairwise Off → ∀ {v : List Int}, CRow n M ind J a v → ∀ {zs : List Nat}, (∀ z ∈ zs, z < n ∧ gd v z = 0 ∧ ∀ q ∈ ps, gd q.2 z = 0) →
    CRow n M ind J a (clr v ps) ∧ (∀ z ∈ zs, gd (clr v ps) z = 0) ∧ (∀ q ∈ ps, gd (clr v ps) q.1 = 0) ∧ ∀ x, (∀ q ∈ ps, dot n q.2 x = 0) → (dot n (clr v ps) x = 0 ↔ dot n v x = 0)
  | [], _, _, v, hv, zs, hz => ⟨hv, fun z h => (hz z h).2.1, fun _ h => absurd h List.not_mem_nil, fun _ _ => Iff.rfl⟩
  | q :: ps, hq, ho, v, hv, zs, hz => by
    obtain ⟨o1, o2⟩ := List.pairwise_cons.mp ho
    have Q := hq q (List.mem_cons_self ..)
    have qa : gd q.2 (n + a) = 0 := Q.out a ha
    have nz : gd v (n + a) * gd q.2 q.1 - gd q.2 (n + a) * gd v q.1 ≠ 0 := by
      rw [qa, Int.zero_mul, Int.sub_zero]
      exact Int.ne_of_gt (Int.mul_pos hv.pos Q.pos)
    obtain ⟨g, g0, ge, gp, _⟩ := wth_spec hv.len Q.len (i0 := n + a) (by omega) nz
    have C' : CRow n M ind J a (wth v q.2 q.1) := by
      refine ⟨wth_len hv.len Q.len, Comb.lin (by omega) hv.comb Q.comb ge, gp, ?_, fun j hj hja => ?_⟩
      · have := ge (n + a) (by omega)
        rw [qa, Int.zero_mul, Int.sub_zero] at this
        have h2 : 0 < g * gd (wth v q.2 q.1) (n + a) := this ▸ Int.mul_pos hv.pos Q.pos
        exact Int.pos_of_mul_pos_right h2 (by omega)
      · by_cases hM : j < M
        · have := ge (n + j) (by omega)
          rw [hv.out j hj hja, Q.out j hj, Int.zero_mul, Int.zero_mul, Int.sub_zero] at this
          exact (Int.mul_eq_zero.mp this).resolve_left (by omega)
        · exact gd_out (by rw [wth_len hv.len Q.len]; omega)
    have zero : ∀ z, z < n → gd v z * gd q.2 q.1 - gd q.2 z * gd v q.1 = 0 → gd (wth v q.2 q.1) z = 0 := fun z hz h => by
      have := ge z (by omega)
      rw [h] at this
      exact (Int.mul_eq_zero.mp this).resolve_left (by omega)
    obtain ⟨r1, r2, r3, r4⟩ := clr_spec ha haM (ps := ps) (fun p hp => hq p (List.mem_cons_of_mem _ hp)) o2 C' (zs := q.1 :: zs) (fun z h => by
      rcases List.mem_cons.mp h with rfl | h
      · exact ⟨Q.pl, zero _ Q.pl (by rw [Int.mul_comm]; exact Int.sub_self _), fun p hp => (o1 p hp).2.2⟩
      · obtain ⟨h1, h2, h3⟩ := hz z h
        refine ⟨h1, zero z h1 ?_, fun p hp => h3 p (List.mem_cons_of_mem _ hp)⟩
        rw [h2, h3 q (List.mem_cons_self ..), Int.zero_mul, Int.zero_mul, Int.sub_zero])
    refine ⟨r1, fun z h => r2 z (List.mem_cons_of_mem _ h), fun p hp => ?_, fun x hx => ?_⟩
    · rcases List.mem_cons.mp hp with rfl | hp
      · exact r2 _ (List.mem_cons_self ..)
      · exact r3 p hp
    · refine (r4 x fun p hp => hx p (List.mem_cons_of_mem _ hp)).trans ?_
      have e := dot_lin (n := n) x fun i hi => ge i (by omega)
      rw [hx q (List.mem_cons_self ..), Int.mul_zero, Int.sub_zero] at e
      constructor
      · intro z
        rw [z, Int.mul_zero] at e
        exact (Int.mul_eq_zero.mp e.symm).resolve_left (Int.ne_of_gt Q.pos)
      · intro z
        rw [z, Int.mul_zero] at e
        exact (Int.mul_eq_zero.mp e).resolve_left (by omega)
structure PInv (n M : Nat) (ind : Nat → Nat → Nat) (k : Nat) (J : List Nat) (pv : List (Nat × List Int)) : Prop where
  jn : J.Nodup
  jk : ∀ x ∈ J, x < k
  len : J.length = pv.length
  row : ∀ q ∈ pv, PRow n M ind J q
  off : pv.Pairwise Off
  free : ∀ c : Nat → Int, (∀ j, j ∉ J → c j = 0) → (∀ q ∈ pv, sumN M (fun j => c j * (ind j q.1 : Int)) = 0) → ∀ j, c j = 0
  orth : ∀ x : Nat → Int, (∀ q ∈ pv, dot n q.2 x = 0) → ∀ j, j < k → sumN n (fun t => (ind j t : Int) * x t) = 0
theorem PInv.nil {n M : Nat} {ind : Nat → Nat → Nat} : PInv n M ind 0 [] [] :=
  ⟨List.nodup_nil, fun _ h => absurd h List.not_mem_nil, rfl, fun _ h => absurd h List.not_mem_nil, List.Pairwise.nil, fun c h _ j => h j List.not_mem_nil, fun _ _ j h => absurd h (by omega)⟩
theorem crow_crow {n M k : Nat} {ind : Nat → Nat → Nat} {J : List Nat} (hM : k < M) : CRow n M ind J k (crow n M ind k) := by
  refine ⟨crow_len, crow_comb hM, crow_prim hM, ?_, fun j _ hj => ?_⟩
  · rw [crow_p hM, if_pos rfl]
    decide
  · by_cases h : j < M
    · rw [crow_p h, if_neg hj]
    · exact gd_out (by rw [crow_len]; omega)
/-- a class row cleared -/
theorem PInv.clr {n M k a : Nat} {ind : Nat → Nat → Nat} {J : List Nat} {pv : List (Nat × List Int)} (I : PInv n M ind k J pv) (hk : k ≤ a) (hM : a < M) :
    CRow n M ind J a (clr (crow n M ind a) pv) ∧ (∀ q ∈ pv, gd (Pm.clr (crow n M ind a) pv) q.1 = 0) ∧ ∀ x, (∀ q ∈ pv, dot n q.2 x = 0) → (dot n (Pm.clr (crow n M ind a) pv) x = 0 ↔ sumN n (fun t => (ind a t : Int) * x t) = 0) := by
  have na : a ∉ J := fun h => by
    have := I.jk a h
    omega
  obtain ⟨h1, _, h3, h4⟩ := clr_spec na hM I.row I.off (crow_crow (J := J) hM) (zs := []) (fun _ h => absurd h List.not_mem_nil)
  refine ⟨h1, h3, fun x hx => (h4 x hx).trans ?_⟩
  unfold dot
  rw [sumN_congr (g := fun t => (ind a t : Int) * x t) fun t ht => by rw [crow_t ht]]
theorem PInv.skip {n M k : Nat} {ind : Nat → Nat → Nat} {J : List Nat} {pv : List (Nat × List Int)} (I : PInv n M ind k J pv) (hM : k < M) (hz : ∀ t, t < n → gd (Pm.clr (crow n M ind k) pv) t = 0) : PInv n M ind (k + 1) J pv := by
  refine ⟨I.jn, fun x hx => Nat.lt_succ_of_lt (I.jk x hx), I.len, I.row, I.off, I.free, fun x hx j hj => ?_⟩
  rcases Nat.lt_succ_iff_lt_or_eq.mp hj with h | rfl
  · exact I.orth x hx j h
  · refine ((I.clr (Nat.le_refl j) hM).2.2 x hx).mp ?_
    exact sumN_zero fun t ht => by rw [hz t ht, Int.zero_mul]
def sgn (v : List Int) (pl : Nat) : List Int := if 0 < gd v pl then v else v.map fun x => -x
theorem sgn_gd {v : List Int} {pl : Nat} : ∃ e : Int, (e = 1 ∨ e = -1) ∧ ∀ i, gd (sgn v pl) i = e * gd v i := by
  unfold sgn
  by_cases h : 0 < gd v pl
  · rw [if_pos h]
    exact ⟨1, .inl rfl, fun i => (Int.one_mul _).symm⟩
  · rw [if_neg h]
    exact ⟨-1, .inr rfl, fun i => by rw [gd_map (fun x => -x) rfl]; omega⟩
theorem sgn_len {v : List Int} {pl : Nat} : (sgn v pl).length = v.length := by
  unfold sgn
  split
  · rfl
  · rw [List.length_map]
theorem PInv.add {n M k pl : Nat} {ind : Nat → Nat → Nat} {J : List Nat} {pv : List (Nat × List Int)} (I : PInv n M ind k J pv) (hM : k < M) (hpl : pl < n) (hz : gd (Pm.clr (crow n M ind k) pv) pl ≠ 0) :
    PInv n M ind (k + 1) (k :: J) (pv.map (fun q => (q.1, wth q.2 (sgn (Pm.clr (crow n M ind k) pv) pl) pl)) ++ [(pl, sgn (Pm.clr (crow n M ind k) pv) pl)]) := by
  obtain ⟨C, hc0, hcx⟩ := I.clr (Nat.le_refl k) hM
  generalize Pm.clr (crow n M ind k) pv = v at C hc0 hcx hz ⊢
  have nk : k ∉ J := fun h => by
    have := I.jk k h
    omega
  obtain ⟨e, he, hv⟩ := sgn_gd (v := v) (pl := pl)
  have hlen : (sgn v pl).length = n + M := sgn_len.trans C.len
  have hpos : 0 < gd (sgn v pl) pl := by
    unfold sgn
    by_cases h : 0 < gd v pl
    · rw [if_pos h]
      exact h
    · rw [if_neg h, gd_map (fun x => -x) rfl]
      omega
  have e0 : e ≠ 0 := by rcases he with rfl | rfl <;> decide
  have hcomb : Comb n M ind (sgn v pl) := by
    intro t ht
    rw [hv t, C.comb t ht, ← sumN_mul]
    refine sumN_congr fun j _ => ?_
    rw [hv (n + j), Int.mul_assoc]
  have hprim : Prim (n + M) (sgn v pl) := fun d hd => C.prim d fun i hi => by
    have := hd i hi
    rw [hv i] at this
    rcases he with rfl | rfl
    · rwa [Int.one_mul] at this
    · rw [Int.neg_mul, Int.one_mul] at this
      exact Int.dvd_neg.mp this
  have hout : ∀ j, j ∉ k :: J → gd (sgn v pl) (n + j) = 0 := fun j hj => by
    rw [hv (n + j), C.out j (fun h => hj (List.mem_cons_of_mem _ h)) (fun h => hj (h ▸ List.mem_cons_self ..)), Int.mul_zero]
  have hzero : ∀ q ∈ pv, gd (sgn v pl) q.1 = 0 := fun q hq => by rw [hv, hc0 q hq, Int.mul_zero]
  have hdot : ∀ x, dot n (sgn v pl) x = e * dot n v x := fun x => by
    unfold dot
    rw [← sumN_mul]
    exact sumN_congr fun t _ => by rw [hv t, Int.mul_assoc]
  generalize hu : sgn v pl = u at hlen hpos hcomb hprim hout hzero hdot hv ⊢
  have W : ∀ q ∈ pv, ∃ g : Int, 0 < g ∧ (∀ i, i < n + M → g * gd (wth q.2 u pl) i = gd q.2 i * gd u pl - gd u i * gd q.2 pl) ∧ Prim (n + M) (wth q.2 u pl) := fun q hq => by
    have Q := I.row q hq
    obtain ⟨g, a, b, c, _⟩ := wth_spec Q.len hlen (i0 := q.1) (pl := pl) (by have := Q.pl; omega) (by
      rw [hzero q hq, Int.zero_mul, Int.sub_zero]
      exact Int.ne_of_gt (Int.mul_pos Q.pos hpos))
    exact ⟨g, a, b, c⟩
  have npl : ∀ q ∈ pv, q.1 ≠ pl := fun q hq h => by
    have := hzero q hq
    rw [h] at this
    omega
  have Wz : ∀ q ∈ pv, gd (wth q.2 u pl) pl = 0 := fun q hq => by
    obtain ⟨g, g0, ge, _⟩ := W q hq
    have := ge pl (by omega)
    rw [Int.mul_comm (gd q.2 pl), Int.sub_self] at this
    exact (Int.mul_eq_zero.mp this).resolve_left (by omega)
  refine ⟨List.nodup_cons.mpr ⟨nk, I.jn⟩, fun x hx => ?_, ?_, fun q hq => ?_, ?_, fun c hc hs => ?_, fun x hx j hj => ?_⟩
  · rcases List.mem_cons.mp hx with rfl | hx
    · exact Nat.lt_succ_self _
    · exact Nat.lt_succ_of_lt (I.jk x hx)
  · rw [List.length_cons, List.length_append, List.length_map, I.len]
    rfl
  · rcases List.mem_append.mp hq with hq | hq
    · obtain ⟨q0, h0, rfl⟩ := List.mem_map.mp hq
      have Q := I.row q0 h0
      obtain ⟨g, g0, ge, gp⟩ := W q0 h0
      refine ⟨Q.pl, wth_len Q.len hlen, ?_, Comb.lin (by omega) Q.comb hcomb ge, gp, fun j hj => ?_⟩
      · have := ge q0.1 (by have := Q.pl; omega)
        rw [hzero q0 h0, Int.zero_mul, Int.sub_zero] at this
        have h2 : 0 < g * gd (wth q0.2 u pl) q0.1 := this ▸ Int.mul_pos Q.pos hpos
        exact Int.pos_of_mul_pos_right h2 (by omega)
      · by_cases hjM : j < M
        · have := ge (n + j) (by omega)
          rw [Q.out j (fun h => hj (List.mem_cons_of_mem _ h)), hout j hj, Int.zero_mul, Int.zero_mul, Int.sub_zero] at this
          exact (Int.mul_eq_zero.mp this).resolve_left (by omega)
        · exact gd_out (by rw [wth_len Q.len hlen]; omega)
    · rw [List.mem_singleton.mp hq]
      exact ⟨hpl, hlen, hpos, hcomb, hprim, hout⟩
  · rw [List.pairwise_append]
    refine ⟨?_, List.pairwise_singleton .., fun a ha b hb => ?_⟩
    · rw [List.pairwise_map]
      refine I.off.imp_of_mem ?_
      intro a b ha hb ⟨o1, o2, o3⟩
      obtain ⟨g, g0, ge, _⟩ := W a ha
      obtain ⟨g', g0', ge', _⟩ := W b hb
      refine ⟨o1, ?_, ?_⟩
      · have := ge b.1 (by have := (I.row b hb).pl; omega)
        rw [o2, hzero b hb, Int.zero_mul, Int.zero_mul, Int.sub_zero] at this
        exact (Int.mul_eq_zero.mp this).resolve_left (by omega)
      · have := ge' a.1 (by have := (I.row a ha).pl; omega)
        rw [o3, hzero a ha, Int.zero_mul, Int.zero_mul, Int.sub_zero] at this
        exact (Int.mul_eq_zero.mp this).resolve_left (by omega)
    · obtain ⟨q0, h0, rfl⟩ := List.mem_map.mp ha
      rw [List.mem_singleton.mp hb]
      exact ⟨npl q0 h0, Wz q0 h0, hzero q0 h0⟩
  · -- what stands behind in u is above 0 or below 0 at k
    have uk : gd u (n + k) ≠ 0 := by
      rw [hv]
      exact Int.mul_ne_zero e0 (Int.ne_of_gt C.pos)
    have key : ∀ j, gd u (n + k) * c j - c k * gd u (n + j) = 0 := by
      refine I.free (fun j => gd u (n + k) * c j - c k * gd u (n + j)) (fun j hj => ?_) (fun q hq => ?_)
      · by_cases h : j = k
        · subst h
          show gd u (n + j) * c j - c j * gd u (n + j) = 0
          rw [Int.mul_comm, Int.sub_self]
        · have h' : j ∉ k :: J := fun hm => (List.mem_cons.mp hm).elim h hj
          show gd u (n + k) * c j - c k * gd u (n + j) = 0
          rw [hc j h', hout j h', Int.mul_zero, Int.mul_zero, Int.sub_self]
      · have s1 : sumN M (fun j => c j * (ind j q.1 : Int)) = 0 := hs (q.1, wth q.2 u pl) (List.mem_append_left _ (List.mem_map.mpr ⟨q, hq, rfl⟩))
        have s2 : sumN M (fun j => gd u (n + j) * (ind j q.1 : Int)) = 0 := by
          rw [← hcomb q.1 (I.row q hq).pl]
          exact hzero q hq
        have e1 := sumN_lin (gd u (n + k)) (c k) (fun j => c j * (ind j q.1 : Int)) (fun j => gd u (n + j) * (ind j q.1 : Int)) M
        rw [s1, s2, Int.mul_zero, Int.mul_zero, Int.sub_zero] at e1
        rw [← e1]
        exact sumN_congr fun j _ => by grind
    have ck : c k = 0 := by
      have s1 : sumN M (fun j => c j * (ind j pl : Int)) = 0 := hs (pl, u) (List.mem_append_right _ (List.mem_singleton.mpr rfl))
      have e1 : sumN M (fun j => gd u (n + k) * (c j * (ind j pl : Int))) = sumN M (fun j => c k * (gd u (n + j) * (ind j pl : Int))) := sumN_congr fun j _ => by
        have := key j
        grind
      rw [sumN_mul, sumN_mul, s1, ← hcomb pl hpl, Int.mul_zero] at e1
      exact (Int.mul_eq_zero.mp e1.symm).resolve_right (by omega)
    intro j
    have := key j
    rw [ck, Int.zero_mul, Int.sub_zero] at this
    exact (Int.mul_eq_zero.mp this).resolve_left uk
  · have hux : dot n u x = 0 := hx (pl, u) (List.mem_append_right _ (List.mem_singleton.mpr rfl))
    have hpx : ∀ q ∈ pv, dot n q.2 x = 0 := fun q hq => by
      obtain ⟨g, g0, ge, _⟩ := W q hq
      have h1 : dot n (wth q.2 u pl) x = 0 := hx (q.1, wth q.2 u pl) (List.mem_append_left _ (List.mem_map.mpr ⟨q, hq, rfl⟩))
      have e1 := dot_lin (n := n) x fun i hi => ge i (by omega)
      rw [h1, hux, Int.mul_zero, Int.mul_zero, Int.sub_zero] at e1
      exact (Int.mul_eq_zero.mp e1.symm).resolve_left (by omega)
    rcases Nat.lt_succ_iff_lt_or_eq.mp hj with h | rfl
    · exact I.orth x hpx j h
    · refine (hcx x hpx).mp ?_
      have := hdot x
      rw [hux] at this
      exact (Int.mul_eq_zero.mp this.symm).resolve_left e0
end Pm
end Ev

/-! ## 2 ** 61 - 1 has no divisors but 1 and itself -/
namespace Ev
namespace Pm
def p61 : Nat := 2305843009213693951
def bs61 : Nat := 2254674356018424053
/-- powers modulo a number, by the bits of the exponent, highest first -/
def pwB (b p : Nat) : List Bool → Nat → Nat
  | [], a => a
  | true :: l, a => pwB b p l (a * a * b % p)
  | false :: l, a => pwB b p l (a * a % p)
def vlB : List Bool → Nat → Nat
  | [], e => e
  | true :: l, e => vlB l (2 * e + 1)
  | false :: l, e => vlB l (2 * e)
theorem pwB_mod (b p : Nat) : ∀ (l : List Bool) (a e : Nat), a % p = b ^ e % p → pwB b p l a % p = b ^ vlB l e % p
  | [], a, e, h => h
  | true :: l, a, e, h => by
    rw [pwB, vlB]
    refine pwB_mod b p l _ _ ?_
    rw [Nat.mod_mod, Nat.mul_mod, Nat.mul_mod a a, h, ← Nat.mul_mod (b ^ e) (b ^ e), ← Nat.mul_mod]
    congr 1
    rw [Nat.pow_succ, Nat.two_mul, Nat.pow_add]
  | false :: l, a, e, h => by
    rw [pwB, vlB]
    refine pwB_mod b p l _ _ ?_
    rw [Nat.mod_mod, Nat.mul_mod a a, h, ← Nat.mul_mod, ← Nat.pow_add, Nat.two_mul]
def bits : Nat → Nat → List Bool
  | 0, _ => []
  | k + 1, n => decide (n / 2 ^ k % 2 = 1) :: bits k n
theorem mod_of_dvd {a b p d : Nat} (hd : d ∣ p) (h : a % p = b % p) : a % d = b % d := by
  rw [← Nat.mod_mod_of_dvd a hd, h, Nat.mod_mod_of_dvd b hd]
theorem pow_gcd_mod {b d : Nat} (m n : Nat) : b ^ m % d = 1 % d → b ^ n % d = 1 % d → b ^ Nat.gcd m n % d = 1 % d := by
  induction m, n using Nat.gcd.induction with
  | H0 n => intro _ h; simpa using h
  | H1 m n hm ih =>
    intro h1 h2
    rw [Nat.gcd_rec]
    refine ih ?_ h1
    have e : b ^ n = (b ^ m) ^ (n / m) * b ^ (n % m) := by rw [← Nat.pow_mul, ← Nat.pow_add, Nat.div_add_mod]
    rw [e, Nat.mul_mod, Nat.pow_mod, h1, ← Nat.pow_mod, Nat.one_pow, ← Nat.mul_mod, Nat.one_mul] at h2
    exact h2
def f61 : Nat := 4027518961
theorem pr_small {q : Nat} (h : (List.range q).all (fun x => decide (x < 2) || decide (q % x ≠ 0)) = true) {x : Nat} (hx : x ∣ q) (hq : 0 < q) : x = 1 ∨ x = q := by
  rw [List.all_eq_true] at h
  have hle := Nat.le_of_dvd hq hx
  by_cases e : x = q
  · exact .inr e
  · have z := h x (List.mem_range.mpr (by omega))
    rw [Bool.or_eq_true, decide_eq_true_eq, decide_eq_true_eq] at z
    have nz : q % x = 0 := Nat.mod_eq_zero_of_dvd hx
    rcases z with z | z
    · have : x ≠ 0 := fun e0 => by
        subst e0
        have := Nat.eq_zero_of_zero_dvd hx
        omega
      omega
    · exact absurd nz z
theorem f61_div {g : Nat} (h : g ∣ f61) (hl : g < f61) : g ∣ f61 / 61 ∨ g ∣ f61 / 151 ∨ g ∣ f61 / 331 ∨ g ∣ f61 / 1321 := by
  obtain ⟨h', e⟩ := h
  have key : ∀ q r, f61 = q * r → 0 < q → q ∣ h' → g ∣ r := by
    rintro q r er hq ⟨k, rfl⟩
    refine ⟨k, ?_⟩
    have : q * r = q * (g * k) := by rw [← er, e]; rw [Nat.mul_left_comm]
    exact Nat.eq_of_mul_eq_mul_left hq this
  have cop : ∀ q, (List.range q).all (fun x => decide (x < 2) || decide (q % x ≠ 0)) = true → 0 < q → ¬ q ∣ h' → Nat.Coprime h' q := by
    intro q hq h0 hn
    have d1 := Nat.gcd_dvd_right h' q
    rcases pr_small hq d1 h0 with z | z
    · exact z
    · exact absurd (z ▸ Nat.gcd_dvd_left h' q) hn
  by_cases c1 : 61 ∣ h'
  · exact .inl (key 61 (f61 / 61) (by decide +kernel) (by decide) c1)
  by_cases c2 : 151 ∣ h'
  · exact .inr (.inl (key 151 (f61 / 151) (by decide +kernel) (by decide) c2))
  by_cases c3 : 331 ∣ h'
  · exact .inr (.inr (.inl (key 331 (f61 / 331) (by decide +kernel) (by decide) c3)))
  by_cases c4 : 1321 ∣ h'
  · exact .inr (.inr (.inr (key 1321 (f61 / 1321) (by decide +kernel) (by decide) c4)))
  exfalso
  have k1 := cop 61 (by decide +kernel) (by decide) c1
  have k2 := cop 151 (by decide +kernel) (by decide) c2
  have k3 := cop 331 (by decide +kernel) (by decide) c3
  have k4 := cop 1321 (by decide +kernel) (by decide) c4
  have k : Nat.Coprime h' f61 := by
    rw [show f61 = 61 * 151 * 331 * 1321 by decide +kernel]
    exact ((k1.mul_right k2).mul_right k3).mul_right k4
  have d : h' ∣ f61 := ⟨g, by rw [e, Nat.mul_comm]⟩
  have e1 : h' = 1 := by
    have z : Nat.gcd h' f61 = h' := Nat.gcd_eq_left d
    have z2 : Nat.gcd h' f61 = 1 := k
    omega
  rw [e1, Nat.mul_one] at e
  omega
theorem len_pow {b d F : Nat} (hd : 0 < d) (bF : b ^ F % d = 1 % d) (no : ∀ g, g ∣ F → g < F → ¬ b ^ g % d = 1 % d) : F ≤ d := by
  have nd : ((List.range F).map fun i => b ^ i % d).Nodup := by
    have key : ∀ i j, i < j → j < F → b ^ i % d ≠ b ^ j % d := by
      intro i j hij hj e
      have e2 : b ^ (F + (j - i)) % d = b ^ F % d := by
        have a1 : b ^ (F + (j - i)) = b ^ (F - i) * b ^ j := by rw [← Nat.pow_add]; congr 1; omega
        have a2 : b ^ F = b ^ (F - i) * b ^ i := by rw [← Nat.pow_add]; congr 1; omega
        rw [a1, a2, Nat.mul_mod, ← e, ← Nat.mul_mod]
      rw [Nat.pow_add, Nat.mul_mod, bF, ← Nat.mul_mod, Nat.one_mul] at e2
      have e3 := pow_gcd_mod (j - i) F e2 bF
      have g1 := Nat.gcd_dvd_left (j - i) F
      have g3 := Nat.le_of_dvd (by omega) g1
      exact no _ (Nat.gcd_dvd_right (j - i) F) (by omega) e3
    rw [List.Nodup, List.pairwise_map]
    refine List.Pairwise.imp_of_mem ?_ List.pairwise_lt_range
    intro i j hi hj hij
    exact key i j hij (List.mem_range.mp hj)
  have := nd.length_le_of_subset (l₂ := List.range d) fun x hx => by
    obtain ⟨i, _, rfl⟩ := List.mem_map.mp hx
    exact List.mem_range.mpr (Nat.mod_lt _ hd)
  rw [List.length_map, List.length_range, List.length_range] at this
  exact this
theorem big_div {d : Nat} (h : d ∣ p61) (h1 : 1 < d) : f61 ≤ d := by
  have one : 1 % d = 1 := Nat.mod_eq_of_lt h1
  have bF : bs61 ^ f61 % d = 1 % d := by
    have z := pwB_mod bs61 p61 (bits 33 f61) 1 0 rfl
    rw [show vlB (bits 33 f61) 0 = f61 by decide +kernel, show pwB bs61 p61 (bits 33 f61) 1 = 1 by decide +kernel] at z
    exact (mod_of_dvd h z).symm
  have no : ∀ q, Nat.gcd (pwB bs61 p61 (bits 33 (f61 / q)) 1 + p61 - 1) p61 = 1 → vlB (bits 33 (f61 / q)) 0 = f61 / q → ¬ bs61 ^ (f61 / q) % d = 1 % d := by
    intro q hg hv hb
    have z := pwB_mod bs61 p61 (bits 33 (f61 / q)) 1 0 rfl
    rw [hv] at z
    have z2 := (mod_of_dvd h z).trans hb
    generalize pwB bs61 p61 (bits 33 (f61 / q)) 1 = X at hg z z2
    have dd : d ∣ X + p61 - 1 := by
      refine Nat.dvd_of_mod_eq_zero ?_
      obtain ⟨k, hk⟩ := h
      have hk0 : 0 < k := Nat.pos_of_ne_zero fun e => by
        rw [e, Nat.mul_zero] at hk
        exact absurd hk (by decide +kernel)
      have := Nat.div_add_mod X d
      rw [z2, one] at this
      rw [← this, hk]
      have : d * (X / d) + 1 + d * k - 1 = d * (X / d + k) := by rw [Nat.mul_add]; omega
      rw [this]
      exact Nat.mul_mod_right ..
    have : d ∣ 1 := hg ▸ Nat.dvd_gcd dd h
    have := Nat.le_of_dvd (by decide) this
    omega
  have n1 := no 61 (by decide +kernel) (by decide +kernel)
  have n2 := no 151 (by decide +kernel) (by decide +kernel)
  have n3 := no 331 (by decide +kernel) (by decide +kernel)
  have n4 := no 1321 (by decide +kernel) (by decide +kernel)
  have hpow : ∀ x y, x ∣ y → bs61 ^ x % d = 1 % d → bs61 ^ y % d = 1 % d := by
    rintro x y ⟨k, rfl⟩ hx
    rw [Nat.pow_mul, Nat.pow_mod, hx, ← Nat.pow_mod, Nat.one_pow]
  refine len_pow (b := bs61) (by omega) bF fun g g2 gl e3 => ?_
  rcases f61_div g2 gl with z | z | z | z
  · exact n1 (hpow _ _ z e3)
  · exact n2 (hpow _ _ z e3)
  · exact n3 (hpow _ _ z e3)
  · exact n4 (hpow _ _ z e3)
theorem prime61 {d : Nat} (h : d ∣ p61) : d = 1 ∨ d = p61 := by
  obtain ⟨e, he⟩ := h
  by_cases h1 : d ≤ 1
  · rcases (show d = 0 ∨ d = 1 by omega) with rfl | rfl
    · rw [Nat.zero_mul] at he
      exact absurd he (by decide +kernel)
    · exact .inl rfl
  by_cases h2 : e ≤ 1
  · rcases (show e = 0 ∨ e = 1 by omega) with rfl | rfl
    · rw [Nat.mul_zero] at he
      exact absurd he (by decide +kernel)
    · exact .inr (by rw [he, Nat.mul_one])
  have a := big_div ⟨e, he⟩ (by omega)
  have b := big_div (d := e) ⟨d, by rw [he, Nat.mul_comm]⟩ (by omega)
  have c := Nat.mul_le_mul a b
  rw [← he] at c
  exact absurd c (by decide +kernel)
theorem euclid61 {a b : Int} (h : (p61 : Int) ∣ a * b) : (p61 : Int) ∣ a ∨ (p61 : Int) ∣ b := by
  have h' : p61 ∣ a.natAbs * b.natAbs := by
    rw [← Int.natAbs_mul]
    exact Int.ofNat_dvd_left.mp h
  rcases prime61 (Nat.gcd_dvd_left p61 a.natAbs) with z | z
  · exact .inr (Int.ofNat_dvd_left.mpr (Nat.Coprime.dvd_of_dvd_mul_left z h'))
  · exact .inl (Int.ofNat_dvd_left.mpr (z ▸ Nat.gcd_dvd_right p61 a.natAbs))
end Pm
end Ev

/-! ## Rows stay small; all pivots; what is left of the row of ones -/
namespace Ev
namespace Pm
def BN : Nat := 13 ^ 12
theorem sieg_ok {R r : Nat} (h1 : 1 ≤ R) (h : R ≤ 13) (hr : r < R) : (R * BN + 1) ^ r < (BN + 1) ^ R := by
  have a : R * BN + 1 ≤ R * (BN + 1) := by rw [Nat.mul_succ]; omega
  have b : (R * BN + 1) ^ r ≤ (R * (BN + 1)) ^ r := Nat.pow_le_pow_left a r
  rw [Nat.mul_pow] at b
  have c : R ^ r ≤ 13 ^ 12 := Nat.le_trans (Nat.pow_le_pow_left h r) (Nat.pow_le_pow_right (by decide) (by omega))
  have d : R ^ r * (BN + 1) ^ r < (BN + 1) ^ (r + 1) := by
    rw [Nat.pow_succ, Nat.mul_comm ((BN + 1) ^ r)]
    exact Nat.mul_lt_mul_of_pos_right (show R ^ r < BN + 1 from Nat.lt_succ_of_le c) (Nat.pow_pos (Nat.succ_pos _))
  exact Nat.lt_of_le_of_lt b (Nat.lt_of_lt_of_le d (Nat.pow_le_pow_right (Nat.succ_pos _) hr))
theorem mask_sum {M : Nat} {J : List Nat} {c : Nat → Int} {f : Nat → Int} (hn : J.Nodup) (hJ : ∀ x ∈ J, x < M) (hc : ∀ x, x ∉ J → c x = 0) : sumN M (fun j => c j * f j) = (J.map fun x => c x * f x).sum := by
  rw [← sumN_mask (fun x => c x * f x) hn hJ]
  refine sumN_congr fun j _ => ?_
  by_cases h : j ∈ J
  · rw [if_pos h]
  · rw [if_neg h, hc j h, Int.zero_mul]
section
variable {n M k : Nat} {ind : Nat → Nat → Nat} {J : List Nat} {pv : List (Nat × List Int)}
theorem PInv.bound_row (I : PInv n M ind k J pv) (hk : k ≤ M) (hA : ∀ j t, ind j t ≤ 1) (hJ : J.length ≤ 13) {q : Nat × List Int} (hq : q ∈ pv) : ∀ j, j < M → (gd q.2 (n + j)).natAbs ≤ BN := by
  have Q := I.row q hq
  have hF : (pv.filter fun s => s.1 ≠ q.1).length < J.length := by
    rw [I.len]
    exact List.length_filter_lt_length_iff_exists.mpr ⟨q, hq, by simp⟩
  obtain ⟨c, c1, c2, c3, c4⟩ := siegel I.jn (fun i x => ind x ((pv.filter fun s => s.1 ≠ q.1)[i]?.getD (0, [])).1) (fun i x => hA _ _) (sieg_ok (by omega) hJ hF)
  have hM : ∀ x ∈ J, x < M := fun x hx => by have := I.jk x hx; omega
  have other : ∀ s ∈ pv, s.1 ≠ q.1 → sumN M (fun j => c j * (ind j s.1 : Int)) = 0 := fun s hs ne => by
    obtain ⟨i, hi, e⟩ := List.mem_iff_getElem.mp (show s ∈ pv.filter fun s => s.1 ≠ q.1 from List.mem_filter.mpr ⟨hs, by simpa using ne⟩)
    have := c4 i hi
    rw [List.getElem?_eq_getElem hi, e] at this
    rw [mask_sum I.jn hM c1]
    exact this
  have key : ∀ j, gd q.2 q.1 * c j - (sumN M fun j => c j * (ind j q.1 : Int)) * gd q.2 (n + j) = 0 := by
    refine I.free (fun j => gd q.2 q.1 * c j - (sumN M fun j => c j * (ind j q.1 : Int)) * gd q.2 (n + j)) (fun j hj => ?_) (fun s hs => ?_)
    · show gd q.2 q.1 * c j - _ * gd q.2 (n + j) = 0
      rw [c1 j hj, Q.out j hj, Int.mul_zero, Int.mul_zero, Int.sub_self]
    · have S := I.row s hs
      have e1 := sumN_lin (gd q.2 q.1) (sumN M fun j => c j * (ind j q.1 : Int)) (fun j => c j * (ind j s.1 : Int)) (fun j => gd q.2 (n + j) * (ind j s.1 : Int)) M
      rw [← Q.comb s.1 S.pl] at e1
      have e2 : sumN M (fun i => (gd q.2 q.1 * c i - (sumN M fun j => c j * (ind j q.1 : Int)) * gd q.2 (n + i)) * (ind i s.1 : Int)) = sumN M fun i => gd q.2 q.1 * (c i * (ind i s.1 : Int)) - (sumN M fun j => c j * (ind j q.1 : Int)) * (gd q.2 (n + i) * (ind i s.1 : Int)) := sumN_congr fun i _ => by grind
      rw [e2, e1]
      by_cases e : s.1 = q.1
      · rw [e, Int.mul_comm, Int.sub_self]
      · have hz : gd q.2 s.1 = 0 := by
          have := I.off
          rcases List.mem_iff_getElem.mp hq with ⟨a, ha, rfl⟩
          rcases List.mem_iff_getElem.mp hs with ⟨b, hb, rfl⟩
          rcases Nat.lt_trichotomy a b with h | h | h
          · exact (List.pairwise_iff_getElem.mp this a b ha hb h).2.1
          · subst h
            exact absurd rfl e
          · exact (List.pairwise_iff_getElem.mp this b a hb ha h).2.2
        rw [other s hs e, hz, Int.mul_zero, Int.mul_zero, Int.sub_zero]
  obtain ⟨x, hx, nx⟩ := c2
  exact prim_bound (c := c) (v := fun j => gd q.2 (n + j)) (δ := sumN M fun j => c j * (ind j q.1 : Int)) Q.pos (fun j _ => by have := key j; omega) (fun d hd => Prim.parts Q.comb Q.prim hd) ⟨x, hM x hx, nx⟩ c3
theorem PInv.bound_clr (I : PInv n M ind k J pv) (hA : ∀ j t, ind j t ≤ 1) {a : Nat} (hJ : J.length ≤ 12) (hk : k ≤ a) (hM : a < M) {v : List Int} (C : CRow n M ind J a v) (hz : ∀ q ∈ pv, gd v q.1 = 0) : ∀ j, j < M → (gd v (n + j)).natAbs ≤ BN := by
  have na : a ∉ J := fun h => by
    have := I.jk a h
    omega
  have hn : (a :: J).Nodup := List.nodup_cons.mpr ⟨na, I.jn⟩
  obtain ⟨c, c1, c2, c3, c4⟩ := siegel hn (r := pv.length) (fun i x => ind x (pv[i]?.getD (0, [])).1) (fun i x => hA _ _) (sieg_ok (Nat.succ_pos _) (by rw [List.length_cons]; omega) (by rw [List.length_cons, I.len]; omega))
  have hM' : ∀ x ∈ a :: J, x < M := fun x hx => by
    rcases List.mem_cons.mp hx with rfl | hx
    · exact hM
    · have := I.jk x hx
      omega
  have other : ∀ s ∈ pv, sumN M (fun j => c j * (ind j s.1 : Int)) = 0 := fun s hs => by
    obtain ⟨i, hi, e⟩ := List.mem_iff_getElem.mp hs
    have := c4 i hi
    rw [List.getElem?_eq_getElem hi, e] at this
    rw [mask_sum hn hM' c1]
    exact this
  have key : ∀ j, gd v (n + a) * c j - c a * gd v (n + j) = 0 := by
    refine I.free (fun j => gd v (n + a) * c j - c a * gd v (n + j)) (fun j hj => ?_) (fun s hs => ?_)
    · show gd v (n + a) * c j - c a * gd v (n + j) = 0
      by_cases e : j = a
      · subst e
        rw [Int.mul_comm, Int.sub_self]
      · rw [c1 j (fun h => (List.mem_cons.mp h).elim e hj), C.out j hj e, Int.mul_zero, Int.mul_zero, Int.sub_self]
    · have S := I.row s hs
      have e1 := sumN_lin (gd v (n + a)) (c a) (fun j => c j * (ind j s.1 : Int)) (fun j => gd v (n + j) * (ind j s.1 : Int)) M
      rw [← C.comb s.1 S.pl, other s hs, hz s hs, Int.mul_zero, Int.mul_zero, Int.sub_zero] at e1
      rw [← e1]
      exact sumN_congr fun i _ => by grind
  obtain ⟨x, hx, nx⟩ := c2
  exact prim_bound (c := c) (v := fun j => gd v (n + j)) (δ := c a) C.pos (fun j _ => by have := key j; omega) (fun d hd => Prim.parts C.comb C.prim hd) ⟨x, hM' x hx, nx⟩ c3
end
/-- ticks follow from the parts, so they stay small, too -/
theorem comb_bound {n M : Nat} {ind : Nat → Nat → Nat} {v : List Int} (hc : Comb n M ind v) (hA : ∀ j t, ind j t ≤ 1) {B : Nat} (h : ∀ j, j < M → (gd v (n + j)).natAbs ≤ B) (hM : M ≤ 13) (i : Nat) (hl : v.length = n + M) : (gd v i).natAbs ≤ 13 * B := by
  by_cases c : i < n
  · rw [hc i c]
    have a := sumN_abs (f := fun j => gd v (n + j) * (ind j i : Int)) (B := B) (k := M) fun j hj => by
      rw [Int.natAbs_mul]
      have h1 := h j hj
      have h2 := hA j i
      have h3 : (gd v (n + j)).natAbs * ((ind j i : Nat) : Int).natAbs ≤ B * 1 := Nat.mul_le_mul h1 (by omega)
      omega
    have b := Nat.mul_le_mul_right B hM
    omega
  · by_cases d : i < n + M
    · have := h (i - n) (by omega)
      rw [show n + (i - n) = i by omega] at this
      omega
    · rw [gd_out (by omega)]
      exact Nat.zero_le _
theorem bn_p61 : 13 * BN < p61 := by decide +kernel
theorem no_p61 {z : Int} (h0 : z ≠ 0) (h : z.natAbs ≤ 13 * BN) : ¬ (p61 : Int) ∣ z := fun d => by
  have := Nat.le_of_dvd (by omega) (Int.ofNat_dvd_left.mp d)
  have := bn_p61
  omega
/-! ### all pivots -/
def pvs1 (n M : Nat) (ind : Nat → Nat → Nat) (pv : List (Nat × List Int)) (k : Nat) : List (Nat × List Int) :=
  match fst0 ((clr (crow n M ind k) pv).take n) with
  | none => pv
  | some pl => pv.map (fun q => (q.1, wth q.2 (sgn (clr (crow n M ind k) pv) pl) pl)) ++ [(pl, sgn (clr (crow n M ind k) pv) pl)]
def pvs (n M : Nat) (ind : Nat → Nat → Nat) : Nat → List (Nat × List Int)
  | 0 => []
  | k + 1 => pvs1 n M ind (pvs n M ind k) k
theorem PInv.step {n M k : Nat} {ind : Nat → Nat → Nat} {J : List Nat} {pv : List (Nat × List Int)} (I : PInv n M ind k J pv) (hM : k < M) : ∃ J', PInv n M ind (k + 1) J' (pvs1 n M ind pv k) := by
  unfold pvs1
  have hl : n ≤ (Pm.clr (crow n M ind k) pv).length := by
    rw [(I.clr (Nat.le_refl k) hM).1.len]
    omega
  cases h : fst0 ((Pm.clr (crow n M ind k) pv).take n) with
  | none => exact ⟨J, I.skip hM fun t ht => by rw [← gd_take ht]; exact fst0_none h t⟩
  | some pl =>
    obtain ⟨h1, h2, _⟩ := fst0_some h
    rw [List.length_take] at h1
    rw [gd_take (by omega)] at h2
    exact ⟨_, I.add hM (by omega) h2⟩
theorem pvs_inv {n M : Nat} {ind : Nat → Nat → Nat} : ∀ {k : Nat}, k ≤ M → ∃ J, PInv n M ind k J (pvs n M ind k)
  | 0, _ => ⟨[], .nil⟩
  | k + 1, h => by
    obtain ⟨J, I⟩ := pvs_inv (show k ≤ M by omega)
    exact I.step (by omega)
theorem PInv.len_k {n M k : Nat} {ind : Nat → Nat → Nat} {J : List Nat} {pv : List (Nat × List Int)} (I : PInv n M ind k J pv) : J.length ≤ k := by
  have := I.jn.length_le_of_subset (l₂ := List.range k) fun x hx => List.mem_range.mpr (I.jk x hx)
  rwa [List.length_range] at this
end Pm
end Ev

/-! ## Ranks modulo 2 ** 61 - 1, row by row -/
namespace Ev
namespace Pm
abbrev pI : Int := 2305843009213693951
theorem pI_eq : pI = (p61 : Int) := rfl
theorem eucl {a b : Int} (h : pI ∣ a * b) : pI ∣ a ∨ pI ∣ b := euclid61 h
def lcl (r P : List Int) (c : Nat) : List Int := List.zipWith (fun a b => (a * gd P c - b * gd r c) % pI) r P
structure Rd (n : Nat) (r : List Int) : Prop where
  len : r.length = n
  red : ∀ t, t < n → 0 ≤ gd r t ∧ gd r t < pI
theorem gd_eq {r : List Int} {i : Nat} (h : i < r.length) : gd r i = r[i] := by
  unfold gd
  rw [List.getD_eq_getElem?_getD, List.getElem?_eq_getElem h]
  rfl
theorem gd_lcl {r P : List Int} {c n i : Nat} (hr : r.length = n) (hp : P.length = n) (hi : i < n) : gd (lcl r P c) i = (gd r i * gd P c - gd P i * gd r c) % pI := by
  have h : (lcl r P c)[i]? = some ((gd r i * gd P c - gd P i * gd r c) % pI) := by
    unfold lcl
    rw [List.getElem?_zipWith, List.getElem?_eq_getElem (show i < r.length by omega), List.getElem?_eq_getElem (show i < P.length by omega), gd_eq (show i < r.length by omega), gd_eq (show i < P.length by omega)]
  show (lcl r P c).getD i 0 = _
  rw [List.getD_eq_getElem?_getD, h]
  rfl
theorem Rd.lcl {r P : List Int} {c n : Nat} (hr : r.length = n) (hp : P.length = n) : Rd n (lcl r P c) := by
  refine ⟨by unfold Pm.lcl; rw [List.length_zipWith, hr, hp, Nat.min_self], fun t ht => ?_⟩
  rw [gd_lcl hr hp ht]
  exact ⟨Int.emod_nonneg _ (by decide), Int.emod_lt_of_pos _ (by decide)⟩
theorem lcl_dvd {r P : List Int} {c n i : Nat} (hr : r.length = n) (hp : P.length = n) (hi : i < n) : pI ∣ gd (lcl r P c) i - (gd r i * gd P c - gd P i * gd r c) := by
  rw [gd_lcl hr hp hi]
  exact ⟨-((gd r i * gd P c - gd P i * gd r c) / pI), by
    have := Int.mul_ediv_add_emod (gd r i * gd P c - gd P i * gd r c) pI
    rw [Int.mul_neg]
    omega⟩
theorem Rd.no {n : Nat} {r : List Int} (h : Rd n r) {t : Nat} (ht : t < n) (nz : gd r t ≠ 0) : ¬ pI ∣ gd r t := fun d => by
  obtain ⟨h1, h2⟩ := h.red t ht
  have := Int.le_of_dvd (by omega) d
  omega
theorem Rd.zero {n : Nat} {r : List Int} (h : Rd n r) {t : Nat} (ht : t < n) (d : pI ∣ gd r t) : gd r t = 0 := Classical.byContradiction fun nz => h.no ht nz d
def pk (c : Nat) : List (List Int) → Option (List Int × List (List Int))
  | [] => none
  | r :: L => if gd r c ≠ 0 then some (r, L) else (pk c L).map fun x => (x.1, r :: x.2)
def lrk : List Nat → List (List Int) → Nat
  | [], _ => 0
  | c :: cs, L => match pk c L with
    | none => lrk cs L
    | some (P, R) => lrk cs (R.map fun r => lcl r P c) + 1
theorem pk_none {c : Nat} : ∀ {L : List (List Int)}, pk c L = none → ∀ r ∈ L, gd r c = 0
  | [], _, _, h => absurd h List.not_mem_nil
  | r :: L, h, x, hx => by
    rw [pk] at h
    by_cases e : gd r c ≠ 0
    · rw [if_pos e] at h
      cases h
    · rw [if_neg e] at h
      rcases List.mem_cons.mp hx with rfl | hx
      · exact Classical.not_not.mp e
      · exact pk_none (Option.map_eq_none_iff.mp h) x hx
theorem pk_some {c : Nat} {P : List Int} : ∀ {L R : List (List Int)}, pk c L = some (P, R) → P ∈ L ∧ gd P c ≠ 0 ∧ ∀ r ∈ R, r ∈ L
  | [], _, h => by cases h
  | r :: L, R, h => by
    rw [pk] at h
    by_cases e : gd r c ≠ 0
    · rw [if_pos e] at h
      cases h
      exact ⟨List.mem_cons_self .., e, fun x hx => List.mem_cons_of_mem _ hx⟩
    · rw [if_neg e] at h
      obtain ⟨⟨P', R'⟩, h1, h2⟩ := Option.map_eq_some_iff.mp h
      cases h2
      obtain ⟨a, b, d⟩ := pk_some h1
      refine ⟨List.mem_cons_of_mem _ a, b, fun x hx => ?_⟩
      rcases List.mem_cons.mp hx with rfl | hx
      · exact List.mem_cons_self ..
      · exact List.mem_cons_of_mem _ (d x hx)
theorem pk_app_some {c : Nat} {P u : List Int} : ∀ {L R : List (List Int)}, pk c L = some (P, R) → pk c (L ++ [u]) = some (P, R ++ [u])
  | [], _, h => by cases h
  | r :: L, R, h => by
    rw [pk] at h
    rw [List.cons_append, pk]
    by_cases e : gd r c ≠ 0
    · rw [if_pos e] at h ⊢
      cases h
      rfl
    · rw [if_neg e] at h ⊢
      obtain ⟨⟨P', R'⟩, h1, h2⟩ := Option.map_eq_some_iff.mp h
      cases h2
      rw [pk_app_some h1]
      rfl
theorem pk_app_none {c : Nat} {u : List Int} : ∀ {L : List (List Int)}, pk c L = none → pk c (L ++ [u]) = if gd u c ≠ 0 then some (u, L) else none
  | [], _ => by
    rw [List.nil_append, pk]
    by_cases e : gd u c ≠ 0
    · rw [if_pos e, if_pos e]
    · rw [if_neg e, if_neg e]
      rfl
  | r :: L, h => by
    rw [pk] at h
    rw [List.cons_append, pk]
    by_cases e : gd r c ≠ 0
    · rw [if_pos e] at h
      cases h
    · rw [if_neg e] at h ⊢
      rw [pk_app_none (Option.map_eq_none_iff.mp h)]
      by_cases e : gd u c ≠ 0
      · rw [if_pos e, if_pos e]
        rfl
      · rw [if_neg e, if_neg e]
        rfl
/-! ### rows that are others' multiples -/
def Sc (n : Nat) (r' r : List Int) : Prop := Rd n r' ∧ Rd n r ∧ ∃ s : Int, ¬ pI ∣ s ∧ ∀ t, t < n → pI ∣ gd r' t - s * gd r t
def ScL (n : Nat) : List (List Int) → List (List Int) → Prop
  | [], [] => True
  | r' :: L', r :: L => Sc n r' r ∧ ScL n L' L
  | _, _ => False
theorem Sc.nz {n : Nat} {r' r : List Int} (h : Sc n r' r) {c : Nat} (hc : c < n) : gd r' c ≠ 0 ↔ gd r c ≠ 0 := by
  obtain ⟨a, b, s, hs, h⟩ := h
  have h := h c hc
  constructor
  · intro z e
    rw [e, Int.mul_zero, Int.sub_zero] at h
    exact z (a.zero hc h)
  · intro z e
    rw [e, Int.zero_sub] at h
    rcases eucl (Int.dvd_neg.mp h) with d | d
    · exact hs d
    · exact z (b.zero hc d)
theorem Sc.lcl {n c : Nat} {r' r P' P : List Int} (hc : c < n) (h : Sc n r' r) (k : Sc n P' P) : Sc n (lcl r' P' c) (lcl r P c) := by
  obtain ⟨a, b, s, hs, h⟩ := h
  obtain ⟨a', b', s', hs', h'⟩ := k
  refine ⟨.lcl a.len a'.len, .lcl b.len b'.len, s * s', fun d => (eucl d).elim hs hs', fun t ht => ?_⟩
  have e1 := lcl_dvd (c := c) a.len a'.len ht
  have e2 := lcl_dvd (c := c) b.len b'.len ht
  obtain ⟨k1, e1⟩ := e1
  obtain ⟨k2, e2⟩ := e2
  obtain ⟨x1, f1⟩ := h t ht
  obtain ⟨x2, f2⟩ := h c hc
  obtain ⟨y1, g1⟩ := h' t ht
  obtain ⟨y2, g2⟩ := h' c hc
  refine ⟨k1 + x1 * gd P' c + s * gd r t * y2 - (y1 * gd r' c + s' * gd P t * x2) - s * s' * k2, ?_⟩
  grind
theorem pk_sc {n c : Nat} (hc : c < n) : ∀ {L' L : List (List Int)}, ScL n L' L → (pk c L' = none ∧ pk c L = none) ∨ ∃ P' R' P R, pk c L' = some (P', R') ∧ pk c L = some (P, R) ∧ Sc n P' P ∧ ScL n R' R
  | [], [], _ => .inl ⟨rfl, rfl⟩
  | [], r :: L, h => h.elim
  | r' :: L', [], h => h.elim
  | r' :: L', r :: L, ⟨h1, h2⟩ => by
    rw [pk, pk]
    by_cases e : gd r c ≠ 0
    · rw [if_pos e, if_pos ((h1.nz hc).mpr e)]
      exact .inr ⟨_, _, _, _, rfl, rfl, h1, h2⟩
    · rw [if_neg e, if_neg fun z => e ((h1.nz hc).mp z)]
      rcases pk_sc hc h2 with ⟨a, b⟩ | ⟨P', R', P, R, a, b, x, y⟩
      · rw [a, b]
        exact .inl ⟨rfl, rfl⟩
      · rw [a, b]
        exact .inr ⟨P', r' :: R', P, r :: R, rfl, rfl, x, h1, y⟩
theorem ScL.map {n c : Nat} (hc : c < n) {P' P : List Int} (k : Sc n P' P) : ∀ {L' L : List (List Int)}, ScL n L' L → ScL n (L'.map fun r => lcl r P' c) (L.map fun r => lcl r P c)
  | [], [], _ => trivial
  | [], r :: L, h => h.elim
  | r' :: L', [], h => h.elim
  | r' :: L', r :: L, ⟨h1, h2⟩ => ⟨h1.lcl hc k, ScL.map hc k h2⟩
theorem lrk_sc {n : Nat} : ∀ {cs : List Nat}, (∀ c ∈ cs, c < n) → ∀ {L' L : List (List Int)}, ScL n L' L → lrk cs L' = lrk cs L
  | [], _, _, _, _ => rfl
  | c :: cs, hc, L', L, h => by
    have h0 := hc c (List.mem_cons_self ..)
    have h1 : ∀ c ∈ cs, c < n := fun c h => hc c (List.mem_cons_of_mem _ h)
    rw [lrk, lrk]
    rcases pk_sc h0 h with ⟨a, b⟩ | ⟨P', R', P, R, a, b, x, y⟩
    · rw [a, b]
      exact lrk_sc h1 h
    · rw [a, b]
      show lrk cs _ + 1 = lrk cs _ + 1
      rw [lrk_sc h1 (y.map h0 x)]
theorem scl_mul {n c : Nat} {u : List Int} (hc : c < n) (hu : Rd n u) (nz : gd u c ≠ 0) : ∀ {L : List (List Int)}, (∀ r ∈ L, Rd n r ∧ gd r c = 0) → ScL n (L.map fun r => lcl r u c) L
  | [], _ => trivial
  | r :: L, h => by
    obtain ⟨a, b⟩ := h r (List.mem_cons_self ..)
    refine ⟨⟨.lcl a.len hu.len, a, gd u c, hu.no hc nz, fun t ht => ?_⟩, scl_mul hc hu nz fun x hx => h x (List.mem_cons_of_mem _ hx)⟩
    have := lcl_dvd (c := c) a.len hu.len ht
    rw [b, Int.mul_zero, Int.sub_zero, Int.mul_comm (gd r t)] at this
    exact this
/-! ### what is a sum of multiples of rows -/
def Sp (n : Nat) : List (List Int) → (Nat → Int) → Prop
  | [], f => ∀ t, t < n → pI ∣ f t
  | r :: L, f => ∃ b : Int, Sp n L fun t => f t - b * gd r t
theorem Sp.congr {n : Nat} : ∀ {L : List (List Int)} {f g : Nat → Int}, Sp n L f → (∀ t, t < n → pI ∣ g t - f t) → Sp n L g
  | [], f, g, h, e => fun t ht => by
    have := Int.dvd_add (e t ht) (h t ht)
    rwa [Int.sub_add_cancel] at this
  | r :: L, f, g, ⟨b, h⟩, e => ⟨b, Sp.congr h fun t ht => by
    have := e t ht
    rwa [show g t - b * gd r t - (f t - b * gd r t) = g t - f t by omega]⟩
theorem Sp.zero {n c : Nat} (hc : c < n) : ∀ {L : List (List Int)} {f : Nat → Int}, Sp n L f → (∀ r ∈ L, gd r c = 0) → pI ∣ f c
  | [], f, h, _ => h c hc
  | r :: L, f, ⟨b, h⟩, hz => by
    have := Sp.zero hc h fun x hx => hz x (List.mem_cons_of_mem _ hx)
    rwa [hz r (List.mem_cons_self ..), Int.mul_zero, Int.sub_zero] at this
theorem Sp.pk {n c : Nat} {P : List Int} : ∀ {L R : List (List Int)} {f : Nat → Int}, Sp n L f → pk c L = some (P, R) → ∃ b : Int, Sp n R fun t => f t - b * gd P t
  | [], _, _, _, h => by cases h
  | r :: L, R, f, ⟨b, h⟩, e => by
    rw [Pm.pk] at e
    by_cases z : gd r c ≠ 0
    · rw [if_pos z] at e
      cases e
      exact ⟨b, h⟩
    · rw [if_neg z] at e
      obtain ⟨⟨P', R'⟩, h1, h2⟩ := Option.map_eq_some_iff.mp e
      cases h2
      obtain ⟨b', h'⟩ := Sp.pk h h1
      refine ⟨b', b, h'.congr fun t _ => ?_⟩
      rw [show f t - b' * gd P' t - b * gd r t - (f t - b * gd r t - b' * gd P' t) = 0 by omega]
      exact Int.dvd_zero _
theorem Sp.lcl {n c : Nat} (hc : c < n) {P : List Int} (hP : P.length = n) : ∀ {R : List (List Int)} {f : Nat → Int}, (∀ r ∈ R, r.length = n) → Sp n R f → Sp n (R.map fun r => lcl r P c) fun t => f t * gd P c - gd P t * f c
  | [], f, _, h => fun t ht => Int.dvd_sub (Int.dvd_trans (h t ht) (Int.dvd_mul_right ..)) (Int.dvd_trans (h c hc) (Int.dvd_mul_left ..))
  | r :: R, f, hl, ⟨b, h⟩ => ⟨b, (Sp.lcl hc hP (fun x hx => hl x (List.mem_cons_of_mem _ hx)) h).congr fun t ht => by
    obtain ⟨k, e⟩ := lcl_dvd (c := c) (hl r (List.mem_cons_self ..)) hP ht
    refine ⟨-(b * k), ?_⟩
    grind⟩
theorem lrk_same {n : Nat} {a : Int} (ha : ¬ pI ∣ a) : ∀ {cs : List Nat}, (∀ c ∈ cs, c < n) → ∀ {L : List (List Int)} {u : List Int}, (∀ r ∈ L, r.length = n) → Rd n u → Sp n L (fun t => a * gd u t) → lrk cs (L ++ [u]) = lrk cs L
  | [], _, _, _, _, _, _ => rfl
  | c :: cs, hc, L, u, hl, hu, h => by
    have h0 := hc c (List.mem_cons_self ..)
    have h1 : ∀ c ∈ cs, c < n := fun c h => hc c (List.mem_cons_of_mem _ h)
    rw [lrk, lrk]
    cases e : pk c L with
    | none =>
      have uz : gd u c = 0 := hu.zero h0 ((eucl (h.zero h0 (pk_none e))).resolve_left ha)
      rw [pk_app_none e, if_neg (Classical.not_not.mpr uz)]
      exact lrk_same ha h1 hl hu h
    | some x =>
      obtain ⟨P, R⟩ := x
      obtain ⟨i1, i2, i3⟩ := pk_some e
      rw [pk_app_some e]
      show lrk cs ((R ++ [u]).map _) + 1 = lrk cs _ + 1
      rw [List.map_append]
      have hP := hl P i1
      obtain ⟨b, hb⟩ := h.pk e
      have hR : ∀ r ∈ R, r.length = n := fun r hr => hl r (i3 r hr)
      have s := Sp.lcl h0 hP hR hb
      congr 1
      refine lrk_same ha h1 (L := R.map fun r => lcl r P c) (u := lcl u P c) (fun r hr => ?_) (.lcl hu.len hP) (s.congr fun t ht => ?_)
      · obtain ⟨r', h', rfl⟩ := List.mem_map.mp hr
        exact (Rd.lcl (hR r' h') hP).len
      · obtain ⟨k, ek⟩ := lcl_dvd (c := c) hu.len hP ht
        refine ⟨a * k, ?_⟩
        grind
theorem lrk_diff {n : Nat} (x : Nat → Int) : ∀ {cs : List Nat}, (∀ c ∈ cs, c < n) → ∀ {L : List (List Int)} {u : List Int}, (∀ r ∈ L, Rd n r) → Rd n u → (∀ r ∈ L, pI ∣ dot n r x) → ¬ pI ∣ dot n u x → (∀ t, t < n → t ∉ cs → pI ∣ gd u t ∧ ∀ r ∈ L, pI ∣ gd r t) → lrk cs (L ++ [u]) = lrk cs L + 1
  | [], _, L, u, _, _, _, h, hz => by
    refine absurd (sumN_dvd fun t ht => ?_) h
    exact Int.dvd_trans (hz t ht List.not_mem_nil).1 (Int.dvd_mul_right ..)
  | c :: cs, hc, L, u, hL, hu, hx, hn, hz => by
    have h0 := hc c (List.mem_cons_self ..)
    have h1 : ∀ c ∈ cs, c < n := fun c h => hc c (List.mem_cons_of_mem _ h)
    have ndot : ∀ {r P : List Int}, r.length = n → P.length = n → pI ∣ dot n (lcl r P c) x - (gd P c * dot n r x - gd r c * dot n P x) := by
      intro r P hr hP
      unfold dot
      rw [← sumN_lin]
      have e : sumN n (fun t => gd (lcl r P c) t * x t) - sumN n (fun i => gd P c * (gd r i * x i) - gd r c * (gd P i * x i)) = sumN n fun t => 1 * (gd (lcl r P c) t * x t) - 1 * (gd P c * (gd r t * x t) - gd r c * (gd P t * x t)) := by
        rw [sumN_lin 1 1 (fun t => gd (lcl r P c) t * x t) (fun t => gd P c * (gd r t * x t) - gd r c * (gd P t * x t)), Int.one_mul, Int.one_mul]
      rw [e]
      refine sumN_dvd fun t ht => ?_
      obtain ⟨k, ek⟩ := lcl_dvd (c := c) hr hP ht
      refine ⟨k * x t, ?_⟩
      grind
    rw [lrk, lrk]
    cases e : pk c L with
    | none =>
      have z := pk_none e
      rw [pk_app_none e]
      by_cases uz : gd u c ≠ 0
      · rw [if_pos uz]
        show lrk cs _ + 1 = lrk cs L + 1
        rw [lrk_sc h1 (scl_mul h0 hu uz fun r hr => ⟨hL r hr, z r hr⟩)]
      · rw [if_neg uz]
        have uz : gd u c = 0 := Classical.not_not.mp uz
        refine lrk_diff x h1 hL hu hx hn fun t ht hm => ?_
        by_cases et : t = c
        · subst et
          rw [uz]
          exact ⟨Int.dvd_zero _, fun r hr => by rw [z r hr]; exact Int.dvd_zero _⟩
        · exact hz t ht fun h => (List.mem_cons.mp h).elim et hm
    | some y =>
      obtain ⟨P, R⟩ := y
      obtain ⟨i1, i2, i3⟩ := pk_some e
      rw [pk_app_some e]
      show lrk cs ((R ++ [u]).map _) + 1 = lrk cs _ + 1 + 1
      rw [List.map_append]
      have hP := hL P i1
      congr 1
      have van : ∀ {r : List Int}, Rd n r → ∀ t, t < n → (t ∉ c :: cs → pI ∣ gd r t) → (t ∉ cs) → pI ∣ gd (lcl r P c) t := by
        intro r hr t ht hd hm
        obtain ⟨k, ek⟩ := lcl_dvd (c := c) hr.len hP.len ht
        by_cases et : t = c
        · subst et
          exact ⟨k, by rw [Int.mul_comm (gd P t), Int.sub_self, Int.sub_zero] at ek; exact ek⟩
        · have hm' : t ∉ c :: cs := fun h => (List.mem_cons.mp h).elim et hm
          obtain ⟨k1, e1⟩ := hd hm'
          obtain ⟨k2, e2⟩ := (hz t ht hm').2 P i1
          refine ⟨k + k1 * gd P c - k2 * gd r c, ?_⟩
          grind
      refine lrk_diff x h1 (L := R.map fun r => lcl r P c) (u := lcl u P c) (fun r hr => ?_) (.lcl hu.len hP.len) (fun r hr => ?_) (fun d => ?_) fun t ht hm => ⟨van hu t ht (fun h => (hz t ht h).1) hm, fun r hr => ?_⟩
      · obtain ⟨r', h', rfl⟩ := List.mem_map.mp hr
        exact .lcl (hL r' (i3 r' h')).len hP.len
      · obtain ⟨r', h', rfl⟩ := List.mem_map.mp hr
        have a := ndot (hL r' (i3 r' h')).len hP.len
        have b : pI ∣ gd P c * dot n r' x - gd r' c * dot n P x := Int.dvd_sub (Int.dvd_trans (hx r' (i3 r' h')) (Int.dvd_mul_left ..)) (Int.dvd_trans (hx P i1) (Int.dvd_mul_left ..))
        have := Int.dvd_add a b
        rwa [Int.sub_add_cancel] at this
      · have a := Int.dvd_sub d (ndot hu.len hP.len)
        rw [show dot n (lcl u P c) x - (dot n (lcl u P c) x - (gd P c * dot n u x - gd u c * dot n P x)) = gd P c * dot n u x - gd u c * dot n P x by omega] at a
        have b : pI ∣ gd u c * dot n P x := Int.dvd_trans (hx P i1) (Int.dvd_mul_left ..)
        have := Int.dvd_add a b
        rw [Int.sub_add_cancel] at this
        rcases eucl this with z | z
        · exact hP.no h0 i2 z
        · exact hn z
      · obtain ⟨r', h', rfl⟩ := List.mem_map.mp hr
        exact van (hL r' (i3 r' h')) t ht (fun h => (hz t ht h).2 r' (i3 r' h')) hm
end Pm
end Ev

/-! ## Weights or a blind pair -/
namespace Ev
namespace Pm
def whl : List (Nat × List Int) → Int → Int
  | [], w => w
  | q :: ps, w => whl ps (w * gd q.2 q.1 / (Nat.gcd w.natAbs (gd q.2 q.1).natAbs : Nat))
theorem whl1 {w d : Int} (hw : 0 < w) (hd : 0 < d) : 0 < w * d / (Nat.gcd w.natAbs d.natAbs : Nat) ∧ w ∣ w * d / (Nat.gcd w.natAbs d.natAbs : Nat) ∧ d ∣ w * d / (Nat.gcd w.natAbs d.natAbs : Nat) ∧ w * d / (Nat.gcd w.natAbs d.natAbs : Nat) ≤ w * d ∧ (¬ pI ∣ w → ¬ pI ∣ d → ¬ pI ∣ w * d / (Nat.gcd w.natAbs d.natAbs : Nat)) := by
  have hg : 0 < Nat.gcd w.natAbs d.natAbs := Nat.gcd_pos_of_pos_left _ (by omega)
  obtain ⟨a, ha⟩ : ((Nat.gcd w.natAbs d.natAbs : Nat) : Int) ∣ w := Int.ofNat_dvd_left.mpr (Nat.gcd_dvd_left ..)
  obtain ⟨b, hb⟩ : ((Nat.gcd w.natAbs d.natAbs : Nat) : Int) ∣ d := Int.ofNat_dvd_left.mpr (Nat.gcd_dvd_right ..)
  have hG : 0 < ((Nat.gcd w.natAbs d.natAbs : Nat) : Int) := by omega
  generalize ((Nat.gcd w.natAbs d.natAbs : Nat) : Int) = G at ha hb hG ⊢
  have e1 : w * d / G = w * b := by
    rw [hb, ← Int.mul_assoc, Int.mul_comm w G, Int.mul_assoc, Int.mul_ediv_cancel_left _ (by omega)]
  have e2 : w * d / G = d * a := by
    rw [ha, Int.mul_assoc, Int.mul_ediv_cancel_left _ (by omega), Int.mul_comm]
  have hb0 : 0 < b := Int.pos_of_mul_pos_right (hb ▸ hd) (by omega)
  have h1 : 0 < w * b := Int.mul_pos hw hb0
  refine ⟨by rw [e1]; exact h1, ⟨b, e1⟩, ⟨a, e2⟩, ?_, fun n1 n2 n3 => ?_⟩
  · rw [e1]
    refine Int.mul_le_mul_of_nonneg_left ?_ (by omega)
    have : 1 * b ≤ G * b := Int.mul_le_mul_of_nonneg_right (by omega) (by omega)
    omega
  · rw [e1] at n3
    rcases eucl n3 with z | z
    · exact n1 z
    · exact n2 (hb ▸ Int.dvd_trans z (Int.dvd_mul_left ..))
theorem whl_spec {B : Nat} : ∀ {ps : List (Nat × List Int)} {w : Int}, 0 < w → (∀ q ∈ ps, 0 < gd q.2 q.1) → 0 < whl ps w ∧ w ∣ whl ps w ∧ (∀ q ∈ ps, gd q.2 q.1 ∣ whl ps w) ∧ (¬ pI ∣ w → (∀ q ∈ ps, ¬ pI ∣ gd q.2 q.1) → ¬ pI ∣ whl ps w) ∧ ((∀ q ∈ ps, (gd q.2 q.1).natAbs ≤ B) → (whl ps w).natAbs ≤ w.natAbs * B ^ ps.length)
  | [], w, h, _ => ⟨h, Int.dvd_refl _, fun _ h => absurd h List.not_mem_nil, fun h _ => h, fun _ => by rw [List.length_nil, Nat.pow_zero, Nat.mul_one]; exact Nat.le_refl _⟩
  | q :: ps, w, h, hq => by
    have q0 := hq q (List.mem_cons_self ..)
    obtain ⟨a1, a2, a3, a4, a5⟩ := whl1 h q0
    obtain ⟨b1, b2, b3, b4, b5⟩ := whl_spec (B := B) (ps := ps) a1 fun q hq' => hq q (List.mem_cons_of_mem _ hq')
    rw [whl]
    refine ⟨b1, Int.dvd_trans a2 b2, fun p hp => ?_, fun n1 n2 => b4 (a5 n1 (n2 q (List.mem_cons_self ..))) fun p hp => n2 p (List.mem_cons_of_mem _ hp), fun hb => ?_⟩
    · rcases List.mem_cons.mp hp with rfl | hp
      · exact Int.dvd_trans a3 b2
      · exact b3 p hp
    · refine Nat.le_trans (b5 fun p hp => hb p (List.mem_cons_of_mem _ hp)) ?_
      rw [List.length_cons, Nat.pow_succ', ← Nat.mul_assoc]
      refine Nat.mul_le_mul_right _ ?_
      have c1 : (w * gd q.2 q.1 / ((Nat.gcd w.natAbs (gd q.2 q.1).natAbs : Nat) : Int)).natAbs ≤ (w * gd q.2 q.1).natAbs := by omega
      rw [Int.natAbs_mul] at c1
      exact Nat.le_trans c1 (Nat.mul_le_mul_left _ (hb q (List.mem_cons_self ..)))
def bvl (w : Int) (fr : Nat) : List (Nat × List Int) → List Int → List Int
  | [], x => x
  | q :: ps, x => bvl w fr ps (x.set q.1 (-(gd q.2 fr) * (w / gd q.2 q.1)))
def bvals (n : Nat) (pv : List (Nat × List Int)) (fr : Nat) : List Int := bvl (whl pv 1) fr pv ((List.replicate n 0).set fr (whl pv 1))
theorem gd_set {x : List Int} {i j : Nat} {y : Int} (hi : i < x.length) : gd (x.set i y) j = if j = i then y else gd x j := by
  unfold gd
  rw [List.getD_eq_getElem?_getD, List.getD_eq_getElem?_getD, List.getElem?_set]
  by_cases e : j = i
  · subst e
    rw [if_pos rfl, if_pos rfl, if_pos hi]
    rfl
  · rw [if_neg e, if_neg fun h => e h.symm]
theorem sum_set {n i : Nat} {x : List Int} {y : Int} (f : Nat → Int) (hl : x.length = n) (hi : i < n) (hz : gd x i = 0) : sumN n (fun t => f t * gd (x.set i y) t) = sumN n (fun t => f t * gd x t) + f i * y := by
  rw [← sumN_one i (fun t => f t * y) hi, ← sumN_add]
  refine sumN_congr fun t _ => ?_
  rw [gd_set (by omega)]
  by_cases e : t = i
  · subst e
    rw [if_pos rfl, if_pos rfl, hz, Int.mul_zero, Int.zero_add]
  · rw [if_neg e, if_neg e, Int.add_zero]
theorem bvl_len {w : Int} {fr : Nat} : ∀ {ps : List (Nat × List Int)} {x : List Int}, (bvl w fr ps x).length = x.length
  | [], _ => rfl
  | q :: ps, x => by rw [bvl, bvl_len, List.length_set]
theorem bvl_sum {n fr : Nat} {w : Int} (f : Nat → Int) : ∀ {ps : List (Nat × List Int)} {x : List Int}, x.length = n → ps.Pairwise (fun a b => a.1 ≠ b.1) → (∀ q ∈ ps, q.1 < n ∧ gd x q.1 = 0) →
    sumN n (fun t => f t * gd (bvl w fr ps x) t) = sumN n (fun t => f t * gd x t) + (ps.map fun q => f q.1 * (-(gd q.2 fr) * (w / gd q.2 q.1))).sum
  | [], x, _, _, _ => by rw [bvl, List.map_nil, List.sum_nil, Int.add_zero]
  | q :: ps, x, hl, ho, hz => by
    obtain ⟨o1, o2⟩ := List.pairwise_cons.mp ho
    obtain ⟨z1, z2⟩ := hz q (List.mem_cons_self ..)
    rw [bvl, bvl_sum f (by rw [List.length_set, hl]) o2 fun p hp => ?_, sum_set f hl z1 z2, List.map_cons, List.sum_cons, Int.add_assoc]
    obtain ⟨h1, h2⟩ := hz p (List.mem_cons_of_mem _ hp)
    refine ⟨h1, ?_⟩
    rw [gd_set (by omega), if_neg fun e => o1 p hp e.symm]
    exact h2
theorem bvl_bound {fr : Nat} {w : Int} {B : Nat} : ∀ {ps : List (Nat × List Int)} {x : List Int}, (∀ q ∈ ps, q.1 < x.length ∧ (-(gd q.2 fr) * (w / gd q.2 q.1)).natAbs ≤ B) → (∀ t, (gd x t).natAbs ≤ B) → ∀ t, (gd (bvl w fr ps x) t).natAbs ≤ B
  | [], x, _, h, t => h t
  | q :: ps, x, hq, h, t => by
    rw [bvl]
    obtain ⟨q1, q2⟩ := hq q (List.mem_cons_self ..)
    refine bvl_bound (fun p hp => ?_) (fun t => ?_) t
    · rw [List.length_set]
      exact hq p (List.mem_cons_of_mem _ hp)
    · rw [gd_set q1]
      by_cases e : t = q.1
      · rw [if_pos e]
        exact q2
      · rw [if_neg e]
        exact h t
theorem sum_single {h : (Nat × List Int) → Int} {p : Nat × List Int} : ∀ {ps : List (Nat × List Int)}, ps.Pairwise (fun a b => a.1 ≠ b.1) → p ∈ ps → (∀ q ∈ ps, q.1 ≠ p.1 → h q = 0) → (ps.map h).sum = h p
  | [], _, hp, _ => absurd hp List.not_mem_nil
  | q :: ps, ho, hp, hz => by
    obtain ⟨o1, o2⟩ := List.pairwise_cons.mp ho
    rw [List.map_cons, List.sum_cons]
    rcases List.mem_cons.mp hp with rfl | hp
    · have : ∀ {l : List (Nat × List Int)}, (∀ q ∈ l, h q = 0) → (l.map h).sum = 0 := by
        intro l
        induction l with
        | nil => intro _; rfl
        | cons a l ih => intro hl; rw [List.map_cons, List.sum_cons, hl a (List.mem_cons_self ..), ih fun q hq => hl q (List.mem_cons_of_mem _ hq)]; rfl
      rw [this fun q hq => hz q (List.mem_cons_of_mem _ hq) fun e => o1 q hq e.symm, Int.add_zero]
    · rw [hz q (List.mem_cons_self ..) (o1 p hp), Int.zero_add]
      exact sum_single o2 hp fun q hq => hz q (List.mem_cons_of_mem _ hq)
theorem sum_zeroL {α : Type} {h : α → Int} : ∀ {l : List α}, (∀ q ∈ l, h q = 0) → (l.map h).sum = 0
  | [], _ => rfl
  | a :: l, hl => by
    rw [List.map_cons, List.sum_cons, hl a (List.mem_cons_self ..), sum_zeroL fun q hq => hl q (List.mem_cons_of_mem _ hq)]
    rfl
/-! ### what is left of the row of ones -/
def rst (n m : Nat) (ind : Nat → Nat → Nat) : List Int := clr (crow n (m + 1) ind m) (pvs n (m + 1) ind m)
structure RsF (n m : Nat) (ind : Nat → Nat → Nat) (J : List Nat) : Prop where
  I : PInv n (m + 1) ind m J (pvs n (m + 1) ind m)
  C : CRow n (m + 1) ind J m (rst n m ind)
  z : ∀ q ∈ pvs n (m + 1) ind m, gd (rst n m ind) q.1 = 0
  bp : ∀ j, j < m + 1 → (gd (rst n m ind) (n + j)).natAbs ≤ BN
  b : ∀ i, (gd (rst n m ind) i).natAbs ≤ 13 * BN
  bv : ∀ q ∈ pvs n (m + 1) ind m, ∀ i, (gd q.2 i).natAbs ≤ 13 * BN
theorem rsF {n m : Nat} {ind : Nat → Nat → Nat} (hA : ∀ j t, ind j t ≤ 1) (hm : m ≤ 12) : ∃ J, RsF n m ind J := by
  obtain ⟨J, I⟩ := pvs_inv (n := n) (M := m + 1) (ind := ind) (k := m) (by omega)
  have hJ := I.len_k
  obtain ⟨C, z, _⟩ := I.clr (Nat.le_refl m) (Nat.lt_succ_self m)
  have bp := I.bound_clr hA (by omega) (Nat.le_refl m) (Nat.lt_succ_self m) C z
  refine ⟨J, I, C, z, bp, fun i => comb_bound C.comb hA bp (by omega) i C.len, fun q hq i => ?_⟩
  have Q := I.row q hq
  exact comb_bound Q.comb hA (I.bound_row (by omega) hA (by omega) hq) (by omega) i Q.len
theorem off_ne {ps : List (Nat × List Int)} (h : ps.Pairwise Off) : ps.Pairwise fun a b => a.1 ≠ b.1 := h.imp fun x => x.1
theorem gd_rep0 {n i : Nat} : gd (List.replicate n (0 : Int)) i = 0 := by
  unfold gd
  rw [List.getD_eq_getElem?_getD, List.getElem?_replicate]
  split <;> rfl
section
variable {n m : Nat} {ind : Nat → Nat → Nat} {J : List Nat} {fr : Nat}
theorem RsF.frX (F : RsF n m ind J) (hf : fst0 ((rst n m ind).take n) = some fr) : fr < n ∧ gd (rst n m ind) fr ≠ 0 ∧ ∀ q ∈ pvs n (m + 1) ind m, q.1 ≠ fr := by
  obtain ⟨h1, h2, _⟩ := fst0_some hf
  rw [List.length_take] at h1
  rw [gd_take (by omega)] at h2
  exact ⟨by omega, h2, fun q hq e => h2 (e ▸ F.z q hq)⟩
theorem RsF.whole (F : RsF n m ind J) : 0 < whl (pvs n (m + 1) ind m) 1 ∧ (∀ q ∈ pvs n (m + 1) ind m, gd q.2 q.1 ∣ whl (pvs n (m + 1) ind m) 1) ∧ ¬ pI ∣ whl (pvs n (m + 1) ind m) 1 ∧ (whl (pvs n (m + 1) ind m) 1).natAbs ≤ 1 * (13 * BN) ^ (pvs n (m + 1) ind m).length := by
  obtain ⟨a, _, b, c, d⟩ := whl_spec (B := 13 * BN) (ps := pvs n (m + 1) ind m) (w := 1) (by decide) fun q hq => (F.I.row q hq).pos
  exact ⟨a, b, c (by decide +kernel) fun q hq => no_p61 (by have := (F.I.row q hq).pos; omega) (F.bv q hq _), d fun q hq => F.bv q hq _⟩
theorem RsF.sum (F : RsF n m ind J) (hf : fst0 ((rst n m ind).take n) = some fr) (f : Nat → Int) :
    sumN n (fun t => f t * gd (bvals n (pvs n (m + 1) ind m) fr) t) = f fr * whl (pvs n (m + 1) ind m) 1 + ((pvs n (m + 1) ind m).map fun q => f q.1 * (-(gd q.2 fr) * (whl (pvs n (m + 1) ind m) 1 / gd q.2 q.1))).sum := by
  obtain ⟨f1, f2, f3⟩ := F.frX hf
  unfold bvals
  rw [bvl_sum f (by rw [List.length_set, List.length_replicate]) (off_ne F.I.off) fun q hq => ⟨(F.I.row q hq).pl, ?_⟩, sum_set f List.length_replicate f1 gd_rep0, sumN_zero fun t _ => by rw [gd_rep0, Int.mul_zero], Int.zero_add]
  rw [gd_set (by rw [List.length_replicate]; exact f1), if_neg (f3 q hq), gd_rep0]
theorem RsF.blind (F : RsF n m ind J) (hf : fst0 ((rst n m ind).take n) = some fr) :
    (bvals n (pvs n (m + 1) ind m) fr).length = n ∧ (∀ j, j < m → sumN n (fun t => (ind j t : Int) * gd (bvals n (pvs n (m + 1) ind m) fr) t) = 0) ∧ ¬ pI ∣ sumN n (fun t => (ind m t : Int) * gd (bvals n (pvs n (m + 1) ind m) fr) t) := by
  obtain ⟨f1, f2, f3⟩ := F.frX hf
  obtain ⟨w1, w2, w3, _⟩ := F.whole
  have hp : ∀ q ∈ pvs n (m + 1) ind m, dot n q.2 (fun t => gd (bvals n (pvs n (m + 1) ind m) fr) t) = 0 := fun q hq => by
    unfold dot
    rw [F.sum hf fun t => gd q.2 t, sum_single (off_ne F.I.off) hq fun s hs ne => ?_]
    · obtain ⟨k, hk⟩ := w2 q hq
      have q0 := (F.I.row q hq).pos
      rw [hk, Int.mul_ediv_cancel_left _ (by omega)]
      grind
    · have hz : gd q.2 s.1 = 0 := by
        rcases List.mem_iff_getElem.mp hq with ⟨a, ha, rfl⟩
        rcases List.mem_iff_getElem.mp hs with ⟨b, hb, rfl⟩
        rcases Nat.lt_trichotomy a b with h | h | h
        · exact (List.pairwise_iff_getElem.mp F.I.off a b ha hb h).2.1
        · subst h
          exact absurd rfl ne
        · exact (List.pairwise_iff_getElem.mp F.I.off b a hb ha h).2.2
      rw [hz, Int.zero_mul]
  have ho := F.I.orth _ hp
  refine ⟨by unfold bvals; rw [bvl_len, List.length_set, List.length_replicate], ho, fun d => ?_⟩
  have hr : dot n (rst n m ind) (fun t => gd (bvals n (pvs n (m + 1) ind m) fr) t) = gd (rst n m ind) fr * whl (pvs n (m + 1) ind m) 1 := by
    unfold dot
    rw [F.sum hf fun t => gd (rst n m ind) t, sum_zeroL fun q hq => by rw [F.z q hq, Int.zero_mul], Int.add_zero]
  rw [dot_comb F.C.comb, sumN, sumN_zero fun j hj => by rw [ho j hj, Int.mul_zero], Int.zero_add] at hr
  have : pI ∣ gd (rst n m ind) fr * whl (pvs n (m + 1) ind m) 1 := hr ▸ Int.dvd_trans d (Int.dvd_mul_left ..)
  rcases eucl this with z | z
  · exact no_p61 f2 (F.b fr) z
  · exact w3 z
theorem RsF.vals_bound (F : RsF n m ind J) (hm : m ≤ 12) (hf : fst0 ((rst n m ind).take n) = some fr) : ∀ t, (gd (bvals n (pvs n (m + 1) ind m) fr) t).natAbs ≤ (13 * BN) ^ 13 := by
  obtain ⟨f1, f2, f3⟩ := F.frX hf
  obtain ⟨w1, w2, w3, w4⟩ := F.whole
  rw [Nat.one_mul] at w4
  have hl : (pvs n (m + 1) ind m).length ≤ 12 := by
    have := F.I.len_k
    rw [F.I.len] at this
    omega
  have w5 : (whl (pvs n (m + 1) ind m) 1).natAbs ≤ (13 * BN) ^ 12 := Nat.le_trans w4 (Nat.pow_le_pow_right (by decide +kernel) hl)
  have e13 : (13 * BN) ^ 13 = 13 * BN * (13 * BN) ^ 12 := by rw [Nat.pow_succ']
  have h1 : 1 ≤ 13 * BN := by decide +kernel
  generalize hX : (13 * BN) ^ 12 = X at w5 e13
  have h2 : 1 * X ≤ 13 * BN * X := Nat.mul_le_mul_right _ h1
  rw [e13]
  unfold bvals
  refine bvl_bound (fun q hq => ⟨by rw [List.length_set, List.length_replicate]; exact (F.I.row q hq).pl, ?_⟩) fun t => ?_
  · rw [Int.natAbs_mul, Int.natAbs_neg]
    refine Nat.mul_le_mul (F.bv q hq fr) (Nat.le_trans ?_ w5)
    have q0 := (F.I.row q hq).pos
    obtain ⟨k, hk⟩ := w2 q hq
    rw [hk, Int.mul_ediv_cancel_left _ (by omega), Int.natAbs_mul]
    have : 1 * k.natAbs ≤ (gd q.2 q.1).natAbs * k.natAbs := Nat.mul_le_mul_right _ (by omega)
    omega
  · rw [gd_set (by rw [List.length_replicate]; exact f1)]
    by_cases e : t = fr
    · rw [if_pos e]
      omega
    · rw [if_neg e, gd_rep0]
      exact Nat.zero_le _
/-- the weights' sums -/
theorem RsF.once (F : RsF n m ind J) (hf : fst0 ((rst n m ind).take n) = none) (t : Nat) (ht : t < n) : sumN m (fun j => gd (rst n m ind) (n + j) * (ind j t : Int)) = -(gd (rst n m ind) (n + m) * (ind m t : Int)) := by
  have h := F.C.comb t ht
  rw [← gd_take (l := rst n m ind) ht, fst0_none hf t, sumN] at h
  omega
end
/-! ### the rows by this law -/
def irow (n : Nat) (ind : Nat → Nat → Nat) (j : Nat) : List Int := (List.range n).map fun t => (ind j t : Int)
theorem gd_irow {n t : Nat} {ind : Nat → Nat → Nat} {j : Nat} (h : t < n) : gd (irow n ind j) t = (ind j t : Int) := by
  unfold gd irow
  rw [List.getD_eq_getElem?_getD, List.getElem?_map, List.getElem?_range h]
  rfl
theorem rd_irow {n : Nat} {ind : Nat → Nat → Nat} (hA : ∀ j t, ind j t ≤ 1) {j : Nat} : Rd n (irow n ind j) := by
  refine ⟨by unfold irow; rw [List.length_map, List.length_range], fun t ht => ?_⟩
  rw [gd_irow ht]
  have := hA j t
  exact ⟨by omega, by show _ < (2305843009213693951 : Int); omega⟩
theorem sp_sum {n : Nat} {ind : Nat → Nat → Nat} (b : Nat → Int) : ∀ js : List Nat, Sp n (js.map (irow n ind)) fun t => (js.map fun j => b j * (ind j t : Int)).sum
  | [] => fun t _ => Int.dvd_zero _
  | j :: js => ⟨b j, (sp_sum b js).congr fun t ht => by
    refine ⟨0, ?_⟩
    rw [gd_irow ht]
    show b j * (ind j t : Int) + (js.map fun j => b j * (ind j t : Int)).sum - b j * (ind j t : Int) - (js.map fun j => b j * (ind j t : Int)).sum = _
    omega⟩
theorem sum_range (f : Nat → Int) : ∀ m : Nat, ((List.range m).map f).sum = sumN m f
  | 0 => rfl
  | m + 1 => by
    rw [List.range_succ, List.map_append, List.sum_append, sum_range f m, sumN]
    simp
theorem lrk_iff {n m : Nat} {ind : Nat → Nat → Nat} (hA : ∀ j t, ind j t ≤ 1) (hm : m ≤ 12) :
    (lrk (List.range n) ((List.range m).map (irow n ind)) = lrk (List.range n) ((List.range m).map (irow n ind) ++ [irow n ind m])) ↔ fst0 ((rst n m ind).take n) = none := by
  obtain ⟨J, F⟩ := rsF (n := n) hA hm
  have hc : ∀ c ∈ List.range n, c < n := fun c h => List.mem_range.mp h
  cases hf : fst0 ((rst n m ind).take n) with
  | none =>
    refine ⟨fun _ => rfl, fun _ => ?_⟩
    have a0 : gd (rst n m ind) (n + m) ≠ 0 := by have := F.C.pos; omega
    refine (lrk_same (a := gd (rst n m ind) (n + m)) (no_p61 a0 (F.b _)) hc (fun r hr => ?_) (rd_irow hA) ?_).symm
    · obtain ⟨j, _, rfl⟩ := List.mem_map.mp hr
      exact (rd_irow hA).len
    · refine (sp_sum (fun j => -(gd (rst n m ind) (n + j))) (List.range m)).congr fun t ht => ⟨0, ?_⟩
      rw [sum_range, gd_irow ht]
      have h := F.once hf t ht
      have e : sumN m (fun j => -(gd (rst n m ind) (n + j)) * (ind j t : Int)) = -1 * sumN m fun j => gd (rst n m ind) (n + j) * (ind j t : Int) := by
        rw [← sumN_mul]
        exact sumN_congr fun j _ => by grind
      rw [e, h]
      omega
  | some fr =>
    refine ⟨fun h => ?_, fun h => by cases h⟩
    obtain ⟨b1, b2, b3⟩ := F.blind hf
    have hd : ∀ j, dot n (irow n ind j) (fun t => gd (bvals n (pvs n (m + 1) ind m) fr) t) = sumN n fun t => (ind j t : Int) * gd (bvals n (pvs n (m + 1) ind m) fr) t := fun j => by
      unfold dot
      exact sumN_congr fun t ht => by rw [gd_irow ht]
    have := lrk_diff (n := n) (fun t => gd (bvals n (pvs n (m + 1) ind m) fr) t) hc (L := (List.range m).map (irow n ind)) (u := irow n ind m) (fun r hr => by
      obtain ⟨j, _, rfl⟩ := List.mem_map.mp hr
      exact rd_irow hA) (rd_irow hA) (fun r hr => by
      obtain ⟨j, hj, rfl⟩ := List.mem_map.mp hr
      rw [hd, b2 j (List.mem_range.mp hj)]
      exact Int.dvd_zero _) (by rw [hd]; exact b3) fun t ht hm => absurd (List.mem_range.mpr ht) hm
    omega
end Pm
end Ev

/-! ## List comprehensions with a test, the elements plain values -/
namespace Ev
open PySem PySem.Spec PyProof.Rows L2
/-- what a turn does -/
def Turn (H : Hp) (σ : L2.St) (g : TG) (tt : TT) (te : TE) (vs : List Nat) (f : V → Bool) (e : V → V) (x : V) : Prop := ∀ (H' : Hp) (N : Hp → Prop) (R : VK), Same H H' → (f x = false → ∀ H'', Same H' H'' → N H'') → (f x = true → ∀ H'', Same H' H'' → R (e x) H'') →
  g x (wipe σ vs) H' fun σ2 H2 => wipe σ2 vs = wipe σ vs ∧ tt σ2 H2 fun b H3 => if b = true then te σ2 H3 R else N H3
theorem filt_step {f : V → Bool} {e : V → V} {xs : List V} {k : Nat} {x : V} (h : xs[k]? = some x) : ((xs.take (k + 1)).filter f).map e = ((xs.take k).filter f).map e ++ (if f x = true then [e x] else []) := by
  rw [List.take_add_one, h, List.filter_append, List.map_append]
  congr 1
  show (([x] : List V).filter f).map e = _
  by_cases hf : f x = true
  · rw [if_pos hf, List.filter_cons_of_pos hf]
    rfl
  · rw [if_neg hf, List.filter_cons_of_neg hf]
    rfl
theorem turn_inv {H H' : Hp} {σ : L2.St} {g : TG} {tt : TT} {te : TE} {vs : List Nat} {f : V → Bool} {e : V → V} {xs : List V} {k : Nat} {x : V} {D : Addr} (nD : H D = none) (hz : xs.length ≤ 1000000) (hx : xs[k]? = some x) (ht : Turn H σ g tt te vs f e x) (s' : Same H H') (eD : H' D = some (.lst (((xs.take k).filter f).map e))) :
    g x (wipe σ vs) H' fun σ2 H2 => wipe σ2 vs = wipe σ vs ∧ tt σ2 H2 fun b H3 => if b = true then te σ2 H3 (fun y H4 => ∃ acc, H4 D = some (.lst acc) ∧ acc.length < sizeLine ∧ Same H (upd H4 D (.lst (acc ++ [y]))) ∧ upd H4 D (.lst (acc ++ [y])) D = some (.lst (((xs.take (k + 1)).filter f).map e))) else Same H H3 ∧ H3 D = some (.lst (((xs.take (k + 1)).filter f).map e)) := by
  have y := sizeLine_eq
  refine ht H' (fun H3 => Same H H3 ∧ H3 D = some (.lst (((xs.take (k + 1)).filter f).map e))) _ s' (fun hf H3 s3 => ⟨s'.trans s3, ?_⟩) (fun hf H4 s4 => ⟨_, s4 _ _ eD, ?_, ?_, ?_⟩)
  · rw [filt_step hx, if_neg (by rw [hf]; exact Bool.false_ne_true), List.append_nil]
    exact s3 _ _ eD
  · rw [List.length_map]
    have z := List.length_filter_le f (xs.take k)
    rw [List.length_take] at z
    omega
  · intro b o h
    rw [upd_ne (ne_of_none h nD)]
    exact s4 _ _ (s' _ _ h)
  · rw [upd_same, filt_step hx, if_pos hf]
theorem turn_yes {H : Hp} {σ : L2.St} {g : TG} {te : TE} {vs : List Nat} {e : V → V} {x : V} (h : ∀ (H' : Hp) (R : VK), Same H H' → (∀ H'', Same H' H'' → R (e x) H'') → g x (wipe σ vs) H' fun σ2 H2 => wipe σ2 vs = wipe σ vs ∧ te σ2 H2 R) : Turn H σ g tYes te vs (fun _ => true) e x := fun H' N R s' _ hR => h H' R s' (hR rfl)
/-- over a list -/
theorem lcF_list {K : PySem.W.Frag} {σ : L2.St} {H : Hp} {Q : VK} {tt : TT} {te ti : TE} {a : Addr} {xs : List V} {g : TG} {vs : List Nat} (f : V → Bool) (e : V → V) (hi : ∀ Q : VK, Q (.ref a) H → ti σ H Q) (hx : SqL K H a xs) (hz : xs.length ≤ 1000000)
    (he : ∀ x ∈ xs, Turn H σ g tt te vs f e x) (q : ∀ H' D, Same H H' → H D = none → H' D = some (.lst ((xs.filter f).map e)) → Q (.ref D) H') : tLc (iList K ti) g tt te vs σ H Q := by
  refine hi _ ⟨a, rfl, ⟨xs, hx⟩, fun D nD => ?_⟩
  refine lc_list (K := K) (a := a) (xs := xs) (fun k H' => Same H H' ∧ H' D = some (.lst (((xs.take k).filter f).map e))) ⟨same_put nD, by rw [List.take_zero]; exact upd_same⟩ (fun k H' _ ⟨s', _⟩ => s'.seq hx) ?_ ?_
  · rintro k x H' hk ⟨s', eD⟩
    exact turn_inv nD hz hk (he x (List.mem_of_getElem? hk)) s' eD
  · rintro H' ⟨s', eD⟩
    rw [List.take_length] at eD
    exact q H' D s' nD eD
theorem lcF_tup {K : PySem.W.Frag} {σ : L2.St} {H : Hp} {Q : VK} {tt : TT} {te ti : TE} {a : Addr} {xs : List V} {g : TG} {vs : List Nat} (f : V → Bool) (e : V → V) (hi : ∀ Q : VK, Q (.ref a) H → ti σ H Q) (hx : SqT K H a xs) (hz : xs.length ≤ 1000000)
    (he : ∀ x ∈ xs, Turn H σ g tt te vs f e x) (q : ∀ H' D, Same H H' → H D = none → H' D = some (.lst ((xs.filter f).map e)) → Q (.ref D) H') : tLc (iTup K ti) g tt te vs σ H Q := by
  refine hi _ ⟨a, rfl, ⟨xs, hx⟩, fun D nD => ?_⟩
  refine lc_tup (K := K) (a := a) (xs := xs) (fun k H' => Same H H' ∧ H' D = some (.lst (((xs.take k).filter f).map e))) ⟨same_put nD, by rw [List.take_zero]; exact upd_same⟩ (fun k H' _ ⟨s', _⟩ => seqT_mono s' hx) ?_ ?_
  · rintro k x H' hk ⟨s', eD⟩
    exact turn_inv nD hz hk (he x (List.mem_of_getElem? hk)) s' eD
  · rintro H' ⟨s', eD⟩
    rw [List.take_length] at eD
    exact q H' D s' nD eD
/-- the numbers from a to b - 1 -/
def rgN (a b : Nat) : List Nat := (List.range (b - a)).map fun k => a + k
theorem rgN_len (a b : Nat) : (rgN a b).length = b - a := by
  unfold rgN
  rw [List.length_map, List.length_range]
theorem rgN_mem {a b x : Nat} : x ∈ rgN a b ↔ a ≤ x ∧ x < b := by
  unfold rgN
  rw [List.mem_map]
  constructor
  · rintro ⟨k, hk, rfl⟩
    have := List.mem_range.mp hk
    omega
  · intro h
    exact ⟨x - a, List.mem_range.mpr (by omega), by omega⟩
theorem rgN_get {a b k : Nat} (h : k < b - a) : (rgN a b)[k]? = some (a + k) := by
  unfold rgN
  rw [List.getElem?_map, List.getElem?_range h]
  rfl
abbrev nV (n : Nat) : V := .int (n : Nat)
theorem filt_nV {f : V → Bool} {e : V → V} {l : List Nat} : ((l.map nV).filter f).map e = (l.filter fun n => f (nV n)).map fun n => e (nV n) := by
  rw [List.filter_map, List.map_map]
  rfl
def fV (f : Nat → Bool) : V → Bool
  | .int i => f i.toNat
  | _ => false
def eV (e : Nat → V) : V → V
  | .int i => e i.toNat
  | v => v
theorem filt_fe {f : Nat → Bool} {e : Nat → V} {l : List Nat} : ((l.map nV).filter (fV f)).map (eV e) = (l.filter f).map e := by
  rw [filt_nV]
  rfl
theorem filt_all {e : Nat → V} {l : List Nat} : ((l.map nV).filter (fun _ => true)).map (eV e) = l.map e := by
  rw [List.filter_eq_self.mpr (fun _ _ => rfl), List.map_map]
  rfl
theorem lcF_core {σ : L2.St} {H : Hp} {Q : VK} {tt : TT} {te : TE} {g : TG} {vs : List Nat} {a b : Nat} (f : V → Bool) (e : V → V) (hz : b ≤ 1000000) (he : ∀ x ∈ (rgN a b).map nV, Turn H σ g tt te vs f e x)
    (q : ∀ H' D, Same H H' → H D = none → H' D = some (.lst ((((rgN a b).map nV).filter f).map e)) → Q (.ref D) H') {lo : Int} (hlo : lo = (a : Nat)) (D : Addr) (nD : H D = none) : ∃ W : Nat → Nat → Hp → Prop, (∃ m, W 0 m (upd H D (.lst []))) ∧ ∀ i m H, W i m H →
  ((Itr lo (b - a)).stop i H ∧ Q (.ref D) H) ∨ ((Itr lo (b - a)).go i H ∧ ∃ Nx : Hp → Prop, (∀ H', Nx H' → ∃ m', m' < m ∧ W (i + 1) m' H') ∧ ∀ x H', (Itr lo (b - a)).yld i H x H' → g x (wipe σ vs) H' fun σ2 H2 => wipe σ2 vs = wipe σ vs ∧ tt σ2 H2 fun b H3 =>
    if b = true then te σ2 H3 fun y H4 => ∃ acc, H4 D = some (.lst acc) ∧ acc.length < sizeLine ∧ Nx (upd H4 D (.lst (acc ++ [y]))) else Nx H3) := by
  have hzl : ((rgN a b).map nV).length ≤ 1000000 := by
    rw [List.length_map, rgN_len]
    omega
  refine lc_range (lo := lo) (n := b - a) (fun k H' => Same H H' ∧ H' D = some (.lst (((((rgN a b).map nV).take k).filter f).map e))) ⟨same_put nD, by rw [List.take_zero]; exact upd_same⟩ ?_ ?_
  · rintro k H' hk ⟨s', eD⟩
    have hx : ((rgN a b).map nV)[k]? = some (.int (lo + (k : Nat))) := by
      rw [List.getElem?_map, rgN_get hk, hlo]
      show some (V.int ((a + k : Nat) : Int)) = _
      rw [Int.natCast_add]
    exact turn_inv nD hzl hx (he _ (List.mem_of_getElem? hx)) s' eD
  · rintro H' ⟨s', eD⟩
    have hl : b - a = ((rgN a b).map nV).length := by rw [List.length_map, rgN_len]
    rw [hl, List.take_length] at eD
    exact q H' D s' nD eD
theorem lcF_rng1 {σ : L2.St} {H : Hp} {Q : VK} {tt : TT} {te : TE} {ta : TA} {n : Nat} {g : TG} {vs : List Nat} (f : V → Bool) (e : V → V) (hta : ∀ (Q : List V → Hp → Prop), Q [.int (n : Nat)] H → ta σ H Q) (hz : n ≤ 1000000)
    (he : ∀ x ∈ (rgN 0 n).map nV, Turn H σ g tt te vs f e x) (q : ∀ H' D, Same H H' → H D = none → H' D = some (.lst ((((rgN 0 n).map nV).filter f).map e)) → Q (.ref D) H') : tLc (iRng1 ta) g tt te vs σ H Q := by
  refine hta _ ⟨(n : Nat), rfl, by omega, by omega, fun D nD => ?_⟩
  rw [Int.toNat_natCast]
  exact lcF_core (a := 0) (b := n) f e hz he q rfl D nD
theorem lcF_rng2 {σ : L2.St} {H : Hp} {Q : VK} {tt : TT} {te : TE} {ta : TA} {a b : Nat} {g : TG} {vs : List Nat} (f : V → Bool) (e : V → V) (hta : ∀ (Q : List V → Hp → Prop), Q [.int (a : Nat), .int (b : Nat)] H → ta σ H Q) (ha : a ≤ 1000000) (hz : b ≤ 1000000)
    (he : ∀ x ∈ (rgN a b).map nV, Turn H σ g tt te vs f e x) (q : ∀ H' D, Same H H' → H D = none → H' D = some (.lst ((((rgN a b).map nV).filter f).map e)) → Q (.ref D) H') : tLc (iRng2 ta) g tt te vs σ H Q := by
  refine hta _ ⟨(a : Nat), (b : Nat), rfl, ⟨by omega, by omega, by omega, by omega⟩, fun D nD => ?_⟩
  rw [show ((b : Nat) : Int) - ((a : Nat) : Int) = ((b : Nat) : Int) - ((a : Nat) : Int) from rfl, show (((b : Nat) : Int) - ((a : Nat) : Int)).toNat = b - a by omega]
  exact lcF_core (a := a) (b := b) f e hz he q rfl D nD
end Ev

/-! ## for i, x in enumerate(a list) -/
namespace Ev
open PySem PySem.Spec PyProof.Rows L2
theorem for_enumL {K : PySem.W.Frag} {a : Addr} {xs : List V} {g : TG} {tb : TS} {D : Ends} {σ : L2.St} {H : Hp} (Pv : Nat → L2.St → Hp → Prop) (h0 : Pv 0 σ H) (hl : ∀ i σ H, i ≤ xs.length → Pv i σ H → SqL K H a xs)
    (hs : ∀ i x σ H T, xs[i]? = some x → Pv i σ H → H T = none → g (.ref T) σ (upd H T (.tup [.int (i : Nat), x])) fun σ2 H2 => tb { D with nx := Pv (i + 1), ct := Pv (i + 1), bk := D.nx } σ2 H2) (hd : ∀ σ H, Pv xs.length σ H → D.nx σ H) :
    ∃ W : Nat → Nat → L2.St → Hp → Prop, (∃ m, W 0 m σ H) ∧ ∀ i m σ H, W i m σ H →
      ((Ite K a).stop i H ∧ D.nx σ H) ∨ ((Ite K a).go i H ∧ ∃ N : L2.St → Hp → Prop, (∀ σ' H', N σ' H' → ∃ m', m' < m ∧ W (i + 1) m' σ' H') ∧ ∀ x H', (Ite K a).yld i H x H' → g x σ H' fun σ2 H2 => tb { D with nx := N, ct := N, bk := D.nx } σ2 H2) := by
  refine ⟨fun i m σ H => m = xs.length - i ∧ i ≤ xs.length ∧ Pv i σ H, ⟨xs.length, rfl, Nat.zero_le _, h0⟩, ?_⟩
  rintro i m σ H ⟨rfl, hi, hp⟩
  have hq := hl i σ H hi hp
  by_cases hlt : i < xs.length
  · refine .inr ⟨⟨xs, xs[i], hq, List.getElem?_eq_getElem hlt⟩, Pv (i + 1), fun σ' H' h => ⟨xs.length - (i + 1), by omega, rfl, hlt, h⟩, ?_⟩
    rintro v H' ⟨T, x, rfl, nT, rfl, hx⟩
    exact hs i x σ H T (hx xs hq) hp nT
  · have e : i = xs.length := by omega
    subst e
    exact .inl ⟨⟨xs, hq, Nat.le_refl _⟩, hd σ H hp⟩
/-- found so far -/
structure WI (w : List Str) (cs : List Nat) (m i : Nat) : Prop where
  len : w.length = m + m
  ab : ∀ x ∈ w, x = ("a" : Str) ∨ x = ("b" : Str)
  cnt : ∀ c, c < i → c < m → (if w[c]? = some ("a" : Str) then (1 : Int) else 0) + (if w[m + c]? = some ("a" : Str) then 1 else 0) = ((cs.getD c 0 : Nat) : Int)
  rest : ∀ c, i ≤ c → c < m → w[c]? = some ("b" : Str) ∧ w[m + c]? = some ("b" : Str)
def markS (w : List Str) (i : Nat) : Bool → List Str
  | true => w.set i ("a" : Str)
  | false => w
theorem mark_len {w : List Str} {i : Nat} : ∀ {x : Bool}, (markS w i x).length = w.length
  | true => List.length_set
  | false => rfl
theorem mark_ne {w : List Str} {i j : Nat} (h : i ≠ j) : ∀ {x : Bool}, (markS w i x)[j]? = w[j]?
  | true => List.getElem?_set_ne h
  | false => rfl
theorem mark_ab {w : List Str} {i : Nat} (h : ∀ x ∈ w, x = ("a" : Str) ∨ x = ("b" : Str)) : ∀ {x : Bool}, ∀ z ∈ markS w i x, z = ("a" : Str) ∨ z = ("b" : Str)
  | true, z, hz => by
    rcases List.mem_or_eq_of_mem_set hz with e | e
    · exact h z e
    · exact .inl e
  | false, z, hz => h z hz
theorem ab_ne7 : ("a" : Str) ≠ ("b" : Str) := by decide +kernel
theorem mark_at {w : List Str} {i : Nat} (hi : i < w.length) (hb : w[i]? = some ("b" : Str)) : ∀ {x : Bool}, (if (markS w i x)[i]? = some ("a" : Str) then (1 : Int) else 0) = if x = true then 1 else 0
  | true => by
    rw [if_pos rfl, if_pos]
    exact List.getElem?_set_self hi
  | false => by
    rw [if_neg Bool.false_ne_true, if_neg]
    intro z
    have z : w[i]? = some ("a" : Str) := z
    rw [hb] at z
    exact ab_ne7 (Option.some.inj z).symm
theorem WI.next {w : List Str} {cs : List Nat} {m i : Nat} (h : WI w cs m i) (hi : i < m) {x y : Bool} (hxy : (if x = true then (1 : Int) else 0) + (if y = true then 1 else 0) = ((cs.getD i 0 : Nat) : Int)) : WI (markS (markS w i x) (m + i) y) cs m (i + 1) := by
  obtain ⟨b1, b2⟩ := h.rest i (Nat.le_refl i) hi
  have l1 : (markS w i x).length = m + m := mark_len.trans h.len
  refine ⟨mark_len.trans l1, mark_ab (mark_ab h.ab), fun c hc hcm => ?_, fun c hc hcm => ?_⟩
  · by_cases e : c = i
    · subst e
      rw [mark_ne (show m + c ≠ c by omega), mark_at (by rw [h.len]; omega) b1, mark_at (by rw [l1]; omega) (by rw [mark_ne (show c ≠ m + c by omega)]; exact b2)]
      exact hxy
    · rw [mark_ne (show m + i ≠ c by omega), mark_ne (show i ≠ c by omega), mark_ne (show m + i ≠ m + c by omega), mark_ne (show i ≠ m + c by omega)]
      exact h.cnt c (by omega) hcm
  · rw [mark_ne (show m + i ≠ c by omega), mark_ne (show i ≠ c by omega), mark_ne (show m + i ≠ m + c by omega), mark_ne (show i ≠ m + c by omega)]
    exact h.rest c (by omega) hcm
theorem WI.zero (cs : List Nat) (m : Nat) : WI (List.replicate (m + m) ("b" : Str)) cs m 0 := ⟨List.length_replicate, fun x hx => .inr (List.eq_of_mem_replicate hx), fun c hc => absurd hc (Nat.not_lt_zero c), fun c _ hc => ⟨List.getElem?_replicate_of_lt (by omega), List.getElem?_replicate_of_lt (by omega)⟩⟩
end Ev

/-! ## for i, x in enumerate(a tuple), over the library's WalksT.enumerateD and Draws.tuple -/
namespace Ev
open PySem PySem.Spec PyProof.Rows L2
/-- what enumerate(v) leaves, o being v's new iterator -/
def enumHeap (h : Heap) (o : Obj) : Heap := (h.push o).push ⟨.type "enumerate", none, .fields #[.none, .bool false, .ref h.objs.size, rawInt 0, .none, .none], #[]⟩
theorem enum_one {v : Value} {o : Obj} {G : Heap → Prop} (B : Begins v o G) :
    Meets (Builtin.«enumerate.__new__» ⟨[.type "enumerate", v], []⟩) (fun _ R s => G s.heap ∧ R (.ok (.ret (.ref (s.heap.push o).objs.size))) { s with heap := enumHeap s.heap o }) :=
  .of_wp fun prog w A R ⟨hp, g, d, tk, os⟩ ⟨hG, h⟩ => by
    have sub := sub_enumerate
    have it := fun (A : Around) E Q => B.iter prog w A E ⟨hp, g, d, tk, os⟩ Q hG
    wp_walk
    refine wpAny_stack_any fun st => wpAny_pure ?_
    split
    · rename_i c _ _ _ _ _
      cases (c == Value.type "enumerate") <;> (wp_walk using it; exact ⟨_, rfl, h⟩)
    · wp_walk using it
      exact ⟨_, rfl, h⟩
theorem enum_two {P : Program} {w : World} {A : Around} {E : Value → Shared → Prop} {s : Shared} {v : Value} {o : Obj} {G : Heap → Prop} {Q : Value → Shared → Prop} (B : Begins v o G) (hG : G s.heap)
    (q : IsEnum (enumHeap s.heap o) (s.heap.objs.size + 1) s.heap.objs.size 0 .none → Q (.ref (s.heap.objs.size + 1)) { s with heap := enumHeap s.heap o }) : wpAny (model P w) A (call (.type "enumerate") [v]) Q E s := by
  have sz : (s.heap.push o).objs.size = s.heap.objs.size + 1 := Heap.size_push ..
  have at1 := Heap.get?_push_size (s.heap.push o) (o := ⟨.type "enumerate", none, .fields #[.none, .bool false, .ref s.heap.objs.size, rawInt 0, .none, .none], #[]⟩) rfl
  rw [sz] at at1
  have fin : s.heap.objs.size + 1 = (s.heap.push o).objs.size := sz.symm
  refine callType_new F.called_enumerate (by decide) (F.typeCall_enumerate_1 v) (F.newCall_enumerate_1 v) (fun ob => F.args_object_init_2 ob v) F.entry_enumerate_new (enum_one B) ⟨hG, ?_⟩
  show Shared.TypeIs _ _ _ ∧ _
  rw [← fin]
  exact ⟨⟨_, at1, rfl⟩, q at1⟩
/-- the pairs of a tuple's places and items -/
def IteT (K : PySem.W.Frag) (a : Addr) : L2.It where
  go i H := ∃ xs x, SqT K H a xs ∧ xs[i]? = some x
  yld i H v H' := ∃ T x, v = V.ref T ∧ H T = none ∧ H' = upd H T (.tup [.int (i : Nat), x]) ∧ ∀ xs, SqT K H a xs → xs[i]? = some x
  stop i H := ∃ xs, SqT K H a xs ∧ xs.length = i
/-- the cells of such a walk -/
structure EnT (a e it : Addr) (i : Nat) (h : Heap) : Prop where
  en : ∃ old, IsEnum h e it ((i : Nat) : Int) old
  tu : h.IsTupleIter it a i
  ei : e ≠ it
  ai : a ≠ it
  ae : a ≠ e
theorem two_cells {e it b : Addr} (h : b ∈ [e, it]) : b = e ∨ b = it := by simpa using h
theorem turnT {P : Program} {w : World} {K : PySem.W.Frag} {elts : List Expr} {kk : Nat} {tpos : Pos} (a e it : Addr) : L2.Turn P w K (.Tuple elts kk tpos) (IteT K a) [e, it] e (EnT a e it) where
  mem := List.mem_cons_self ..
  obj i h st b hb := by
    rcases two_cells hb with rfl | rfl
    · obtain ⟨old, q⟩ := st.en
      exact ⟨_, q, nofun⟩
    · obtain ⟨o, q, _, dt⟩ := st.tu
      exact ⟨o, q, fun v z => nomatch dt.symm.trans z⟩
  keep i h h' st k := by
    obtain ⟨old, q⟩ := st.en
    exact ⟨⟨old, k e (by simp) _ q⟩, st.tu.at (k it (by simp)), st.ei, st.ai, st.ae⟩
  item := by
    rintro X rfl rfl rfl calm i pins s σ H E I own st ⟨xs, x, hq, hx⟩
    obtain ⟨its, vals, isT, _⟩ := I.tuple hq
    obtain ⟨u, hu, ru⟩ := vals.get hx
    have W := WalksT.enumerateD (Draws.tuple (prog := X.prog) (w := X.w) (A := X.A.in1) (I.ok.hd calm) it a st.ai its.toArray) e st.ei (by simp [st.ei, Ne.symm st.ae]) (by simp)
    have inside : i < its.toArray.size := by
      rw [List.size_toArray]
      exact (List.getElem?_eq_some_iff.mp hu).1
    refine W.item i s _ E inside ⟨st.en, st.tu, isT⟩ fun T vs h1 tk pt big tup mid k1 => ⟨_, rfl, W.go elts kk tpos i T _ _ E mid fun h2 st2 k2 => ?_⟩
    obtain ⟨t, y, hy, rfl⟩ := pt
    obtain rfl : y = u := Option.some.inj (hy.symm.trans (by simpa using hu))
    obtain ⟨oT, gT, cT, dT⟩ := tup
    have new : ObjOk X.prog X.w (upd H T (.tup [.int (i : Nat), x])) h2 T (.tup [.int (i : Nat), x]) :=
      ⟨(by show 2 ≤ sizeLine; decide), [.int i t, y], .cons ⟨t, rfl⟩ (.cons ru .nil), oT, k2 T oT (W.apart i T h1 mid) gT, cT, dT⟩
    have J := I.turnedNew (t' := tk) (fun b o nb q => k2 b o nb (k1 b o nb q)) own big new
    have fresh : ∀ b ∈ [e, it], b ≠ T := fun b hb z => by
      obtain ⟨o, q, _⟩ : ∃ o, s.heap.get? b = some o ∧ True := by
        rcases two_cells hb with rfl | rfl
        · obtain ⟨old, q⟩ := st.en
          exact ⟨_, q, trivial⟩
        · obtain ⟨o, q, _⟩ := st.tu
          exact ⟨o, q, trivial⟩
      have lt := Heap.lt_size q
      rw [z] at lt
      exact Nat.lt_irrefl _ (Nat.lt_of_lt_of_le lt big)
    refine ⟨.ref T, _, J, rfl, ⟨T, x, rfl, I.hok.fresh big, rfl, fun ys hy => I.tuple_inj hq hy ▸ hx⟩, ⟨?_, st2.2.1, st.ei, st.ai, st.ae⟩, fun b hb => ?_⟩
    · obtain ⟨old, q⟩ := st2.1
      exact ⟨old, q⟩
    · rw [upd_ne (fresh b hb)]
      exact (own b hb).1
  done := by
    rintro X rfl rfl rfl calm i pins s σ H E I own st ⟨xs, hq, hl⟩
    obtain ⟨its, vals, isT, _⟩ := I.tuple hq
    have n : its.toArray.size = i := by
      rw [List.size_toArray, ← hl]
      exact vals.length.symm
    obtain ⟨old, q⟩ := st.en
    obtain ⟨f0, f1, _, f3, f4, f5⟩ := own it (by simp)
    refine wpAny_pyNext_enum_endD (Draws.tuple (A := X.A.in1) (I.ok.hd calm) it a st.ai its.toArray) q (by rw [n]; exact ⟨st.tu, isT⟩) fun h' k => ⟨rfl, ?_⟩
    exact I.turned (t' := s.toks) (fun b o nb z => k b o nb z) f0 f1 f3 f4 f5
  self A i s Q E st h := by
    obtain ⟨old, q⟩ := st.en
    exact wpAny_pyIter_enum q h
def iEnumT (K : PySem.W.Frag) (ta : TA) : TI := fun σ H R => ta σ H fun vs H1 => ∃ a xs, vs = [.ref a] ∧ SqT K H1 a xs ∧ R (IteT K a) H1
theorem pi_enumT {X : Cx} {e : Expr} {ta : TA} {p pos tpos : Pos} {elts : List Expr} {kk : Nat} (hg : Gl X "enumerate") (hm : X.mg "enumerate" = none) (ha : PA X [e] ta) (hs : starEach [e] X.env = [(false, eval e X.env)] := by rfl) :
    PI X (.Tuple elts kk tpos) (.Call (.Name "enumerate" p) [e] [] pos) (iEnumT X.K ta) where
  run pins s σ H R I h := by
    have args := ha.run pos pins s σ H _ I h
    refine Call_ (ld_blt I hg hm boot_enumerate (PyProof.Rows.callWith_type1 (thn args ?_) hs rfl))
    rintro us s1 ⟨vs, H1, I1, rel, a, xs, rfl, hq, q⟩
    obtain ⟨u, rfl, ra⟩ := vals1 rel
    cases ra
    obtain ⟨its, vals, isT, _⟩ := I1.tuple hq
    obtain ⟨oa, ga, _⟩ := id isT
    have la := Heap.lt_size ga
    refine enum_two (begins_tuple a its.toArray) isT fun en => wpAny_pyIter_enum en ?_
    have kp : ∀ b o, s1.heap.get? b = some o → (enumHeap s1.heap ⟨.type "tuple_iterator", none, .fields #[.ref a, .int 0 0], #[]⟩).get? b = some o := fun b o z => Heap.get?_push_of_some _ (Heap.get?_push_of_some _ z)
    have ti : (enumHeap s1.heap ⟨.type "tuple_iterator", none, .fields #[.ref a, .int 0 0], #[]⟩).IsTupleIter s1.heap.objs.size a 0 := ⟨_, Heap.get?_push_of_some _ (Heap.get?_push_size _ rfl), rfl, rfl⟩
    refine ⟨_, [s1.heap.objs.size + 1, s1.heap.objs.size], _, _, H1, rfl, I1.kept (t' := s1.toks) kp, turnT a _ _, ⟨⟨.none, en⟩, ti, Nat.succ_ne_self _, Nat.ne_of_lt la, Nat.ne_of_lt (Nat.lt_succ_of_lt la)⟩, fun b hb => ?_, q⟩
    have above : s1.heap.objs.size ≤ b := by
      rcases two_cells hb with z | z
      · exact z ▸ Nat.le_succ _
      · exact z ▸ Nat.le_refl _
    exact I1.fpOk above (I1.hok.fresh above)
theorem walk_enumT {K : PySem.W.Frag} {a : Addr} {xs : List V} : Walk (IteT K a) xs.length (fun H => SqT K H a xs) (YPair (fun i => some (.int (i : Nat))) (fun i => xs[i]?)) where
  goes i H hi hq := ⟨xs, xs[i], hq, List.getElem?_eq_getElem hi⟩
  stops H hq := ⟨xs, hq, rfl⟩
  yields i H v H' _ hq := by
    rintro ⟨T, x, rfl, nT, rfl, hx⟩
    exact ⟨T, .int (i : Nat), x, rfl, nT, rfl, rfl, hx xs hq⟩
end Ev

/-! ## enumerate(zip(xs, ys)) -/
namespace Ev
open PySem PySem.Spec PyProof.Rows L2
section
variable {P : Program} {w : World} {A : Around} {E : Value → Shared → Prop} {s : Shared}
/-- what enumerate leaves of the heap h, v being what its iterator gave, t the token of the number -/
def enumOut (h : Heap) (e it : Addr) (c : Int) (t : Tok) (v : Value) : Heap :=
  (((h.update e fun o => { o with data := .fields #[.none, .bool false, .ref it, rawInt (c + 1), .none, .none] }).push ⟨.type "tuple", none, .seq #[.int c t, v], #[]⟩).update e fun o => { o with data := .fields #[rawInt h.objs.size, .bool false, .ref it, rawInt (c + 1), .none, v] })
/-- an address is looked at, whether anything stands there or not -/
theorem alive_any {a : Addr} {Q : Option Obj → Shared → Prop} (h : Q (s.heap.get? a) s) : wpAny (model P w) A (loadIfAlive a) Q E s := fun _ _ _ => h
theorem zip_dead {z TI TO T i1 i2 l1 l2 : Addr} {k1 k2 : Nat} {xs ys : Array Value} {x y a b : Value} {fl : Bool} {Q : Value → Shared → Prop} (D : ZipApart z TI TO i1 i2 l1 l2) (hz : IsZipHeld s.heap z TI TO T fl) (hT : s.heap.get? T = none) (hTI : IsPair s.heap TI (.ref i1) (.ref i2)) (hTO : IsPair s.heap TO a b)
    (h1 : s.heap.IsListIter i1 l1 k1) (h2 : s.heap.IsListIter i2 l2 k2) (hl1 : s.heap.IsList l1 xs) (hl2 : s.heap.IsList l2 ys) (hx : xs[k1]? = some x) (hy : ys[k2]? = some y)
    (hQ : ∀ h' T', T' = s.heap.objs.size → IsZip h' z TI TO (rawInt T') → IsPair h' TO x y → h'.IsListIter i1 l1 (k1 + 1) → h'.IsListIter i2 l2 (k2 + 1) → IsPair h' T' x y → h'.objs.size = s.heap.objs.size + 1 →
      (∀ c o, c ≠ z → c ≠ TO → c ≠ i1 → c ≠ i2 → s.heap.get? c = some o → h'.get? c = some o) → Q (.ref T') { s with heap := h' }) :
    wpAny (model P w) A (Builtin.«zip.__next__» ⟨[.ref z], []⟩) (fun fin s' => ∃ v, fin = .done (.ret v) ∧ Q v s') E s := by
  have al : ∀ Q', Q' none s → wpAny (model P w) A (loadIfAlive ((T : Int).toNat)) Q' E s := fun Q' h => by
    rw [Int.toNat_natCast]
    refine alive_any ?_
    rw [hT]
    exact h
  obtain ⟨hp, g, d, tk, os⟩ := s
  have sz := Heap.SameBut.update (h := hp) (a := z) (f := Obj.mapFields fun x => x.setIfInBounds 0 Value.ellipsis)
  have h1' := h1.extBut sz.extBut D.i1z
  have hl1' := hl1.extBut sz.extBut D.l1z
  wp_walk using al, wpAny_onRaise, (wpAny_nextOf_list_item h1' hl1' hx)
  intro h₂ h1₂ hs₂
  have hTO₂ : IsPair h₂ TO a b := hs₂.extBut _ _ D.TOi1 (sz.extBut _ _ D.TOz hTO)
  have hz₂ : h₂.get? z = some { cls := .type "zip", dict := none, data := .fields #[.ellipsis, .bool fl, .bool false, .ref TI, .ref TO], slots := #[] } := hs₂.extBut _ _ D.i1z.symm (Heap.get?_update_self _ hz rfl)
  have st := Heap.SameBut.update (h := h₂) (a := TO) (f := Obj.mapSeq fun q => q.setIfInBounds 0 x)
  have h2' := ((h2.extBut sz.extBut D.i2z).extBut hs₂.extBut D.i12.symm).extBut st.extBut D.TOi2.symm
  have hl2' := ((hl2.extBut sz.extBut D.l2z).extBut hs₂.extBut D.l2i1).extBut st.extBut D.l2TO
  wp_walk using wpAny_onRaise, (wpAny_nextOf_list_item h2' hl2' hy)
  intro h₄ h2₄ hs₄
  have hTO₃ : IsPair (h₂.update TO (Obj.mapSeq fun q => q.setIfInBounds 0 x)) TO x b := Heap.get?_update_self _ hTO₂ rfl
  have hTO₄ : IsPair h₄ TO x b := hs₄.extBut _ _ D.TOi2 hTO₃
  have hz₄ : h₄.get? z = some { cls := .type "zip", dict := none, data := .fields #[.ellipsis, .bool fl, .bool false, .ref TI, .ref TO], slots := #[] } := hs₄.extBut _ _ D.i2z.symm (st.extBut _ _ D.TOz.symm hz₂)
  have h1₄ := (h1₂.extBut st.extBut D.TOi1.symm).extBut hs₄.extBut D.i12
  have ne1 := D.TOz
  wp_walk
  have sA := Heap.SameBut.update (h := h₄) (a := TO) (f := Obj.mapSeq fun q => q.setIfInBounds (0 + 1) y)
  have hTO₅ : IsPair (h₄.update TO (Obj.mapSeq fun q => q.setIfInBounds (0 + 1) y)) TO x y := Heap.get?_update_self _ hTO₄ rfl
  have hz₅ := sA.extBut _ _ D.TOz.symm hz₄
  have e0 : (h₄.update TO (Obj.mapSeq fun q => q.setIfInBounds (0 + 1) y)).objs.size = hp.objs.size := by rw [sA.1, hs₄.1, st.1, hs₂.1, sz.1]
  have k₅ : ∀ c o, c ≠ z → c ≠ TO → c ≠ i1 → c ≠ i2 → hp.get? c = some o → (h₄.update TO (Obj.mapSeq fun q => q.setIfInBounds (0 + 1) y)).get? c = some o := fun c o c1 c2 c3 c4 e =>
    sA.extBut _ _ c2 (hs₄.extBut _ _ c4 (st.extBut _ _ c2 (hs₂.extBut _ _ c3 (sz.extBut _ _ c1 e))))
  have h1₅ := h1₄.extBut sA.extBut D.TOi1.symm
  have h2₅ := h2₄.extBut sA.extBut D.TOi2.symm
  have zlt : z < (h₄.update TO (Obj.mapSeq fun q => q.setIfInBounds (0 + 1) y)).objs.size := Heap.lt_size hz₅
  generalize h₄.update TO (Obj.mapSeq fun q => q.setIfInBounds (0 + 1) y) = h₅ at hTO₅ hz₅ e0 k₅ h1₅ h2₅ zlt ⊢
  have hp6 : IsPair (h₅.push { cls := .type "tuple", data := .seq #[x, y] }) h₅.objs.size x y := Heap.get?_push_size _ rfl
  have hz6 := Heap.get?_push_of_some { cls := .type "tuple", data := .seq #[x, y] } hz₅
  have s6 : (h₅.push { cls := .type "tuple", data := .seq #[x, y] }).objs.size = h₅.objs.size + 1 := Heap.size_push ..
  have sB := Heap.SameBut.update (h := h₅.push { cls := .type "tuple", data := .seq #[x, y] }) (a := z) (f := Obj.mapFields fun q => q.setIfInBounds 0 (rawInt h₅.objs.size))
  have hz7 := Heap.get?_update_self (Obj.mapFields fun q => q.setIfInBounds 0 (rawInt h₅.objs.size)) hz6 rfl
  have sC := Heap.SameBut.update (h := (h₅.push { cls := .type "tuple", data := .seq #[x, y] }).update z (Obj.mapFields fun q => q.setIfInBounds 0 (rawInt h₅.objs.size))) (a := z) (f := Obj.mapFields fun q => q.setIfInBounds 1 (.bool false))
  have hz8 := Heap.get?_update_self (Obj.mapFields fun q => q.setIfInBounds 1 (.bool false)) hz7 rfl
  have up : ∀ c o, c ≠ z → h₅.get? c = some o → (((h₅.push { cls := .type "tuple", data := .seq #[x, y] }).update z (Obj.mapFields fun q => q.setIfInBounds 0 (rawInt h₅.objs.size))).update z (Obj.mapFields fun q => q.setIfInBounds 1 (.bool false))).get? c = some o := fun c o c1 e => sC.extBut _ _ c1 (sB.extBut _ _ c1 (Heap.get?_push_of_some _ e))
  exact ⟨_, rfl, hQ _ h₅.objs.size e0 hz8 (up _ _ D.TOz hTO₅) (h1₅.at fun o e => up _ o D.i1z e) (h2₅.at fun o e => up _ o D.i2z e) (sC.extBut _ _ (Nat.ne_of_gt zlt) (sB.extBut _ _ (Nat.ne_of_gt zlt) hp6)) (sC.1.trans (sB.1.trans (s6.trans (congrArg (· + 1) e0)))) fun c o c1 c2 c3 c4 e => up c o c1 (k₅ c o c1 c2 c3 c4 e)⟩
end
end Ev

/-! ## zip of a list and a tuple -/
namespace Ev
open PySem PySem.Spec PyProof.Rows L2
/-- where such a zip stands -/
structure ZxT (a b z TI TO i1 i2 : Addr) (k : Nat) (h : Heap) : Prop where
  zs : IsZip h z TI TO .none
  ti : IsPair h TI (.ref i1) (.ref i2)
  to : ∃ x y, IsPair h TO x y
  l1 : h.IsListIter i1 a k
  l2 : h.IsTupleIter i2 b k
theorem zx_cells {z TI TO i1 i2 c : Addr} (h : c ∈ [z, TI, TO, i1, i2]) : c = z ∨ c = TI ∨ c = TO ∨ c = i1 ∨ c = i2 := by simpa using h
theorem ZxT.cell {a b z TI TO i1 i2 c : Addr} {k : Nat} {h : Heap} (t : ZxT a b z TI TO i1 i2 k h) (m : c ∈ [z, TI, TO, i1, i2]) : ∃ o, h.get? c = some o ∧ ∀ v, o.data ≠ .cell v := by
  obtain ⟨x, y, hO⟩ := t.to
  obtain ⟨o1, p1, _, d1⟩ := t.l1
  obtain ⟨o2, p2, _, d2⟩ := t.l2
  rcases zx_cells m with rfl | rfl | rfl | rfl | rfl
  · exact ⟨_, t.zs, nofun⟩
  · exact ⟨_, t.ti, nofun⟩
  · exact ⟨_, hO, nofun⟩
  · exact ⟨o1, p1, fun v q => nomatch d1.symm.trans q⟩
  · exact ⟨o2, p2, fun v q => nomatch d2.symm.trans q⟩
theorem ZxT.keep {a b z TI TO i1 i2 : Addr} {k : Nat} {h h' : Heap} (t : ZxT a b z TI TO i1 i2 k h) (kp : ∀ c ∈ [z, TI, TO, i1, i2], ∀ o, h.get? c = some o → h'.get? c = some o) : ZxT a b z TI TO i1 i2 k h' := by
  obtain ⟨x, y, hO⟩ := t.to
  exact ⟨kp z (by simp) _ t.zs, kp TI (by simp) _ t.ti, ⟨x, y, kp TO (by simp) _ hO⟩, t.l1.at (kp i1 (by simp)), t.l2.at (kp i2 (by simp))⟩
section
variable {P : Program} {w : World} {A : Around} {E : Value → Shared → Prop} {s : Shared} {a b z TI TO i1 i2 : Addr} {k : Nat} {xs ys : Array Value}
theorem zx_next {x y : Value} {Q : Value → Shared → Prop} (D : ZipApart z TI TO i1 i2 a b) (t : ZxT a b z TI TO i1 i2 k s.heap) (hl1 : s.heap.IsList a xs) (hl2 : s.heap.IsTuple b ys) (hx : xs[k]? = some x) (hy : ys[k]? = some y)
    (hQ : ∀ h', IsZip h' z TI TO (rawInt s.heap.objs.size) → IsPair h' TO x y → h'.IsListIter i1 a (k + 1) → h'.IsTupleIter i2 b (k + 1) → IsPair h' s.heap.objs.size x y →
      (∀ c o, c ≠ z → c ≠ TO → c ≠ i1 → c ≠ i2 → s.heap.get? c = some o → h'.get? c = some o) → Q (.ref s.heap.objs.size) { s with heap := h' }) :
    wpAny (model P w) A (Builtin.«zip.__next__» ⟨[.ref z], []⟩) (fun fin s' => ∃ v, fin = .done (.ret v) ∧ Q v s') E s := by
  obtain ⟨hz, hTI, ⟨p, q, hTO⟩, h1, h2⟩ := t
  obtain ⟨hp, g, d, tk, os⟩ := s
  have sz := Heap.SameBut.update (h := hp) (a := z) (f := Obj.mapFields fun x => x.setIfInBounds 0 Value.ellipsis)
  have h1' := h1.extBut sz.extBut D.i1z
  have hl1' := hl1.extBut sz.extBut D.l1z
  wp_walk using wpAny_onRaise, (wpAny_nextOf_list_item h1' hl1' hx)
  intro h₂ h1₂ hs₂
  have hTO₂ : IsPair h₂ TO p q := hs₂.extBut _ _ D.TOi1 (sz.extBut _ _ D.TOz hTO)
  have st := Heap.SameBut.update (h := h₂) (a := TO) (f := Obj.mapSeq fun q => q.setIfInBounds 0 x)
  have h2' := ((h2.extBut sz.extBut D.i2z).extBut hs₂.extBut D.i12.symm).extBut st.extBut D.TOi2.symm
  have hl2' := ((hl2.extBut sz.extBut D.l2z).extBut hs₂.extBut D.l2i1).extBut st.extBut D.l2TO
  wp_walk using wpAny_onRaise, (wpAny_nextOf_tuple_item h2' hl2' hy)
  intro h₄ h2₄ hs₄
  have hTO₃ : IsPair (h₂.update TO (Obj.mapSeq fun q => q.setIfInBounds 0 x)) TO x q := Heap.get?_update_self _ hTO₂ rfl
  have hTO₄ : IsPair h₄ TO x q := hs₄.extBut _ _ D.TOi2 hTO₃
  have hz₂ : h₂.get? z = some { cls := .type "zip", dict := none, data := .fields #[.ellipsis, .bool false, .bool false, .ref TI, .ref TO], slots := #[] } := hs₂.extBut _ _ D.i1z.symm (Heap.get?_update_self _ hz rfl)
  have hz₄ : h₄.get? z = some { cls := .type "zip", dict := none, data := .fields #[.ellipsis, .bool false, .bool false, .ref TI, .ref TO], slots := #[] } := hs₄.extBut _ _ D.i2z.symm (st.extBut _ _ D.TOz.symm hz₂)
  have h1₄ := (h1₂.extBut st.extBut D.TOi1.symm).extBut hs₄.extBut D.i12
  have ne1 := D.TOz
  wp_walk
  have sA := Heap.SameBut.update (h := h₄) (a := TO) (f := Obj.mapSeq fun q => q.setIfInBounds (0 + 1) y)
  have hTO₅ : IsPair (h₄.update TO (Obj.mapSeq fun q => q.setIfInBounds (0 + 1) y)) TO x y := Heap.get?_update_self _ hTO₄ rfl
  have hz₅ := sA.extBut _ _ D.TOz.symm hz₄
  have e0 : (h₄.update TO (Obj.mapSeq fun q => q.setIfInBounds (0 + 1) y)).objs.size = hp.objs.size := by rw [sA.1, hs₄.1, st.1, hs₂.1, sz.1]
  have k₅ : ∀ c o, c ≠ z → c ≠ TO → c ≠ i1 → c ≠ i2 → hp.get? c = some o → (h₄.update TO (Obj.mapSeq fun q => q.setIfInBounds (0 + 1) y)).get? c = some o := fun c o c1 c2 c3 c4 e =>
    sA.extBut _ _ c2 (hs₄.extBut _ _ c4 (st.extBut _ _ c2 (hs₂.extBut _ _ c3 (sz.extBut _ _ c1 e))))
  have h1₅ := h1₄.extBut sA.extBut D.TOi1.symm
  have h2₅ := h2₄.extBut sA.extBut D.TOi2.symm
  have zlt : z < (h₄.update TO (Obj.mapSeq fun q => q.setIfInBounds (0 + 1) y)).objs.size := Heap.lt_size hz₅
  generalize h₄.update TO (Obj.mapSeq fun q => q.setIfInBounds (0 + 1) y) = h₅ at hTO₅ hz₅ e0 k₅ h1₅ h2₅ zlt ⊢
  have hp6 : IsPair (h₅.push { cls := .type "tuple", data := .seq #[x, y] }) h₅.objs.size x y := Heap.get?_push_size _ rfl
  have hz6 := Heap.get?_push_of_some { cls := .type "tuple", data := .seq #[x, y] } hz₅
  have sB := Heap.SameBut.update (h := h₅.push { cls := .type "tuple", data := .seq #[x, y] }) (a := z) (f := Obj.mapFields fun q => q.setIfInBounds 0 (rawInt h₅.objs.size))
  have hz7 := Heap.get?_update_self (Obj.mapFields fun q => q.setIfInBounds 0 (rawInt h₅.objs.size)) hz6 rfl
  have sC := Heap.SameBut.update (h := (h₅.push { cls := .type "tuple", data := .seq #[x, y] }).update z (Obj.mapFields fun q => q.setIfInBounds 0 (rawInt h₅.objs.size))) (a := z) (f := Obj.mapFields fun q => q.setIfInBounds 1 (.bool false))
  have hz8 := Heap.get?_update_self (Obj.mapFields fun q => q.setIfInBounds 1 (.bool false)) hz7 rfl
  have up : ∀ c o, c ≠ z → h₅.get? c = some o → (((h₅.push { cls := .type "tuple", data := .seq #[x, y] }).update z (Obj.mapFields fun q => q.setIfInBounds 0 (rawInt h₅.objs.size))).update z (Obj.mapFields fun q => q.setIfInBounds 1 (.bool false))).get? c = some o := fun c o c1 e => sC.extBut _ _ c1 (sB.extBut _ _ c1 (Heap.get?_push_of_some _ e))
  have fin := fun h' a1 a2 a3 a4 a5 a6 => hQ h' a1 a2 a3 a4 a5 a6
  have e1 : ({ heap := hp, gens := g, drawn := d, toks := tk, os := os } : Shared).heap.objs.size = h₅.objs.size := e0.symm
  rw [e1] at fin
  exact ⟨_, rfl, fin _ hz8 (up _ _ D.TOz hTO₅) (h1₅.at fun o e => up _ o D.i1z e) (h2₅.at fun o e => up _ o D.i2z e) (sC.extBut _ _ (Nat.ne_of_gt zlt) (sB.extBut _ _ (Nat.ne_of_gt zlt) hp6)) fun c o c1 c2 c3 c4 e => up c o c1 (k₅ c o c1 c2 c3 c4 e)⟩
theorem zx_last {Q : PySem.Fin → Shared → Prop} (hh : A.handled = none) (D : ZipApart z TI TO i1 i2 a b) (t : ZxT a b z TI TO i1 i2 k s.heap) (hl1 : s.heap.IsList a xs) (hx : xs[k]? = none)
    (hE : ∀ h' e, (∀ c o, c ≠ z → c ≠ TO → c ≠ i1 → c ≠ i2 → s.heap.get? c = some o → h'.get? c = some o) → (∃ o, h'.get? e = some o ∧ o.cls = .type "StopIteration") → E (.ref e) { s with heap := h' }) :
    wpAny (model P w) A (Builtin.«zip.__next__» ⟨[.ref z], []⟩) Q E s := by
  obtain ⟨hz, hTI, ⟨p, q, hTO⟩, h1, h2⟩ := t
  obtain ⟨hp, g, d, tk, os⟩ := s
  have sz := Heap.SameBut.update (h := hp) (a := z) (f := Obj.mapFields fun x => x.setIfInBounds 0 Value.ellipsis)
  have h1' := h1.extBut sz.extBut D.i1z
  have hl1' := hl1.extBut sz.extBut D.l1z
  wp_walk using wpAny_onRaise, (wpAny_nextOf_list_end hh h1' hl1' hx)
  intro h₂ e hs₂ he
  obtain ⟨oe, hoe, hce⟩ := he
  have hz₂ : h₂.get? z = some { cls := .type "zip", dict := none, data := .fields #[.ellipsis, .bool false, .bool false, .ref TI, .ref TO], slots := #[] } := hs₂ _ _ D.i1z.symm (Heap.get?_update_self _ hz rfl)
  have ez : e ≠ z := fun q => by
    rw [q, hz₂] at hoe
    cases hoe
    simp at hce
  refine wpAny_setField_rec hz₂ (by simp) fun h₃ _ hs₃ => hE h₃ e (fun c o c1 _ c3 _ q => hs₃.extBut _ _ c1 (hs₂ _ _ c3 (sz.extBut _ _ c1 q))) ⟨oe, hs₃.extBut _ _ ez hoe, hce⟩
/-- one turn -/
theorem zx_item {x y : Value} {Q : Option Value → Shared → Prop} (D : ZipApart z TI TO i1 i2 a b) (t : ZxT a b z TI TO i1 i2 k s.heap) (hl1 : s.heap.IsList a xs) (hl2 : s.heap.IsTuple b ys) (hx : xs[k]? = some x) (hy : ys[k]? = some y)
    (hQ : ∀ h', IsZip h' z TI TO (rawInt s.heap.objs.size) → IsPair h' TI (.ref i1) (.ref i2) → IsPair h' TO x y → h'.IsListIter i1 a (k + 1) → h'.IsTupleIter i2 b (k + 1) → IsPair h' s.heap.objs.size x y →
      (∀ c o, c ∉ [z, TI, TO, i1, i2] → s.heap.get? c = some o → h'.get? c = some o) → Q (some (.ref s.heap.objs.size)) { s with heap := h' }) : wpAny (model P w) A (pyNext (.ref z)) Q E s := by
  have hT : s.TypeIs (.ref z) "zip" := ⟨_, t.zs, rfl⟩
  unfold pyNext
  exact wpAny_bind (wpAny_attempt (wpAny_callSpecial?_slot (name := Str.ofString "__next__") hT F.slot_zip_next
    (wpAny_call_entry F.slot_zip_next hT F.entry_zip_next (zx_next D t hl1 hl2 hx hy fun h' a1 a2 a3 a4 a5 a6 =>
      wpAny_pure (hQ h' a1 (a6 _ _ D.TIz D.TITO D.TIi1 D.TIi2 t.ti) a2 a3 a4 a5 fun c o m q => a6 c o (fun r => m (by simp [r])) (fun r => m (by simp [r])) (fun r => m (by simp [r])) (fun r => m (by simp [r])) q)) (F.args_zip_next_1 _))))
/-- no more -/
theorem zx_end {Q : Option Value → Shared → Prop} (hh : A.handled = none) (D : ZipApart z TI TO i1 i2 a b) (t : ZxT a b z TI TO i1 i2 k s.heap) (hl1 : s.heap.IsList a xs) (hx : xs[k]? = none)
    (hQ : ∀ h', (∀ c o, c ∉ [z, TI, TO, i1, i2] → s.heap.get? c = some o → h'.get? c = some o) → Q none { s with heap := h' }) : wpAny (model P w) A (pyNext (.ref z)) Q E s := by
  have hT : s.TypeIs (.ref z) "zip" := ⟨_, t.zs, rfl⟩
  unfold pyNext
  refine wpAny_bind (wpAny_attempt (wpAny_callSpecial?_slot (name := Str.ofString "__next__") hT F.slot_zip_next
    (wpAny_call_entry F.slot_zip_next hT F.entry_zip_next (zx_last hh D t hl1 hx fun h' e kp he => ?_) (F.args_zip_next_1 _))))
  obtain ⟨o, ho, hc⟩ := he
  refine wpAny_bind (wpAny_isInstance (T := "StopIteration") (b := true) ⟨o, ho, hc⟩ isSubtype_stop ?_)
  exact wpAny_pure (hQ _ fun c o m q => kp c o (fun r => m (by simp [r])) (fun r => m (by simp [r])) (fun r => m (by simp [r])) (fun r => m (by simp [r])) q)
end
end Ev

/-! ## loops over a zip of a list and a tuple -/
namespace Ev
open PySem PySem.Spec PyProof.Rows L2
def ItZx (K : PySem.W.Frag) (a b : Addr) : L2.It where
  go i H := ∃ (xs ys : List V) (x y : V), SqL K H a xs ∧ SqT K H b ys ∧ xs[i]? = some x ∧ ys[i]? = some y
  yld i H v H' := ∃ T x y, v = V.ref T ∧ H T = none ∧ H' = upd H T (.tup [x, y]) ∧ (∀ xs, SqL K H a xs → xs[i]? = some x) ∧ ∀ ys, SqT K H b ys → ys[i]? = some y
  stop i H := ∃ xs ys : List V, SqL K H a xs ∧ SqT K H b ys ∧ xs.length ≤ i
theorem turn_zx {P : Program} {w : World} {K : PySem.W.Frag} {elts : List Expr} {kk : Nat} {tpos : Pos} {a b z TI TO i1 i2 : Addr} (D : ZipApart z TI TO i1 i2 a b) :
    L2.Turn P w K (.Tuple elts kk tpos) (ItZx K a b) [z, TI, TO, i1, i2] z (ZxT a b z TI TO i1 i2) where
  mem := List.mem_cons_self ..
  obj i h st c hc := st.cell hc
  keep i h h' st k := st.keep k
  item := by
    rintro X rfl rfl rfl calm i pins s σ H E I own st ⟨xs, ys, x, y, hqx, hqy, hx, hy⟩
    obtain ⟨its, rv, p, _⟩ := I.list hqx
    obtain ⟨its2, rv2, p2, _⟩ := I.tuple hqy
    obtain ⟨u, hu, ru⟩ := rv.get hx
    obtain ⟨u2, hu2, ru2⟩ := rv2.get hy
    have lt : ∀ c ∈ [z, TI, TO, i1, i2], c < s.heap.objs.size := fun c m => by
      obtain ⟨o, q, _⟩ := st.cell m
      exact Heap.lt_size q
    refine zx_item D st p.isList p2 (x := u) (y := u2) (by simpa using hu) (by simpa using hu2) fun h1 z1 ti to l1 l2 pT k1 => ?_
    refine ⟨_, rfl, wpAny_letOwnedTupleGo_zip (s := { s with heap := h1 }) z1 fun h2 z2 sb => ?_⟩
    have pT2 := sb.extBut _ _ (Nat.ne_of_gt (lt z (by simp))) pT
    have newT : ObjOk X.prog X.w (upd H s.heap.objs.size (.tup [x, y])) h2 s.heap.objs.size (.tup [x, y]) := ⟨by show 2 ≤ sizeLine; decide, [u, u2], .cons ru (.cons ru2 .nil), ⟨_, pT2, rfl, _, rfl⟩⟩
    have J : Inv X pins σ (upd H s.heap.objs.size (.tup [x, y])) { s with heap := h2 } := I.turnedNew (t' := s.toks) (ch := [z, TI, TO, i1, i2]) (fun c o m q => sb.extBut c o (fun r => m (by simp [r])) (k1 c o m q)) own (Nat.le_refl _) newT
    refine ⟨.ref s.heap.objs.size, _, J, rfl, ⟨_, x, y, rfl, I.hok.fresh (Nat.le_refl _), rfl, fun l hl => by rw [I.list_inj hl hqx]; exact hx, fun l hl => by rw [I.tuple_inj hl hqy]; exact hy⟩, ⟨z2, sb.extBut _ _ D.TIz ti, ⟨u, u2, sb.extBut _ _ D.TOz to⟩, l1.at fun o q => sb.extBut _ o D.i1z q, l2.at fun o q => sb.extBut _ o D.i2z q⟩, fun c m => ?_⟩
    rw [upd_ne (Nat.ne_of_lt (lt c m))]
    exact (own c m).1
  done := by
    rintro X rfl rfl rfl calm i pins s σ H E I own st ⟨xs, ys, hqx, hqy, hl⟩
    obtain ⟨its, rv, p, _⟩ := I.list hqx
    have l1 := rv.length
    exact zx_end (I.ok.hd calm) D st p.isList (by simp; omega) fun h' k => ⟨rfl, I.turnedL (t' := s.toks) (ch := [z, TI, TO, i1, i2]) (fun c o hb q => k c o hb q) own⟩
  self A i s Q E st h := wpAny_pyIter_zip st.zs h
theorem walk_zx {K : PySem.W.Frag} {a b : Addr} {xs ys : List V} (h : xs.length = ys.length) : Walk (ItZx K a b) xs.length (fun H => SqL K H a xs ∧ SqT K H b ys) (YPair (fun i => xs[i]?) (fun i => ys[i]?)) where
  goes i H hi := fun ⟨q1, q2⟩ => ⟨xs, ys, xs[i], ys[i]'(h ▸ hi), q1, q2, List.getElem?_eq_getElem hi, List.getElem?_eq_getElem _⟩
  stops H := fun ⟨q1, q2⟩ => ⟨xs, ys, q1, q2, Nat.le_refl _⟩
  yields i H v H' _ := by
    rintro ⟨q1, q2⟩ ⟨T, x, y, rfl, n1, rfl, hx, hy⟩
    exact ⟨T, x, y, rfl, n1, rfl, hx xs q1, hy ys q2⟩
end Ev

/-! ## list(zip(a, b)), a and b of any kind that iterators are known of -/
namespace Ev
open PySem PySem.Spec PyProof.Rows L2
section
variable {P : Program} {w : World} {A : Around} {E : Value → Shared → Prop} {s : Shared} {z TI TO i1 i2 T : Addr} {fl : Bool} {oT : Obj} {fp1 fp2 : List Addr} {n1 n2 i : Nat} {P1 P2 : Nat → Value → Prop} {St1 St2 : Nat → Heap → Prop}
/-- zip's next while the tuple that it gave out before lives on -/
theorem zd_held {Q : Value → Shared → Prop} (S : ZipSep2 z TI TO i1 i2 fp1 fp2) (D1 : Draws P w A i1 fp1 n1 P1 St1) (D2 : Draws P w A i2 fp2 n2 P2 St2) (hz : IsZipHeld s.heap z TI TO T fl) (hT : s.heap.get? T = some oT) (hTI : IsTupOf2 s.heap TI (.ref i1) (.ref i2)) (st1 : St1 i s.heap) (st2 : St2 i s.heap) (hlt1 : i < n1) (hlt2 : i < n2)
    (hQ : ∀ x1 x2 h' tk, P1 i x1 → P2 i x2 → IsZipHeld h' z TI TO T true → St1 (i + 1) h' → St2 (i + 1) h' → IsTupOf2 h' s.heap.objs.size x1 x2 → h'.objs.size = s.heap.objs.size + 1 → (∀ c o, c ≠ z → c ≠ i1 → c ≠ i2 → s.heap.get? c = some o → h'.get? c = some o) → Q (.ref s.heap.objs.size) { s with heap := h', toks := tk }) :
    wpAny (model P w) A (Builtin.«zip.__next__» ⟨[.ref z], []⟩) (fun fin s' => ∃ v, fin = .done (.ret v) ∧ Q v s') E s := by
  have own : ∀ Q' : Bool → Shared → Prop, (∀ h', IsZipHeld h' z TI TO T true → Heap.SameBut z s.heap h' → Q' false { s with heap := h' }) → wpAny (model P w) A (Builtin.SmallTypes.ownedTupleIsFree (.ref z)) Q' E s := fun Q' h => wpAny_tupleHeld_zip hz hT h
  obtain ⟨hp, gs, dr, tk, os⟩ := s
  wp_walk using own
  intro g1 hz1 s1
  simp only [Bool.false_eq_true, if_false]; refine wpAny_bind ?_
  rw [← Array.forIn_toList]; simp only [List.forIn_cons, List.forIn_nil]
  wp_walk using wpAny_holding, (D1.item i _ _ _ hlt1 (D1.over st1 s1 S.zf1))
  intro x1 g2 k2 p1 t1 s2
  wp_walk using wpAny_holding, (D2.item i _ _ _ hlt2 (D2.over (D2.over st2 s1 S.zf2) s2 S.sep1_2))
  intro x2 g3 k3 p2 t2 s3
  wp_walk
  have e1 : g3.objs.size = hp.objs.size := by rw [s3.1, s2.1, s1.1]
  have hz3 : IsZipHeld g3 z TI TO T true := s3.extBut _ _ S.zi2 (s2.extBut _ _ S.zi1 hz1)
  have kp : ∀ c o, c ≠ z → c ≠ i1 → c ≠ i2 → hp.get? c = some o → g3.get? c = some o := fun c o c1 c2 c3 e => s3.extBut _ _ c3 (s2.extBut _ _ c2 (s1.extBut _ _ c1 e))
  have st1' : St1 (i + 1) g3 := D1.over t1 s3 S.sep2_1
  have fin := fun h' => hQ x1 x2 h'
  have e2 : ({ heap := hp, gens := gs, drawn := dr, toks := tk, os := os } : Shared).heap.objs.size = g3.objs.size := e1.symm
  rw [e2] at fin
  exact ⟨_, rfl, fin _ _ p1 p2 (Heap.get?_push_of_some _ hz3) (D1.frame _ _ _ st1' fun b _ o e => Heap.get?_push_of_some _ e) (D2.frame _ _ _ t2 fun b _ o e => Heap.get?_push_of_some _ e) (Heap.get?_push_size _ rfl) (Heap.size_push ..) fun c o c1 c2 c3 e => Heap.get?_push_of_some _ (kp c o c1 c2 c3 e)⟩
theorem zd_held_end {Q : PySem.Fin → Shared → Prop} (S : ZipSep2 z TI TO i1 i2 fp1 fp2) (D1 : Draws P w A i1 fp1 n1 P1 St1) (hz : IsZipHeld s.heap z TI TO T fl) (hT : s.heap.get? T = some oT) (hTI : IsTupOf2 s.heap TI (.ref i1) (.ref i2)) (st1 : St1 n1 s.heap) (hE : ∀ h' e, (∀ c o, c ≠ z → c ≠ i1 → c ≠ i2 → s.heap.get? c = some o → h'.get? c = some o) → (∃ o, h'.get? e = some o ∧ o.cls = .type "StopIteration") → E (.ref e) { s with heap := h' }) :
    wpAny (model P w) A (Builtin.«zip.__next__» ⟨[.ref z], []⟩) Q E s := by
  have own : ∀ Q' : Bool → Shared → Prop, (∀ h', IsZipHeld h' z TI TO T true → Heap.SameBut z s.heap h' → Q' false { s with heap := h' }) → wpAny (model P w) A (Builtin.SmallTypes.ownedTupleIsFree (.ref z)) Q' E s := fun Q' h => wpAny_tupleHeld_zip hz hT h
  obtain ⟨hp, gs, dr, tk, os⟩ := s
  wp_walk using own
  intro g1 hz1 s1
  simp only [Bool.false_eq_true, if_false]; refine wpAny_bind ?_
  rw [← Array.forIn_toList]; simp only [List.forIn_cons, List.forIn_nil]
  wp_walk using wpAny_holding, (D1.done _ _ _ (D1.over st1 s1 S.zf1))
  intro h' e x he
  exact hE h' e (fun c o c1 c2 _ q => x _ _ c2 (s1.extBut _ _ c1 q)) he
end
theorem zip_no_len : typeLookup (.type "zip") "__len__" = pure none := am_miss_of_fast (by decide +kernel)
theorem zip_no_hint : typeLookup (.type "zip") "__length_hint__" = pure none := am_miss_of_fast (by decide +kernel)
/-- a zip of which no tuple was given out yet, or one whose last tuple lives on -/
def ZL (h : Heap) (z TI TO i1 i2 : Addr) : Prop := ((IsZip h z TI TO .none ∧ ∃ a b, IsTupOf2 h TO a b) ∨ ∃ T fl oT, IsZipHeld h z TI TO T fl ∧ h.get? T = some oT ∧ T ∉ [z, TI, TO, i1, i2]) ∧ IsTupOf2 h TI (.ref i1) (.ref i2)
section
variable {P : Program} {w : World} {A : Around} {E : Value → Shared → Prop} {s : Shared} {z TI TO i1 i2 : Addr} {fp1 fp2 : List Addr} {n1 n2 i : Nat} {P1 P2 : Nat → Value → Prop} {St1 St2 : Nat → Heap → Prop}
theorem zl_item {Q : Option Value → Shared → Prop} (S : ZipSep2 z TI TO i1 i2 fp1 fp2) (D1 : Draws P w A.in1 i1 fp1 n1 P1 St1) (D2 : Draws P w A.in1 i2 fp2 n2 P2 St2) (hz : ZL s.heap z TI TO i1 i2) (lo : ∀ c ∈ [z, TI, TO, i1, i2], c < s.heap.objs.size) (st1 : St1 i s.heap) (st2 : St2 i s.heap) (hlt1 : i < n1) (hlt2 : i < n2)
    (hQ : ∀ x1 x2 h' tk, P1 i x1 → P2 i x2 → ZL h' z TI TO i1 i2 → St1 (i + 1) h' → St2 (i + 1) h' → IsTupOf2 h' s.heap.objs.size x1 x2 → h'.objs.size = s.heap.objs.size + 1 → (∀ c o, c ∉ [z, TO, i1, i2] → s.heap.get? c = some o → h'.get? c = some o) → Q (some (.ref s.heap.objs.size)) { s with heap := h', toks := tk }) :
    wpAny (model P w) A (pyNext (.ref z)) Q E s := by
  obtain ⟨hz, hTI⟩ := hz
  have fr : s.heap.objs.size ∉ [z, TI, TO, i1, i2] := fun m => Nat.lt_irrefl _ (lo _ m)
  rcases hz with ⟨hz, a, b, hTO⟩ | ⟨T, fl, oT, hz, hT, hn⟩
  · refine wpAny_pyNext_zipD2_item S D1 D2 hz hTI hTO st1 st2 hlt1 hlt2 fun x1 x2 h' tk p1 p2 z' _ t1 t2 hp sz kp => ?_
    exact hQ x1 x2 h' tk p1 p2 ⟨.inr ⟨_, false, _, z', hp, fr⟩, kp _ _ S.TIz S.TITO S.TIi1 S.TIi2 hTI⟩ t1 t2 hp sz fun c o m e => kp c o (fun r => m (by simp [r])) (fun r => m (by simp [r])) (fun r => m (by simp [r])) (fun r => m (by simp [r])) e
  · have ty : s.TypeIs (.ref z) "zip" := ⟨_, hz, rfl⟩
    unfold pyNext
    refine wpAny_bind (wpAny_attempt (wpAny_callSpecial?_slot (name := Str.ofString "__next__") ty F.slot_zip_next (wpAny_call_entry F.slot_zip_next ty F.entry_zip_next (zd_held S D1 D2 hz hT hTI st1 st2 hlt1 hlt2 fun x1 x2 h' tk p1 p2 z' t1 t2 hp sz kp => wpAny_pure ?_) (F.args_zip_next_1 _))))
    exact hQ x1 x2 h' tk p1 p2 ⟨.inr ⟨T, true, oT, z', kp _ _ (fun r => hn (by simp [r])) (fun r => hn (by simp [r])) (fun r => hn (by simp [r])) hT, hn⟩, kp _ _ S.TIz S.TIi1 S.TIi2 hTI⟩ t1 t2 hp sz fun c o m e => kp c o (fun r => m (by simp [r])) (fun r => m (by simp [r])) (fun r => m (by simp [r])) e
theorem zl_end {Q : Option Value → Shared → Prop} (S : ZipSep2 z TI TO i1 i2 fp1 fp2) (D1 : Draws P w A.in1 i1 fp1 n1 P1 St1) (D2 : Draws P w A.in1 i2 fp2 n1 P2 St2) (hz : ZL s.heap z TI TO i1 i2) (st1 : St1 n1 s.heap) (st2 : St2 n1 s.heap)
    (hQ : ∀ h' tk, (∀ c o, c ∉ [z, TO, i1, i2] → s.heap.get? c = some o → h'.get? c = some o) → Q none { s with heap := h', toks := tk }) : wpAny (model P w) A (pyNext (.ref z)) Q E s := by
  obtain ⟨hz, hTI⟩ := hz
  rcases hz with ⟨hz, a, b, hTO⟩ | ⟨T, fl, oT, hz, hT, hn⟩
  · exact wpAny_pyNext_zipD2_end S D1 D2 hz hTI hTO st1 st2 (Nat.le_refl _) (Nat.le_refl _) (.inl rfl) fun h' tk kp => hQ h' tk fun c o m e => kp c o (fun r => m (by simp [r])) (fun r => m (by simp [r])) (fun r => m (by simp [r])) (fun r => m (by simp [r])) e
  · have ty : s.TypeIs (.ref z) "zip" := ⟨_, hz, rfl⟩
    unfold pyNext
    refine wpAny_bind (wpAny_attempt (wpAny_callSpecial?_slot (name := Str.ofString "__next__") ty F.slot_zip_next (wpAny_call_entry F.slot_zip_next ty F.entry_zip_next (zd_held_end S D1 hz hT hTI st1 fun h' e kp he => ?_) (F.args_zip_next_1 _))))
    obtain ⟨o, ho, hc⟩ := he
    refine wpAny_bind (wpAny_isInstance (T := "StopIteration") (b := true) ⟨o, ho, hc⟩ isSubtype_stop (wpAny_pure (hQ _ _ fun c o m q => kp c o (fun r => m (by simp [r])) (fun r => m (by simp [r])) (fun r => m (by simp [r])) q)))
end
end Ev

/-! ## list(zip(a, b)): the list as it grows -/
namespace Ev
open PySem PySem.Spec PyProof.Rows L2
section
variable {X : Cx} {pins : List (Addr × Obj)} {σ : L2.St} {z TI TO i1 i2 a b L : Addr} {xs ys : List V} {its its2 : List Value}
/-- what stands while the list grows -/
structure ZlI (X : Cx) (pins : List (Addr × Obj)) (σ : L2.St) (z TI TO i1 i2 a b L : Addr) (xs ys : List V) (its its2 : List Value) (i : Nat) (H0 H : Hp) (s : Shared) (Ts : List Addr) (c : Nat) : Prop where
  inv : Inv X pins σ H s
  own : ∀ c ∈ [z, TI, TO, i1, i2, L], FpOk X pins H c
  zl : ZL s.heap z TI TO i1 i2
  lo : ∀ c ∈ [z, TI, TO, i1, i2], c < s.heap.objs.size
  s1 : s.heap.IsListIter i1 a i ∧ s.heap.IsList a its.toArray
  s2 : s.heap.IsTupleIter i2 b i ∧ s.heap.IsTuple b its2.toArray
  lst : s.heap.get? L = some { cls := .type "list", dict := none, data := .seq (Ts.map Value.ref).toArray c, slots := #[] }
  len : Ts.length = i
  sm : Same H0 H
  tup : ∀ (j : Nat) (T : Addr), Ts[j]? = some T → ∃ x y, xs[j]? = some x ∧ ys[j]? = some y ∧ H T = some (.tup [x, y])
theorem zl_loop (calm : X.calm = true) (S : ZipSep2 z TI TO i1 i2 [i1, a] [i2, b]) (D : a ≠ i1 ∧ b ≠ i2) (hL : L ∉ [z, TI, TO, i1, i2, a, b]) (rv : Vals xs its) (rv2 : Vals ys its2) (hl : xs.length = ys.length) (hn : xs.length ≤ 1000) {R : Result → Shared → Prop} {A : Around} (hA : A.in1.in1.handled = none) (H0 : Hp) (res : Value)
    (hR : ∀ (H : Hp) (s : Shared) (Ts : List Addr) (c : Nat), Inv X pins σ H s → FpOk X pins H L → s.heap.get? L = some { cls := .type "list", dict := none, data := .seq (Ts.map Value.ref).toArray c, slots := #[] } → Ts.length = xs.length → Same H0 H →
      (∀ (j : Nat) (T : Addr), Ts[j]? = some T → ∃ x y, xs[j]? = some x ∧ ys[j]? = some y ∧ H T = some (.tup [x, y])) → R (.ok (.ret res)) s) :
    ∀ (k i : Nat) (H : Hp) (s : Shared) (Ts : List Addr) (c : Nat), xs.length - i = k → i ≤ xs.length → ZlI X pins σ z TI TO i1 i2 a b L xs ys its its2 i H0 H s Ts c →
      codeAny (model X.prog X.w) A (.builtin "list.extend.loop" ⟨[.ref L, .ref z, res], []⟩) R s := by
  have l1 := rv.length
  have l2 := rv2.length
  have ai : a ≠ i1 := D.1
  have bi : b ≠ i2 := D.2
  have D1 := Draws.list (prog := X.prog) (w := X.w) (A := A.in1.in1) hA i1 a ai its.toArray
  have D2 := Draws.tuple (prog := X.prog) (w := X.w) (A := A.in1.in1) hA i2 b bi its2.toArray
  have l3 : its.toArray.size = xs.length := by simp [l1]
  have l4 : its2.toArray.size = xs.length := by simp [l2, hl]
  rw [l3] at D1
  rw [l4] at D2
  obtain ⟨q1, q2, q3, q4, q5, q6, q7⟩ : L ≠ z ∧ L ≠ TI ∧ L ≠ TO ∧ L ≠ i1 ∧ L ≠ i2 ∧ L ≠ a ∧ L ≠ b := by simpa using hL
  have hL4 : L ∉ [z, TO, i1, i2] := by simp [q1, q3, q4, q5]
  intro k
  induction k with
  | zero =>
    intro i H s Ts c hk hi zi
    obtain rfl : i = xs.length := by omega
    refine codeAny_builtin F.entry_extend_loop ?_; rw [Around.under_plainId F.plain_extend_loop _]; show wpAny _ A.in1 (pyNext (.ref _) >>= _) _ _ s
    refine wpAny_bind (zl_end S D1 D2 zi.zl zi.s1 zi.s2 fun h' tk kp => wpAny_pure (hR H _ Ts c (zi.inv.turnedL (t' := tk) kp fun c m => zi.own c ?_) (zi.own L (by simp)) (kp _ _ hL4 zi.lst) zi.len zi.sm zi.tup))
    simp only [List.mem_cons, List.not_mem_nil, or_false] at m ⊢
    rcases m with m | m | m | m <;> simp [m]
  | succ k ih =>
    intro i H s Ts c hk hi zi
    have hlt : i < xs.length := by omega
    refine codeAny_builtin F.entry_extend_loop ?_; rw [Around.under_plainId F.plain_extend_loop _]; show wpAny _ A.in1 (pyNext (.ref _) >>= _) _ _ s
    refine wpAny_bind (zl_item S D1 D2 zi.zl zi.lo zi.s1 zi.s2 hlt hlt fun x1 x2 h' tk p1 p2 z' t1 t2 hp sz kp => ?_)
    obtain ⟨u1, hu1, r1⟩ := rv.get (List.getElem?_eq_getElem hlt)
    obtain ⟨u2, hu2, r2⟩ := rv2.get (List.getElem?_eq_getElem (show i < ys.length by omega))
    obtain rfl : u1 = x1 := by
      have p1 : its.toArray[i]? = some x1 := p1
      rw [List.getElem?_toArray, hu1] at p1
      injection p1
    obtain rfl : u2 = x2 := by
      have p2 : its2.toArray[i]? = some x2 := p2
      rw [List.getElem?_toArray, hu2] at p2
      injection p2
    have own4 : ∀ c ∈ [z, TO, i1, i2], FpOk X pins H c := fun c m => zi.own c (by
      simp only [List.mem_cons, List.not_mem_nil, or_false] at m ⊢
      rcases m with m | m | m | m <;> simp [m])
    have new : ObjOk X.prog X.w (upd H s.heap.objs.size (.tup [xs[i], ys[i]])) h' s.heap.objs.size (.tup [xs[i], ys[i]]) := ⟨by show 2 ≤ sizeLine; decide, [u1, u2], .cons r1 (.cons r2 .nil), ⟨_, hp, rfl, _, rfl⟩⟩
    have hn0 : H s.heap.objs.size = none := zi.inv.hok.fresh (Nat.le_refl _)
    have J : Inv X pins σ (upd H s.heap.objs.size (.tup [xs[i], ys[i]])) { s with heap := h', toks := tk } := zi.inv.turnedNew (t' := tk) kp own4 (Nat.le_refl _) new
    have hL' := kp _ _ hL4 zi.lst
    have lt6 : ∀ c ∈ [z, TI, TO, i1, i2, L], c < s.heap.objs.size := fun c m => by
      by_cases e : c = L
      · rw [e]
        exact Heap.lt_size zi.lst
      · refine zi.lo c ?_
        simp only [List.mem_cons, List.not_mem_nil, or_false] at m ⊢
        rcases m with m | m | m | m | m | m <;> simp [m] at e ⊢
    have own' : ∀ c ∈ [z, TI, TO, i1, i2, L], FpOk X pins (upd H s.heap.objs.size (.tup [xs[i], ys[i]])) c := fun c m => by
      obtain ⟨o1, o2⟩ := zi.own c m
      exact ⟨by rw [upd_ne (Nat.ne_of_lt (lt6 c m))]; exact o1, o2⟩
    show wpAny _ A.in1 (updateSeq L (·.push (.ref s.heap.objs.size)) >>= _) _ _ _
    have up : ∀ b o, b ≠ L → h'.get? b = some o → (h'.update L (Obj.mapSeq (·.push (.ref s.heap.objs.size)))).get? b = some o := fun b o nb e => (Heap.get?_update_other _ _ (Ne.symm nb)).trans e
    have sz2 : (h'.update L (Obj.mapSeq (·.push (.ref s.heap.objs.size)))).objs.size = h'.objs.size := (Heap.SameBut.update ..).1
    obtain ⟨c2, hc2⟩ : ∃ c2, (h'.update L (Obj.mapSeq (·.push (.ref s.heap.objs.size)))).get? L = some { cls := .type "list", dict := none, data := .seq ((Ts ++ [s.heap.objs.size]).map Value.ref).toArray c2, slots := #[] } := by
      have e := Heap.get?_update_self (Obj.mapSeq (·.push (.ref s.heap.objs.size))) hL' rfl
      simp only [Obj.mapSeq] at e
      exact ⟨_, e.trans (by simp; rfl)⟩
    have sl := sizeLine_eq
    have hTl := zi.len
    refine wpAny_bind (wpAny_updateSeq hL' rfl (wpAny_pure ⟨plainId_quiet F.plain_extend_loop _, ih (i + 1) (upd H s.heap.objs.size (.tup [xs[i], ys[i]])) _ (Ts ++ [s.heap.objs.size]) c2 (by omega) hlt ?_⟩) (by simp; omega) (by simp; omega))
    refine ⟨J.turnedL (t' := tk) (ch := [L]) (fun b o nb e => up b o (fun r => nb (by simp [r])) e) (fun c m => own' c (by simp [List.mem_singleton.mp m])), own', ?_, ?_, ?_, ?_, ?_, ?_, ?_, ?_⟩
    · obtain ⟨hz, hTI⟩ := z'
      refine ⟨?_, up _ _ q2.symm hTI⟩
      rcases hz with ⟨hz, x, y, hTO⟩ | ⟨T, fl, oT, hz, hT, hn⟩
      · exact .inl ⟨up _ _ q1.symm hz, x, y, up _ _ q3.symm hTO⟩
      · by_cases e : T = L
        · subst e
          exact .inr ⟨_, fl, _, up _ _ q1.symm hz, Heap.get?_update_self _ hL' rfl, hn⟩
        · exact .inr ⟨T, fl, oT, up _ _ q1.symm hz, up _ _ e hT, hn⟩
    · intro c m
      show c < (h'.update L (Obj.mapSeq (·.push (.ref s.heap.objs.size)))).objs.size
      rw [sz2, sz]
      exact Nat.lt_succ_of_lt (zi.lo c m)
    · exact D1.frame _ _ _ t1 fun b hb o e => up b o (fun r => by
        simp only [List.mem_cons, List.not_mem_nil, or_false] at hb; rcases hb with hb | hb
        · exact q4 (r.symm.trans hb)
        · exact q6 (r.symm.trans hb)) e
    · exact D2.frame _ _ _ t2 fun b hb o e => up b o (fun r => by
        simp only [List.mem_cons, List.not_mem_nil, or_false] at hb; rcases hb with hb | hb
        · exact q5 (r.symm.trans hb)
        · exact q7 (r.symm.trans hb)) e
    · exact hc2
    · rw [List.length_append, zi.len]
      rfl
    · exact zi.sm.trans (same_put hn0)
    · intro j T hj
      rw [List.getElem?_append] at hj
      split at hj
      · obtain ⟨x, y, e1, e2, e3⟩ := zi.tup j T hj
        exact ⟨x, y, e1, e2, same_put hn0 _ _ e3⟩
      · rename_i hge
        have : j = i := by
          have h1 := (List.getElem?_eq_some_iff.mp hj).1
          have h2 := zi.len
          simp only [List.length_singleton] at h1
          omega
        subst this
        have e0 : j - Ts.length = 0 := by
          have h2 := zi.len
          omega
        rw [e0] at hj
        injection hj with hj
        subst hj
        exact ⟨_, _, List.getElem?_eq_getElem hlt, List.getElem?_eq_getElem (show j < ys.length by omega), upd_same⟩
end
end Ev

/-! ## list(zip(a, b)): the rule -/
namespace Ev
open PySem PySem.Spec PyProof.Rows L2
section
variable {X : Cx} {pins : List (Addr × Obj)} {σ : L2.St} {z TI TO i1 i2 a b L : Addr} {xs ys : List V} {its its2 : List Value}
theorem zl_init (calm : X.calm = true) (S : ZipSep2 z TI TO i1 i2 [i1, a] [i2, b]) (D : a ≠ i1 ∧ b ≠ i2) (hL : L ∉ [z, TI, TO, i1, i2, a, b]) (rv : Vals xs its) (rv2 : Vals ys its2) (hl : xs.length = ys.length) (hn : xs.length ≤ 1000) {R : Result → Shared → Prop} {A : Around} (hA : A.in1.in1.handled = none) {H : Hp} {s : Shared} (own : ∀ c ∈ [z, TI, TO, i1, i2, L], FpOk X pins H c)
    (I : Inv X pins σ H s) (hlo : ∀ c ∈ [z, TI, TO, i1, i2], c < s.heap.objs.size) (hz : IsZip s.heap z TI TO .none) (hTO : IsTupOf2 s.heap TO .none .none) (hTI : IsTupOf2 s.heap TI (.ref i1) (.ref i2)) (st1 : s.heap.IsListIter i1 a 0 ∧ s.heap.IsList a its.toArray) (st2 : s.heap.IsTupleIter i2 b 0 ∧ s.heap.IsTuple b its2.toArray) (hS : s.heap.get? L = some { cls := .type "list", data := .seq #[] })
    (hR : ∀ (H1 : Hp) (s : Shared) (Ts : List Addr) (c : Nat), Inv X pins σ H1 s → FpOk X pins H1 L → s.heap.get? L = some { cls := .type "list", dict := none, data := .seq (Ts.map Value.ref).toArray c, slots := #[] } → Ts.length = xs.length → Same H H1 →
      (∀ (j : Nat) (T : Addr), Ts[j]? = some T → ∃ x y, xs[j]? = some x ∧ ys[j]? = some y ∧ H1 T = some (.tup [x, y])) → R (.ok (.ret .none)) s) :
    wpAny (model X.prog X.w) A.in1 (Builtin.«list.__init__» ⟨[.ref L, .ref z], []⟩)
      (fun fin s' => match fin with | .done f => R (.ok f) s' | .again c' => c'.quiet = true ∧ codeAny (model X.prog X.w) A c' R s') (fun e s' => R (.error e) s') s := by
  obtain ⟨q1, q2, q3, q4, q5, q6, q7⟩ : L ≠ z ∧ L ≠ TI ∧ L ≠ TO ∧ L ≠ i1 ∧ L ≠ i2 ∧ L ≠ a ∧ L ≠ b := by simpa using hL
  have sL := Heap.SameBut.update (h := s.heap) (a := L) (f := Obj.mapSeq fun _ => (#[] : Array Value))
  have eL := Heap.get?_update_self (Obj.mapSeq fun _ => (#[] : Array Value)) hS rfl
  have hz1 := sL.extBut _ _ q1.symm hz
  have ty : ({ s with heap := s.heap.update L (Obj.mapSeq fun _ => (#[] : Array Value)) } : Shared).TypeIs (.ref z) "zip" := ⟨_, hz1, rfl⟩
  have same : Builtin.List.listSameRef (.ref L) (.ref z) = false := by simp [Builtin.List.listSameRef, q1]
  obtain ⟨hp, gs, dr, tk, os⟩ := s
  wp_walk using (wpAny_typeOf (v := Value.ref z) ty), (wpAny_pyIter_zip hz1), wpAny_holding, (wpAny_specialOf (v := Value.ref z) ty zip_no_len), (wpAny_specialOf (v := Value.ref z) ty zip_no_hint)
  have kp : ∀ b o, b ≠ L → hp.get? b = some o → (((hp.update L (Obj.mapSeq fun _ => (#[] : Array Value))).update L (Obj.mapSeq fun x => x.push Value.none)).update L (Obj.mapSeq fun x => x.pop)).get? b = some o := fun b o nb e =>
    (Heap.get?_update_other _ _ (Ne.symm nb)).trans ((Heap.get?_update_other _ _ (Ne.symm nb)).trans ((Heap.get?_update_other _ _ (Ne.symm nb)).trans e))
  have e3 := Heap.get?_update_self (Obj.mapSeq fun x => x.pop) (Heap.get?_update_self (Obj.mapSeq fun x => x.push Value.none) eL rfl) rfl
  have szL : ∀ {c}, c < hp.objs.size → c < (((hp.update L (Obj.mapSeq fun _ => (#[] : Array Value))).update L (Obj.mapSeq fun x => x.push Value.none)).update L (Obj.mapSeq fun x => x.pop)).objs.size := fun {c} h => by
    rw [(Heap.SameBut.update (h := (hp.update L (Obj.mapSeq fun _ => (#[] : Array Value))).update L (Obj.mapSeq fun x => x.push Value.none)) (a := L) (f := Obj.mapSeq fun x => x.pop)).1, (Heap.SameBut.update (h := hp.update L (Obj.mapSeq fun _ => (#[] : Array Value))) (a := L) (f := Obj.mapSeq fun x => x.push Value.none)).1, (Heap.SameBut.update (h := hp) (a := L) (f := Obj.mapSeq fun _ => (#[] : Array Value))).1]
    exact h
  obtain ⟨c3, hc3⟩ : ∃ c3, (((hp.update L (Obj.mapSeq fun _ => (#[] : Array Value))).update L (Obj.mapSeq fun x => x.push Value.none)).update L (Obj.mapSeq fun x => x.pop)).get? L = some { cls := .type "list", dict := none, data := .seq (([] : List Addr).map Value.ref).toArray c3, slots := #[] } := by
    simp only [Obj.mapSeq] at e3
    exact ⟨_, e3.trans (by simp; rfl)⟩
  refine ⟨plainId_quiet F.plain_extend_loop _, zl_loop calm S D hL rv rv2 hl hn hA H .none hR xs.length 0 H _ [] c3 rfl (Nat.zero_le _) ⟨I.turnedL (t' := tk) (ch := [L]) (fun b o nb e => kp b o (fun r => nb (by simp [r])) e) (fun c m => own c (by simp [List.mem_singleton.mp m])), own, ⟨.inl ⟨kp _ _ q1.symm hz, _, _, kp _ _ q3.symm hTO⟩, kp _ _ q2.symm hTI⟩, fun c m => szL (hlo c m), ?_, ?_, hc3, rfl, Same.rfl', nofun⟩⟩
  · refine (Draws.list (prog := X.prog) (w := X.w) (A := A.in1.in1) hA i1 a D.1 its.toArray).frame 0 _ _ st1 fun b hb o e => kp b o (fun r => ?_) e
    simp only [List.mem_cons, List.not_mem_nil, or_false] at hb; rcases hb with hb | hb
    · exact q4 (r.symm.trans hb)
    · exact q6 (r.symm.trans hb)
  · refine (Draws.tuple (prog := X.prog) (w := X.w) (A := A.in1.in1) hA i2 b D.2 its2.toArray).frame 0 _ _ st2 fun b hb o e => kp b o (fun r => ?_) e
    simp only [List.mem_cons, List.not_mem_nil, or_false] at hb; rcases hb with hb | hb
    · exact q5 (r.symm.trans hb)
    · exact q7 (r.symm.trans hb)
end
end Ev

/-! ## list(zip(a, b)) as an expression -/
namespace Ev
open PySem PySem.Spec PyProof.Rows L2
theorem nin2 {x p q : Nat} (h1 : x ≠ p) (h2 : x ≠ q) : x ∉ [p, q] := by simp [h1, h2]
theorem zsep (n a b : Nat) (la : a < n) (lb : b < n) : ZipSep2 (n + 4) (n + 2) (n + 3) n (n + 1) [n, a] [n + 1, b] where
  TIz := show (n + 2 : Nat) ≠ n + 4 by omega
  TOz := show (n + 3 : Nat) ≠ n + 4 by omega
  TITO := show (n + 2 : Nat) ≠ n + 3 by omega
  TIi1 := show (n + 2 : Nat) ≠ n by omega
  mem1 := List.mem_cons_self ..
  zf1 := nin2 (x := n + 4) (by omega) (by omega)
  Tf1 := nin2 (x := n + 3) (by omega) (by omega)
  TIi2 := show (n + 2 : Nat) ≠ n + 1 by omega
  mem2 := List.mem_cons_self ..
  zf2 := nin2 (x := n + 4) (by omega) (by omega)
  Tf2 := nin2 (x := n + 3) (by omega) (by omega)
  sep1_2 := nin2 (x := n) (by omega) (by omega)
  sep2_1 := nin2 (x := n + 1) (by omega) (by omega)
theorem nin7 (n a b L : Nat) (la : a < n) (lb : b < n) (h : L = n + 5) : L ∉ [n + 4, n + 2, n + 3, n, n + 1, a, b] := by
  simp only [List.mem_cons, List.not_mem_nil, or_false]
  omega
theorem in6 {n L c : Nat} (h : L = n + 5) (m : c ∈ [n + 4, n + 2, n + 3, n, n + 1, L]) : n ≤ c := by
  simp only [List.mem_cons, List.not_mem_nil, or_false] at m
  omega
theorem in5 {n c : Nat} (m : c ∈ [n + 4, n + 2, n + 3, n, n + 1]) : c < n + 5 := by
  simp only [List.mem_cons, List.not_mem_nil, or_false] at m
  omega
def tLstZx (K : PySem.W.Frag) (ta : TA) : TE := fun σ H Q => ta σ H fun vs H1 => ∃ (a b : Addr) (xs ys : List V), vs = [.ref a, .ref b] ∧ SqL K H1 a xs ∧ SqT K H1 b ys ∧ xs.length = ys.length ∧ xs.length ≤ 1000 ∧
  ∀ (H2 : Hp) (l : Addr) (Ts : List Addr), Same H1 H2 → H2 l = some (.lst (Ts.map V.ref)) → Ts.length = xs.length → (∀ (j : Nat) (T : Addr), Ts[j]? = some T → ∃ x y, xs[j]? = some x ∧ ys[j]? = some y ∧ H2 T = some (.tup [x, y])) → Q (.ref l) H2
theorem pe_listZx {X : Cx} {e e2 : Expr} {ta : TA} {p p2 pos pos2 : Pos} (calm : X.calm = true) (hgz : Gl X "zip") (hmz : X.mg "zip" = none) (hg : Gl X "list") (hm : X.mg "list" = none) (ha : PA X [e, e2] ta)
    (hs : starEach [e, e2] X.env = (false, eval e X.env) :: starEach [e2] X.env := by rfl) (hpl : (backTo pos2 (starEach [e2] X.env)).any (·.1) = false := by rfl)
    (na : starEach [.Call (.Name "zip" p2) [e, e2] [] pos2] X.env = (false, eval (.Call (.Name "zip" p2) [e, e2] [] pos2) X.env) :: starEach [] X.env := by rfl) :
    PE X (.Call (.Name "list" p) [.Call (.Name "zip" p2) [e, e2] [] pos2] [] pos) (tLstZx X.K ta) := by
  refine ⟨fun pins s σ H Q I h => Call_ (ld_blt I hg hm boot_list (PyProof.Rows.callWith_type1 (args_cons (Call_ (ld_blt (I.tok _) hgz hmz PyProof.Rows.boot_zip (PyProof.Rows.callWith_type1 (thn (ha.run pos2 pins _ σ H _ (I.tok _) h) fun us s1 ⟨vs, H1, I1, r1, q1⟩ => ?_) hs hpl))) na) na))⟩
  obtain ⟨a, b, xs, ys, ex, hqx, hqy, hl, hn, q⟩ := q1
  subst ex
  obtain ⟨u1, u2, rfl, rx, ry⟩ : ∃ u1 u2, us = [u1, u2] ∧ RelV (.ref a) u1 ∧ RelV (.ref b) u2 := by
    cases r1 with
    | cons r rr => cases rr with
      | cons r' rr => cases rr; exact ⟨_, _, rfl, r, r'⟩
  cases rx
  cases ry
  obtain ⟨its, rv, p1, _⟩ := I1.list hqx; obtain ⟨its2, rv2, p3, _⟩ := I1.tuple hqy
  have la : a < s1.heap.objs.size := p1.lt; have lb : b < s1.heap.objs.size := by
    obtain ⟨o, ho, _⟩ := id p3
    exact Heap.lt_size ho
  refine zip_begins2 (begins_list a its.toArray) (begins_tuple b its2.toArray) p1.isList p3 fun h' hz hTI hTO h1 h2 hsz hk => args_nil ?_
  have I2 : Inv X pins σ H1 { s1 with heap := h' } := I1.kept (t' := s1.toks) hk; refine callType_codes (Q₁ := fun obj s₁ => obj = .ref h'.objs.size ∧ s₁ = { s1 with heap := h'.push { cls := .type "list", data := .seq #[] } }) F.called_list (F.typeCall_list_1 _) F.entry_list_init (code_list_new _ ⟨rfl, rfl⟩) fun obj s₁ h₁ => ?_
  obtain ⟨rfl, rfl⟩ := h₁
  have hS : (h'.push { cls := .type "list", data := .seq #[] }).get? h'.objs.size = some { cls := .type "list", data := .seq #[] } := Heap.get?_push_size _ rfl
  refine ⟨⟨_, hS, rfl⟩, F.args_list_init_2 _ _, ?_⟩
  generalize hN : s1.heap.objs.size = n at *
  have hN' : h'.objs.size = n + 5 := hsz
  have S := zsep n a b la lb
  have hL : h'.objs.size ∉ [n + 4, n + 2, n + 3, n, n + 1, a, b] := nin7 n a b _ la lb hN'
  have kp : ∀ c o, h'.get? c = some o → (h'.push { cls := .type "list", data := .seq #[] }).get? c = some o := fun c o e => Heap.get?_push_of_some _ e
  have I3 : Inv X pins σ H1 { s1 with heap := h'.push { cls := .type "list", data := .seq #[] } } := I2.kept (t' := s1.toks) kp
  have own : ∀ c ∈ [n + 4, n + 2, n + 3, n, n + 1, h'.objs.size], FpOk X pins H1 c := fun c m => by
    have hle : n ≤ c := in6 hN' m
    rw [← hN] at hle; exact I1.fpOk hle (I1.hok.fresh hle)
  refine zl_init (A := X.A.in1) calm S ⟨Nat.ne_of_lt la, Nat.ne_of_lt (Nat.lt_succ_of_lt lb)⟩ hL rv rv2 hl hn (I.ok.hd calm) own I3 (fun c m => ?_) (kp _ _ hz) (kp _ _ hTO) (kp _ _ hTI) ?_ ?_ hS fun H2 s2 Ts c J oL eL len sm ht => ?_
  · show c < (h'.push _).objs.size
    rw [Heap.size_push, hN']
    exact Nat.lt_succ_of_lt (in5 m)
  · obtain ⟨o, ho, hc, m, hd⟩ := p1.isList
    exact ⟨⟨_, kp _ _ h1, rfl, rfl⟩, o, kp _ _ (hk _ _ ho), hc, m, hd⟩
  · obtain ⟨o, ho, hc, m, hd⟩ := id p3
    exact ⟨⟨_, kp _ _ h2, rfl, rfl⟩, o, kp _ _ (hk _ _ ho), hc, m, hd⟩
  · have hv : Vals (Ts.map V.ref) (Ts.map Value.ref) := by
      clear eL len ht
      induction Ts with
      | nil => exact .nil
      | cons T Ts ih => exact .cons rfl ih
    refine ⟨rfl, .ref h'.objs.size, upd H2 h'.objs.size (.lst (Ts.map V.ref)), J.take (t' := s2.toks) (fun b ob nb e => e) oL (show ObjOk X.prog X.w _ s2.heap _ (.lst (Ts.map V.ref)) from ⟨?_, _, c, hv, eL⟩), rfl, ?_⟩
    · rw [List.length_map, len, sizeLine_eq]
      exact Nat.le_trans hn (by decide)
    · refine q _ _ Ts (sm.trans (same_put oL.1)) upd_same len fun j T hj => ?_
      obtain ⟨x, y, e1, e2, e3⟩ := ht j T hj
      exact ⟨x, y, e1, e2, same_put oL.1 _ _ e3⟩
end Ev

/-! ## loops over a zip of a list and a tuple, over WalksT.zipD2, Draws.list and Draws.tuple -/
namespace Ev
open PySem PySem.Spec PyProof.Rows L2
def ItZu (K : PySem.W.Frag) (a b : Addr) : L2.It where
  go i H := ∃ (xs ys : List V) (x y : V), SqL K H a xs ∧ SqT K H b ys ∧ xs[i]? = some x ∧ ys[i]? = some y
  yld i H v H' := ∃ T x y, v = V.ref T ∧ H T = none ∧ H' = upd H T (.tup [x, y]) ∧ (∀ xs, SqL K H a xs → xs[i]? = some x) ∧ ∀ ys, SqT K H b ys → ys[i]? = some y
  stop i H := ∃ xs ys : List V, SqL K H a xs ∧ SqT K H b ys ∧ xs.length = i ∧ ys.length = i
structure ZuC (a b z TI TO i1 i2 : Addr) (i : Nat) (h : Heap) : Prop where
  zi : IsZip h z TI TO .none
  ti : IsTupOf2 h TI (.ref i1) (.ref i2)
  to : ∃ a1 a2, IsTupOf2 h TO a1 a2
  l1 : h.IsListIter i1 a i
  l2 : h.IsTupleIter i2 b i
theorem ZuC.cell {a b z TI TO i1 i2 c : Addr} {i : Nat} {h : Heap} (st : ZuC a b z TI TO i1 i2 i h) (m : c ∈ [z, TI, TO, i1, i2]) : ∃ o, h.get? c = some o ∧ ∀ v, o.data ≠ .cell v := by
  obtain ⟨zi, ti, ⟨a1, a2, to⟩, ⟨o1, e1, _, d1⟩, ⟨o2, e2, _, d2⟩⟩ := st
  simp only [List.mem_cons, List.not_mem_nil, or_false] at m
  rcases m with rfl | rfl | rfl | rfl | rfl
  · exact ⟨_, zi, nofun⟩
  · exact ⟨_, ti, nofun⟩
  · exact ⟨_, to, nofun⟩
  · exact ⟨o1, e1, fun v q => nomatch d1.symm.trans q⟩
  · exact ⟨o2, e2, fun v q => nomatch d2.symm.trans q⟩
theorem turn_zu {P : Program} {w : World} {K : PySem.W.Frag} {elts : List Expr} {kk : Nat} {tpos : Pos} {a b z TI TO i1 i2 : Addr} (S : ZipSep2 z TI TO i1 i2 [i1, a] [i2, b]) (na : a ≠ i1) (nb : b ≠ i2) :
    L2.Turn P w K (.Tuple elts kk tpos) (ItZu K a b) [z, TI, TO, i1, i2] z (ZuC a b z TI TO i1 i2) where
  mem := List.mem_cons_self ..
  obj i h st c hc := st.cell hc
  keep i h h' st k := by
    obtain ⟨zi, ti, ⟨a1, a2, to⟩, l1, l2⟩ := st
    exact ⟨k z (by simp) _ zi, k TI (by simp) _ ti, ⟨a1, a2, k TO (by simp) _ to⟩, l1.at fun o q => k i1 (by simp) o q, l2.at fun o q => k i2 (by simp) o q⟩
  item := by
    rintro X rfl rfl rfl calm i pins s σ H E I own st ⟨xs, ys, x, y, hqx, hqy, hx, hy⟩
    obtain ⟨its, rv, p, _⟩ := I.list hqx
    obtain ⟨its2, rv2, p2, _⟩ := I.tuple hqy
    obtain ⟨u, hu, ru⟩ := rv.get hx
    obtain ⟨u2, hu2, ru2⟩ := rv2.get hy
    have hh := I.ok.hd calm
    have W := WalksT.zipD2 S (Draws.list (prog := X.prog) (w := X.w) (A := X.A.in1) hh i1 a na its.toArray) (Draws.tuple (prog := X.prog) (w := X.w) (A := X.A.in1) hh i2 b nb its2.toArray)
    have in1 : i < min its.toArray.size its2.toArray.size := by
      have k1 := (List.getElem?_eq_some_iff.mp hu).1
      have k2 := (List.getElem?_eq_some_iff.mp hu2).1
      rw [List.size_toArray, List.size_toArray]
      omega
    have lt : ∀ c ∈ [z, TI, TO, i1, i2], c < s.heap.objs.size := fun c m => by
      obtain ⟨o, q, _⟩ := st.cell m
      exact Heap.lt_size q
    refine W.item i s _ E in1 ⟨st.zi, st.ti, st.to, ⟨st.l1, p.isList⟩, ⟨st.l2, p2⟩⟩ fun T vs h1 tk pt big tup mid k1 => ⟨_, rfl, W.go elts kk tpos i T _ _ E mid fun h2 st2 k2 => ?_⟩
    obtain ⟨w1, w2, e1, e2, rfl⟩ := pt
    obtain rfl : w1 = u := Option.some.inj (e1.symm.trans (by simpa using hu))
    obtain rfl : w2 = u2 := Option.some.inj (e2.symm.trans (by simpa using hu2))
    obtain ⟨oT, gT, cT, dT⟩ := tup
    have new : ObjOk X.prog X.w (upd H T (.tup [x, y])) h2 T (.tup [x, y]) :=
      ⟨(by show 2 ≤ sizeLine; decide), [w1, w2], .cons ru (.cons ru2 .nil), oT, k2 T oT (W.apart i T h1 mid) gT, cT, dT⟩
    have sub : ∀ c, c ∉ [z, TI, TO, i1, i2] → c ∉ [z, TO, i1, i2] := fun c n m => n (by simp only [List.mem_cons, List.not_mem_nil, or_false] at m ⊢; rcases m with m | m | m | m <;> simp [m])
    have J := I.turnedNew (t' := tk) (ch := [z, TI, TO, i1, i2]) (fun c o nc q => k2 c o (sub c nc) (k1 c o (sub c nc) q)) own big new
    refine ⟨.ref T, _, J, rfl, ⟨T, x, y, rfl, I.hok.fresh big, rfl, fun l hl => by rw [I.list_inj hl hqx]; exact hx, fun l hl => by rw [I.tuple_inj hl hqy]; exact hy⟩, ⟨st2.1, st2.2.1, st2.2.2.1, st2.2.2.2.1.1, st2.2.2.2.2.1⟩, fun c m => ?_⟩
    rw [upd_ne (Nat.ne_of_lt (Nat.lt_of_lt_of_le (lt c m) big))]
    exact (own c m).1
  done := by
    rintro X rfl rfl rfl calm i pins s σ H E I own st ⟨xs, ys, hqx, hqy, hl, hl2⟩
    obtain ⟨its, rv, p, _⟩ := I.list hqx
    obtain ⟨its2, rv2, p2, _⟩ := I.tuple hqy
    have k1 := rv.length
    have k2 := rv2.length
    have hh := I.ok.hd calm
    have W := WalksT.zipD2 S (Draws.list (prog := X.prog) (w := X.w) (A := X.A.in1) hh i1 a na its.toArray) (Draws.tuple (prog := X.prog) (w := X.w) (A := X.A.in1) hh i2 b nb its2.toArray)
    have n : min its.toArray.size its2.toArray.size = i := by
      rw [List.size_toArray, List.size_toArray]
      omega
    refine W.done s _ E (by rw [n]; exact ⟨st.zi, st.ti, st.to, ⟨st.l1, p.isList⟩, ⟨st.l2, p2⟩⟩) fun h' tk k => ⟨rfl, I.turnedL (t' := tk) (ch := [z, TI, TO, i1, i2]) (fun c o hb q => k c o (fun m => hb (by simp only [List.mem_cons, List.not_mem_nil, or_false] at m ⊢; rcases m with m | m | m | m <;> simp [m])) q) own⟩
  self A i s Q E st h := wpAny_pyIter_zip st.zi h
def iZipU (K : PySem.W.Frag) (ta : TA) : TI := fun σ H R => ta σ H fun vs H1 => ∃ a b xs ys, vs = [.ref a, .ref b] ∧ SqL K H1 a xs ∧ SqT K H1 b ys ∧ R (ItZu K a b) H1
theorem pi_zipU {X : Cx} {e e2 : Expr} {ta : TA} {p pos tpos : Pos} {elts : List Expr} {kk : Nat} (hg : Gl X "zip") (hm : X.mg "zip" = none) (ha : PA X [e, e2] ta)
    (hs : starEach [e, e2] X.env = (false, eval e X.env) :: starEach [e2] X.env := by rfl) (hpl : (backTo pos (starEach [e2] X.env)).any (·.1) = false := by rfl) :
    PI X (.Tuple elts kk tpos) (.Call (.Name "zip" p) [e, e2] [] pos) (iZipU X.K ta) where
  run pins s σ H R I h := by
    refine Call_ (ld_blt I hg hm PyProof.Rows.boot_zip (PyProof.Rows.callWith_type1 (thn (ha.run pos pins s σ H _ I h) ?_) hs hpl))
    rintro us s1 ⟨vs, H1, I1, r1, a, b, xs, ys, rfl, hqx, hqy, q⟩
    obtain ⟨u, u2, rfl, ra, rb⟩ := vals2 r1
    cases ra
    cases rb
    obtain ⟨its, rv, p1, _⟩ := I1.list hqx
    obtain ⟨its2, rv2, p2, _⟩ := I1.tuple hqy
    obtain ⟨ob, gb, _⟩ := id p2
    have la := p1.lt
    have lb := Heap.lt_size gb
    refine zip_begins2 (begins_list a its.toArray) (begins_tuple b its2.toArray) p1.isList p2 fun h' hz hTI hTO h1 h2 hsz hk => wpAny_pyIter_zip hz ?_
    refine ⟨s1.heap.objs.size + 4, [s1.heap.objs.size + 4, s1.heap.objs.size + 2, s1.heap.objs.size + 3, s1.heap.objs.size, s1.heap.objs.size + 1], _, _, H1, rfl, I1.kept (t' := s1.toks) hk, turn_zu (zsep _ a b la lb) (Nat.ne_of_lt la) (Nat.ne_of_lt (Nat.lt_succ_of_lt lb)), ⟨hz, hTI, ⟨_, _, hTO⟩, ⟨_, h1, rfl, rfl⟩, ⟨_, h2, rfl, rfl⟩⟩, fun c m => ?_, q⟩
    have above : s1.heap.objs.size ≤ c := by
      simp only [List.mem_cons, List.not_mem_nil, or_false] at m
      rcases m with rfl | rfl | rfl | rfl | rfl
      · exact Nat.le_add_right _ 4
      · exact Nat.le_add_right _ 2
      · exact Nat.le_add_right _ 3
      · exact Nat.le_refl _
      · exact Nat.le_add_right _ 1
    exact I1.fpOk above (I1.hok.fresh above)
theorem walk_zu {K : PySem.W.Frag} {a b : Addr} {xs ys : List V} (h : xs.length = ys.length) : Walk (ItZu K a b) xs.length (fun H => SqL K H a xs ∧ SqT K H b ys) (YPair (fun i => xs[i]?) (fun i => ys[i]?)) where
  goes i H hi := fun ⟨q1, q2⟩ => ⟨xs, ys, xs[i], ys[i]'(h ▸ hi), q1, q2, List.getElem?_eq_getElem hi, List.getElem?_eq_getElem _⟩
  stops H := fun ⟨q1, q2⟩ => ⟨xs, ys, q1, q2, rfl, h.symm⟩
  yields i H v H' _ := by
    rintro ⟨q1, q2⟩ ⟨T, x, y, rfl, n1, rfl, hx, hy⟩
    exact ⟨T, x, y, rfl, n1, rfl, hx xs q1, hy ys q2⟩
end Ev

/-! ## any() of a list of whole numbers -/
namespace Ev
open PySem PySem.Spec PyProof.Rows L2
def rAnyI (K : PySem.W.Frag) : List V → Hp → VK → Prop := fun vs H Q => ∃ (a : Addr) (ns : List Int), vs = [V.ref a] ∧ SqL K H a (ns.map V.int) ∧ Q (.bl (ns.any fun i => i != 0)) H
theorem any_rangeI : ∀ ns : List Int, (List.range ns.length).any (fun i => ns.getD i 0 != 0) = ns.any fun i => i != 0
  | [] => rfl
  | n :: ns => by
    rw [List.length_cons, List.range_succ_eq_map, List.any_cons, List.any_map, List.any_cons, ← any_rangeI ns]
    all_goals rfl
theorem cr_anyI {X : Cx} (hc : X.calm = true) : CallR X (.builtin "any") (rAnyI X.K) := by
  rintro pins s σ H vs us Q I r ⟨a, ns, rfl, hs, q⟩
  obtain ⟨its, rv, hl, _⟩ := I.list hs
  rw [Vals.ref1 r]
  refine call_any_walk (iter_any hl.isList fun s₂ e2 st hne => ?_)
  subst e2
  refine ⟨_, _, _, _, _, _, fun i => ns.getD i 0 != 0, rfl, Walks.list (A := X.A.in1) (I.ok.hd hc) _ a hne its.toArray, st, fun i v s Q E hv hq => ?_, fun h' tk hk => ⟨.bl _, H, I.kept fun b o eo => hk b o (fun m => ?_) (Heap.get?_push_of_some _ eo), ?_, q⟩⟩
  · have hv' : its[i]? = some v := by simpa using hv
    have hi := (List.getElem?_eq_some_iff.mp hv').1
    have hl2 := rv.length
    rw [List.length_map] at hl2
    have hx : (ns.map V.int)[i]? = some (.int ns[i]) := by rw [List.getElem?_map, List.getElem?_eq_getElem (show i < ns.length by omega)]; rfl
    obtain ⟨u, hu, ru⟩ := rv.get hx
    rw [hv'] at hu
    cases hu
    obtain ⟨t, rfl⟩ := ru
    refine truthy_int ?_
    have e : ns.getD i 0 = ns[i] := by rw [List.getD_eq_getElem?_getD, List.getElem?_eq_getElem (show i < ns.length by omega)]; rfl
    have hq' : Q (ns.getD i 0 != 0) s := hq
    rw [e] at hq'
    exact hq'
  · rcases List.mem_cons.mp m with e1 | m
    · exact absurd (e1 ▸ Heap.lt_size eo) (Nat.lt_irrefl _)
    · cases m
  · have hl2 := rv.length
    rw [List.length_map] at hl2
    show Value.bool _ = Value.bool _
    rw [← any_rangeI, List.size_toArray, hl2]
end Ev

/-! ## == and != of any data with a text, == of a tuple with () -/
namespace PySem.SeqAt
open AutoSeq1 (wpAny_loadPart')
open MeetsSeq
section
variable {A : Around} {s : Shared}
theorem ev_sub_sd : isSubtype (.type "str") (.type "dict") = pure false := by rw [isSubtype_type]; kernel_rfl
theorem ev_dict_eq_str (l : Addr) (es : Array DictEntry) (n : Nat) (dd : Option Addr) (sl : Array (Option Value)) (b : Str) (u : Tok) :
    Meets (Builtin.«dict.__eq__» ⟨[.ref l, .str b u], []⟩)
      (fun _ R s => s.heap.get? l = some { cls := .type "dict", dict := dd, data := .dict es n, slots := sl } ∧ R (.ok (.ret .notImplemented)) s) :=
  .of_wp fun prog w A R s h => by
    obtain ⟨hp, g, d, tk, os⟩ := s
    obtain ⟨hl, h⟩ := h
    have f1 := ev_sub_sd
    wp_walk using wpAny_loadPart' hl, wpAny_load hl
    exact ⟨_, rfl, h⟩
theorem ev_dict_ne_str (l : Addr) (es : Array DictEntry) (n : Nat) (dd : Option Addr) (sl : Array (Option Value)) (b : Str) (u : Tok) :
    Meets (Builtin.«dict.__ne__» ⟨[.ref l, .str b u], []⟩)
      (fun _ R s => s.heap.get? l = some { cls := .type "dict", dict := dd, data := .dict es n, slots := sl } ∧ R (.ok (.ret .notImplemented)) s) :=
  .of_wp fun prog w A R s h => by
    obtain ⟨hp, g, d, tk, os⟩ := s
    obtain ⟨hl, h⟩ := h
    have f1 := ev_sub_sd
    wp_walk using wpAny_loadPart' hl, wpAny_load hl
    exact ⟨_, rfl, h⟩
theorem ev_str_eq_dict (b : Str) (u : Tok) (l : Addr) (c : Value) (es : Array DictEntry) (n : Nat) (dd : Option Addr) (sl : Array (Option Value)) :
    Meets (Builtin.«str.__eq__» ⟨[.str b u, .ref l], []⟩) (fun _ R s => s.heap.get? l = some { cls := c, dict := dd, data := .dict es n, slots := sl } ∧ R (.ok (.ret .notImplemented)) s) :=
  .of_wp fun prog w A R s h => by
    obtain ⟨hp, g, d, tk, os⟩ := s
    obtain ⟨hl, h⟩ := h
    wp_walk using wpAny_loadPart' hl, wpAny_load hl
    exact ⟨_, rfl, h⟩
theorem ev_str_ne_dict (b : Str) (u : Tok) (l : Addr) (c : Value) (es : Array DictEntry) (n : Nat) (dd : Option Addr) (sl : Array (Option Value)) :
    Meets (Builtin.«str.__ne__» ⟨[.str b u, .ref l], []⟩) (fun _ R s => s.heap.get? l = some { cls := c, dict := dd, data := .dict es n, slots := sl } ∧ R (.ok (.ret .notImplemented)) s) :=
  .of_wp fun prog w A R s h => by
    obtain ⟨hp, g, d, tk, os⟩ := s
    obtain ⟨hl, h⟩ := h
    wp_walk using wpAny_loadPart' hl, wpAny_load hl
    exact ⟨_, rfl, h⟩
theorem ev_rc_dict_str {l : Addr} {o : Obj} {es : Array DictEntry} {n : Nat} (b : Str) (u : Tok) (ho : s.heap.get? l = some o) (hc : o.cls = .type "dict") (hd : o.data = .dict es n) (hu : A.units < cLine) :
    RcAt A s (.ref l) (.str b u) false := fun prog w E Q h => by
  obtain ⟨cls, dd, data, sl⟩ := o
  simp only at hc hd
  subst hc hd
  exact rc_eq_decline_or (k := false) ⟨_, ho, rfl⟩ (typeIs_str s b u) (by decide) ev_sub_sd F.slot_dict_eq F.slot_str_eq_refl
    (fun _ hq => call_meets F.slot_dict_eq ⟨_, ho, rfl⟩ F.entry_dict_eq (F.args_dict_eq_2 _ _) (ev_dict_eq_str l es n dd sl b u) ⟨ho, hq⟩)
    (fun _ hq => call_meets F.slot_str_eq_refl (typeIs_str s b u) F.entry_str_eq (F.args_str_eq_2 _ _) (ev_str_eq_dict b u l (.type "dict") es n dd sl) ⟨ho, hq⟩)
    (fun _ hq => wpAny_of_eq (rfl : isSame (.ref l) (.str b u) = pure false) hq) (.inr hu) h
theorem ev_rn_dict_str {l : Addr} {o : Obj} {es : Array DictEntry} {n : Nat} (b : Str) (u : Tok) (ho : s.heap.get? l = some o) (hc : o.cls = .type "dict") (hd : o.data = .dict es n) (hu : A.units < cLine) :
    RcNeAt A s (.ref l) (.str b u) true := fun prog w E Q h => by
  obtain ⟨cls, dd, data, sl⟩ := o
  simp only at hc hd
  subst hc hd
  exact rc_ne_decline_or (k := false) ⟨_, ho, rfl⟩ (typeIs_str s b u) (by decide) ev_sub_sd F.slot_dict_ne F.slot_str_ne_refl
    (fun _ hq => call_meets F.slot_dict_ne ⟨_, ho, rfl⟩ F.entry_dict_ne (F.args_dict_ne_2 _ _) (ev_dict_ne_str l es n dd sl b u) ⟨ho, hq⟩)
    (fun _ hq => call_meets F.slot_str_ne_refl (typeIs_str s b u) F.entry_str_ne (F.args_str_ne_2 _ _) (ev_str_ne_dict b u l (.type "dict") es n dd sl) ⟨ho, hq⟩)
    (fun _ hq => wpAny_of_eq (rfl : isSame (.ref l) (.str b u) = pure false) hq) (.inr hu) h
end
end PySem.SeqAt
namespace Ev
open PySem PySem.Spec PyProof.Rows L2
def isStrD (t : Str) : PyData → Bool
  | .str x => x == t
  | _ => false
def rEqS (K : PySem.W.Frag) : R2 := fun x y H Q => ∃ (d : PyData) (t : Str), Da K H x d ∧ y = .str t ∧ Q (.bl (isStrD t d)) H
def rNeS (K : PySem.W.Frag) : R2 := fun x y H Q => ∃ (d : PyData) (t : Str), Da K H x d ∧ y = .str t ∧ Q (.bl (!isStrD t d)) H
section
variable {X : Cx}
theorem op_eqS (hu : X.A.units < cLine) : OpR X (compareOp .Eq) (rEqS X.K) := by
  intro pins s σ H x y v u Q I rx ry h
  obtain ⟨d, t, hd, rfl, q⟩ := h
  obtain ⟨tk, rfl⟩ := ry
  have fin : ∀ b, b = isStrD t d → EP X pins σ Q (.bool b) s := fun b e => ⟨.bl b, H, I, rfl, by rw [e]; exact q⟩
  cases hd with
  | non =>
    cases rx
    exact SeqAt.RcAt.none_str t tk _ _ _ _ (fin _ rfl)
  | bl b =>
    cases rx
    exact SeqAt.RcAt.bool_str b t tk _ _ _ _ (fin _ rfl)
  | int i =>
    obtain ⟨tk', rfl⟩ := rx
    exact SeqAt.RcAt.int_str i tk' t tk _ _ _ _ (fin _ rfl)
  | str x =>
    obtain ⟨tk', rfl⟩ := rx
    exact SeqAt.RcAt.str_str x tk' t tk _ _ _ _ (fin _ rfl)
  | lst hs ha =>
    cases rx
    obtain ⟨its, rv, ⟨o, n, ho, hc, _, hd⟩, _⟩ := I.list hs
    exact SeqAt.RcAt.list_str t tk ⟨o, ho, hc, n, hd⟩ hu _ _ _ _ (fin _ rfl)
  | tup hs ha =>
    cases rx
    obtain ⟨its, rv, ⟨o, ho, hc, n, hd⟩, _⟩ := I.tuple hs
    exact SeqAt.RcAt.tuple_str t tk ⟨o, ho, hc, n, hd⟩ hu _ _ _ _ (fin _ rfl)
  | @dic a kvs _ he hk =>
    cases rx
    have ok : ObjOk X.prog X.w H s.heap a (.dK kvs) := I.hok a _ he
    obtain ⟨_, ns, vs, kv, o, es, ep, ho, ex, hd, _⟩ := ok
    exact SeqAt.ev_rc_dict_str t tk ho ex.1 hd hu _ _ _ _ (fin _ rfl)
theorem op_neS (hu : X.A.units < cLine) : OpR X (compareOp .NotEq) (rNeS X.K) := by
  intro pins s σ H x y v u Q I rx ry h
  obtain ⟨d, t, hd, rfl, q⟩ := h
  obtain ⟨tk, rfl⟩ := ry
  have fin : ∀ b, b = (!isStrD t d) → EP X pins σ Q (.bool b) s := fun b e => ⟨.bl b, H, I, rfl, by rw [e]; exact q⟩
  cases hd with
  | non =>
    cases rx
    exact SeqAt.RcNeAt.none_str t tk _ _ _ _ (fin _ rfl)
  | bl b =>
    cases rx
    exact SeqAt.RcNeAt.bool_str b t tk _ _ _ _ (fin _ rfl)
  | int i =>
    obtain ⟨tk', rfl⟩ := rx
    exact SeqAt.RcNeAt.int_str i tk' t tk _ _ _ _ (fin _ rfl)
  | str x =>
    obtain ⟨tk', rfl⟩ := rx
    exact SeqAt.RcNeAt.str_str x tk' t tk _ _ _ _ (fin _ rfl)
  | lst hs ha =>
    cases rx
    obtain ⟨its, rv, ⟨o, n, ho, hc, _, hd⟩, _⟩ := I.list hs
    exact SeqAt.RcNeAt.list_str t tk ⟨o, ho, hc, n, hd⟩ hu _ _ _ _ (fin _ rfl)
  | tup hs ha =>
    cases rx
    obtain ⟨its, rv, ⟨o, ho, hc, n, hd⟩, _⟩ := I.tuple hs
    exact SeqAt.RcNeAt.tuple_str t tk ⟨o, ho, hc, n, hd⟩ hu _ _ _ _ (fin _ rfl)
  | @dic a kvs _ he hk =>
    cases rx
    have ok : ObjOk X.prog X.w H s.heap a (.dK kvs) := I.hok a _ he
    obtain ⟨_, ns, vs, kv, o, es, ep, ho, ex, hd, _⟩ := ok
    exact SeqAt.ev_rn_dict_str t tk ho ex.1 hd hu _ _ _ _ (fin _ rfl)
/-- t == () -/
def rEqT0 (K : PySem.W.Frag) : R2 := fun x y H Q => ∃ (a b : Addr) (xs : List V), x = .ref a ∧ y = .ref b ∧ SqT K H a xs ∧ SqT K H b [] ∧ Q (.bl (decide (xs = []))) H
theorem op_eqT0 (hu : X.A.units < cLine) : OpR X (compareOp .Eq) (rEqT0 X.K) := by
  intro pins s σ H x y v u Q I rx ry h
  obtain ⟨a, b, xs, rfl, rfl, h1, h2, q⟩ := h
  cases rx
  cases ry
  obtain ⟨i1, r1, ⟨o1, ho1, hc1, n1, hd1⟩, _⟩ := I.tuple h1
  obtain ⟨i2, r2, ⟨o2, ho2, hc2, n2, hd2⟩, _⟩ := I.tuple h2
  have e2 : i2 = [] := by
    have z := Paired.length r2
    exact List.length_eq_zero_iff.mp z.symm
  subst e2
  have l1 : i1.length = xs.length := (Paired.length r1).symm
  refine SeqAt.rcIn_tuples (e := fun _ => true) ⟨o1, ho1, hc1, n1, hd1⟩ ⟨o2, ho2, hc2, n2, hd2⟩ hu (fun j j1 j2 => absurd j2 (by simp)) ?_
  have z : ((List.range (min i1.toArray.size ([] : List Value).toArray.size)).all (fun _ => true) && i1.toArray.size == ([] : List Value).toArray.size) = decide (xs = []) := by
    cases xs with
    | nil =>
      have : i1 = [] := List.length_eq_zero_iff.mp l1
      subst this
      rfl
    | cons x r =>
      have : i1.length = r.length + 1 := l1
      simp [this]
  rw [z]
  exact ⟨.bl _, H, I, rfl, q⟩
end
end Ev

/-! ## any data in a tuple of numbers; how many different numbers -/
namespace PySem.SeqAt
open PySem
section
variable {A : Around} {s : Shared}
theorem ev_sub_di : isSubtype (.type "dict") (.type "int") = pure false := by rw [isSubtype_type]; kernel_rfl
theorem ev_int_eq_dict (b : Int) (u : Tok) (l : Addr) (c : Value) (es : Array DictEntry) (n : Nat) (dd : Option Addr) (sl : Array (Option Value)) :
    Meets (Builtin.«int.__eq__» ⟨[.int b u, .ref l], []⟩) (fun _ R s => s.heap.get? l = some { cls := c, dict := dd, data := .dict es n, slots := sl } ∧ R (.ok (.ret .notImplemented)) s) :=
  .of_wp fun prog w A R s h => by
    obtain ⟨hp, g, d, tk, os⟩ := s
    obtain ⟨hl, h⟩ := h
    wp_walk using wpAny_loadPart' hl, wpAny_load hl
    exact ⟨_, rfl, h⟩
theorem ev_sub_id : isSubtype (.type "int") (.type "dict") = pure false := by rw [isSubtype_type]; kernel_rfl
theorem ev_dict_eq_int (l : Addr) (es : Array DictEntry) (n : Nat) (dd : Option Addr) (sl : Array (Option Value)) (b : Int) (u : Tok) :
    Meets (Builtin.«dict.__eq__» ⟨[.ref l, .int b u], []⟩)
      (fun _ R s => s.heap.get? l = some { cls := .type "dict", dict := dd, data := .dict es n, slots := sl } ∧ R (.ok (.ret .notImplemented)) s) :=
  .of_wp fun prog w A R s h => by
    obtain ⟨hp, g, d, tk, os⟩ := s
    obtain ⟨hl, h⟩ := h
    have f1 := ev_sub_id
    wp_walk using wpAny_loadPart' hl, wpAny_load hl
    exact ⟨_, rfl, h⟩
theorem ev_eq_int_dict {l : Addr} {o : Obj} {es : Array DictEntry} {n : Nat} (b : Int) (u : Tok) (ho : s.heap.get? l = some o) (hc : o.cls = .type "dict") (hd : o.data = .dict es n) (hu : A.units < cLine) :
    EqAt A s (.int b u) (.ref l) false := fun prog w E Q h => by
  obtain ⟨cls, dd, data, sl⟩ := o
  simp only at hc hd
  subst hc hd
  unfold eqBool
  refine wpAny_holding (wpAny_ite_split (fun hab => absurd (eq_of_beq hab) nofun) fun _ => wpAny_bind ?_)
  refine rc_eq_decline_or (k := false) (typeIs_int s b u) ⟨_, ho, rfl⟩ (by decide) ev_sub_di F.slot_int_eq F.slot_dict_eq_refl ?_ ?_ ?_ (.inr hu) (wpAny_truthy_bool h)
  · intro _ hq
    exact call_meets F.slot_int_eq (typeIs_int s b u) F.entry_int_eq (F.args_int_eq_2 _ _) (ev_int_eq_dict b u l (.type "dict") es n dd sl) ⟨ho, hq⟩
  · intro _ hq
    exact call_meets F.slot_dict_eq_refl ⟨_, ho, rfl⟩ F.entry_dict_eq (F.args_dict_eq_2 _ _) (ev_dict_eq_int l es n dd sl b u) ⟨ho, hq⟩
  · intro _ hq
    exact wpAny_of_eq (rfl : isSame (.int b u) (.ref l) = pure false) hq
end
end PySem.SeqAt
namespace Ev
open PySem PySem.Spec PyProof.Rows L2
/-- whether a value is among numbers, as Python sees it -/
def inD (ns : List Nat) : PyData → Bool
  | .int i => ns.any fun n => ((n : Nat) : Int) == i
  | .bool b => ns.any fun n => ((n : Nat) : Int) == (if b then 1 else 0)
  | _ => false
section
variable {X : Cx}
def rInI (K : PySem.W.Frag) : R2 := fun x y H Q => ∃ (p : Addr) (ns : List Nat) (d : PyData), y = .ref p ∧ SqT K H p (ns.map nV) ∧ Da K H x d ∧ Q (.bl (inD ns d)) H
theorem ints_of : ∀ {ns : List Nat} {us : List Value}, Vals (ns.map nV) us → ∀ u ∈ us, ∃ (b : Int) (t : Tok), u = .int b t
  | [], _, .nil, _, h => by cases h
  | n :: ns, _, .cons r t, u, h => by
    rcases List.mem_cons.mp h with rfl | h
    · obtain ⟨k, rfl⟩ := r
      exact ⟨_, _, rfl⟩
    · exact ints_of t u h
theorem op_inI (hu : X.A.units + 1 < cLine) : OpR X (compareOp .In) (rInI X.K) := by
  intro pins s σ H x y v u Q I rx ry h
  obtain ⟨p, ns, d, rfl, hq, hd, q⟩ := h
  cases ry
  obtain ⟨its, r, pl, hz⟩ := I.tuple hq
  have fl : (ns.map nV).all flatV = true := by
    rw [List.all_map]
    exact List.all_eq_true.mpr fun n _ => rfl
  have hui : X.A.in1.units < cLine := hu
  have flat : ∀ (hx : flatV x = true), (∀ ns' : List Nat, ns' = ns → inV x (ns'.map nV) = inD ns d) → wpAny (model X.prog X.w) X.A (compareOp .In v (.ref p)) (EP X pins σ Q) X.xe s := fun hx he => by
    refine SeqAt.in_tupleAt (eqU x) pl (fun w hw => mem_eqAt rx hx r fl w (by simpa using hw)) ⟨.bl _, H, I, rfl, ?_⟩
    rw [show its.toArray.any (eqU x) = its.any (eqU x) by simp, any_eqU r fl, show ((ns.map nV).any fun y => eqV y x) = inV x (ns.map nV) from rfl, he ns rfl]
    exact q
  have none : (∀ w ∈ its, SeqAt.EqAt X.A.in1 s w v false) → inD ns d = false → wpAny (model X.prog X.w) X.A (compareOp .In v (.ref p)) (EP X pins σ Q) X.xe s := fun he hf => by
    refine SeqAt.in_tupleAt (fun _ => false) pl (fun w hw => he w (by simpa using hw)) ⟨.bl _, H, I, rfl, ?_⟩
    rw [show (its.toArray.any fun _ => false) = false by simp, ← hf]
    exact q
  cases hd with
  | non =>
    exact flat rfl fun ns' e => by
      subst e
      show (ns'.map nV).any _ = false
      rw [List.any_map]
      exact List.any_eq_false.mpr fun n _ => Bool.false_ne_true
  | bl b =>
    exact flat rfl fun ns' e => by
      subst e
      show (ns'.map nV).any _ = _
      rw [List.any_map]
      rfl
  | int i =>
    exact flat rfl fun ns' e => by
      subst e
      show (ns'.map nV).any _ = _
      rw [List.any_map]
      rfl
  | str z =>
    exact flat rfl fun ns' e => by
      subst e
      show (ns'.map nV).any _ = false
      rw [List.any_map]
      exact List.any_eq_false.mpr fun n _ => Bool.false_ne_true
  | lst hs ha =>
    cases rx
    obtain ⟨its', rv, pl', _⟩ := I.list hs
    exact none (fun w hw => by
      obtain ⟨b, t, rfl⟩ := ints_of r w hw
      exact SeqAt.EqAt.int_list b t pl'.isList hui) rfl
  | tup hs ha =>
    cases rx
    obtain ⟨its', rv, pl', _⟩ := I.tuple hs
    exact none (fun w hw => by
      obtain ⟨b, t, rfl⟩ := ints_of r w hw
      exact SeqAt.EqAt.int_tuple b t pl' hui) rfl
  | @dic a kvs _ he hk =>
    cases rx
    have ok : ObjOk X.prog X.w H s.heap a (.dK kvs) := I.hok a _ he
    obtain ⟨_, ns', vs, kv, o, es, ep, ho, ex, hd, _⟩ := ok
    exact none (fun w hw => by
      obtain ⟨b, t, rfl⟩ := ints_of r w hw
      exact SeqAt.ev_eq_int_dict b t ho ex.1 hd hui) rfl
end
/-- how many different numbers -/
def distI (ns : List Int) : Nat := (firstMet (fun i => ns.getD i 0) ns.length).length
def tLenSetJ (K : PySem.W.Frag) (ta : TE) : TE := fun σ H Q => ta σ H fun x H1 => ∃ (l : Addr) (ns : List Int), x = .ref l ∧ SqL K H1 l (ns.map V.int) ∧ ns.length ≤ 4000 ∧ Q (.int (distI ns : Nat)) H1
theorem pe_lenSetJ {X : Cx} {a : Expr} {ta : TE} {p p2 q pos : Pos} (hg : Gl X "len") (hm : X.mg "len" = none) (hg2 : Gl X "set") (hm2 : X.mg "set" = none) (ha : PE X a ta) (hc : X.calm = true := by rfl)
    (na : starEach [a] X.env = (false, eval a X.env) :: starEach [] X.env := by rfl) : PE X (.Call (.Name "len" p) [.Call (.Name "set" p2) [a] [] q] [] pos) (tLenSetJ X.K ta) := ⟨fun pins s σ H Q I h => by
  refine Call_ (ld_blt I hg hm boot_len (callWith_builtin1 (args_cons (Call_ (ld_blt I hg2 hm2 boot_set ?_)) rfl) rfl rfl))
  refine callWith_type1 (args_cons (thn (ha.run pins s σ H _ I h) fun v s1 ⟨x, H1, I1, r1, l, ns, ex, hq, hl, q1⟩ => args_nil ?_) na) na rfl
  subst ex
  cases r1
  obtain ⟨its, r, pl, hz⟩ := I1.list hq
  have hsz : its.toArray.size = ns.length := by
    have e1 := r.length
    rw [List.length_map] at e1
    rw [List.size_toArray, e1]
  have hb : its.toArray.size + 1 < scanBound := by
    rw [hsz]
    unfold scanBound
    omega
  refine call_set_list (I1.ok.hd hc) pl.isList (by simpa using RZ.intsAre_vals r) hb fun h' tk hS hk => args_nil ?_
  rw [hsz] at hS
  obtain ⟨o, es, ep, t, ho, hex, hd, _, _, _, hf, hn⟩ := hS
  have I2 : Inv X pins σ H1 { s1 with heap := h', toks := tk } := I1.kept fun b o e => hk b o (Heap.lt_size e) e
  have hle := firstMet_length_le (fun i => ns.getD i 0) ns.length
  refine call_len_set ho hex hd hf (by rw [hn]; omega) ⟨.int (distI ns : Nat), H1, I2.tok _, ⟨_, by rw [hn]; rfl⟩, q1⟩⟩
theorem dist_one {ns : List Int} (h : ∀ x ∈ ns, ∀ y ∈ ns, x = y) : distI ns ≤ 1 := by
  unfold distI
  have go : ∀ i, i ≤ ns.length → (firstMet (fun i => ns.getD i 0) i).length ≤ 1 := fun i => by
    induction i with
    | zero => intro _; exact Nat.zero_le _
    | succ i ih =>
      intro hi
      have ih := ih (by omega)
      rw [firstMet_succ]
      unfold step_dedup
      split
      · exact ih
      · rename_i hno
        have hany := firstMet_any (fun i => ns.getD i 0) i (ns.getD i 0)
        by_cases h0 : i = 0
        · subst h0
          rw [firstMet_zero]
          exact Nat.le_refl _
        · refine absurd ?_ hno
          rw [hany, List.any_eq_true]
          have g : ∀ j, j < ns.length → ns.getD j 0 ∈ ns := fun j hj => by
            rw [List.getD_eq_getElem?_getD, List.getElem?_eq_getElem hj]
            exact List.getElem_mem hj
          exact ⟨ns.getD 0 0, List.mem_map.mpr ⟨0, List.mem_range.mpr (by omega), rfl⟩, beq_iff_eq.mpr (h _ (g 0 (by omega)) _ (g i (by omega)))⟩
  exact go ns.length (Nat.le_refl _)
theorem dist_two {ns : List Int} {x y : Int} (hx : x ∈ ns) (hy : y ∈ ns) (hne : x ≠ y) : 1 < distI ns := by
  have mem : ∀ z ∈ ns, z ∈ firstMet (fun i => ns.getD i 0) ns.length := fun z hz => by
    have hany := firstMet_any (fun i => ns.getD i 0) ns.length z
    have e : ((List.range ns.length).map fun i => ns.getD i 0).any (· == z) = true := by
      rw [List.any_eq_true]
      obtain ⟨j, hj, e⟩ := List.getElem_of_mem hz
      refine ⟨z, List.mem_map.mpr ⟨j, List.mem_range.mpr hj, ?_⟩, beq_self_eq_true z⟩
      rw [List.getD_eq_getElem?_getD, List.getElem?_eq_getElem hj, e]
      rfl
    rw [e, List.any_eq_true] at hany
    obtain ⟨u, hu, eu⟩ := hany
    rw [← beq_iff_eq.mp eu]
    exact hu
  have a := mem x hx
  have b := mem y hy
  unfold distI
  generalize firstMet (fun i => ns.getD i 0) ns.length = l at a b
  match l, a, b with
  | [u], a, b =>
    rw [List.mem_singleton] at a b
    exact absurd (a.trans b.symm) hne
  | _ :: _ :: _, _, _ =>
    show 1 < _ + 1 + 1
    omega
end Ev

/-! ## any data in a tuple of texts; isinstance of what an expression gives -/
namespace PySem.SeqAt
open PySem
section
variable {A : Around} {s : Shared}
theorem ev_sub_ds : isSubtype (.type "dict") (.type "str") = pure false := by rw [isSubtype_type]; kernel_rfl
theorem ev_eq_str_dict {l : Addr} {o : Obj} {es : Array DictEntry} {n : Nat} (b : Str) (u : Tok) (ho : s.heap.get? l = some o) (hc : o.cls = .type "dict") (hd : o.data = .dict es n) (hu : A.units < cLine) :
    EqAt A s (.str b u) (.ref l) false := fun prog w E Q h => by
  obtain ⟨cls, dd, data, sl⟩ := o
  simp only at hc hd
  subst hc hd
  unfold eqBool
  refine wpAny_holding (wpAny_ite_split (fun hab => absurd (eq_of_beq hab) nofun) fun _ => wpAny_bind ?_)
  refine rc_eq_decline_or (k := false) (typeIs_str s b u) ⟨_, ho, rfl⟩ (by decide) ev_sub_ds F.slot_str_eq F.slot_dict_eq_refl ?_ ?_ ?_ (.inr hu) (wpAny_truthy_bool h)
  · intro _ hq
    exact call_meets F.slot_str_eq (typeIs_str s b u) F.entry_str_eq (F.args_str_eq_2 _ _) (ev_str_eq_dict b u l (.type "dict") es n dd sl) ⟨ho, hq⟩
  · intro _ hq
    exact call_meets F.slot_dict_eq_refl ⟨_, ho, rfl⟩ F.entry_dict_eq (F.args_dict_eq_2 _ _) (ev_dict_eq_str l es n dd sl b u) ⟨ho, hq⟩
  · intro _ hq
    exact wpAny_of_eq (rfl : isSame (.str b u) (.ref l) = pure false) hq
end
end PySem.SeqAt
namespace Ev
open PySem PySem.Spec PyProof.Rows L2
/-- whether a value is among texts -/
def inT (ns : List Str) : PyData → Bool
  | .str x => ns.any fun n => n == x
  | _ => false
section
variable {X : Cx}
def rNiS (K : PySem.W.Frag) : R2 := fun x y H Q => ∃ (p : Addr) (ns : List Str) (d : PyData), y = .ref p ∧ SqT K H p (ns.map V.str) ∧ Da K H x d ∧ Q (.bl (!inT ns d)) H
theorem strs_of : ∀ {ns : List Str} {us : List Value}, Vals (ns.map V.str) us → ∀ u ∈ us, ∃ (b : Str) (t : Tok), u = .str b t
  | [], _, .nil, _, h => by cases h
  | n :: ns, _, .cons r t, u, h => by
    rcases List.mem_cons.mp h with rfl | h
    · obtain ⟨k, rfl⟩ := r
      exact ⟨_, _, rfl⟩
    · exact strs_of t u h
theorem op_niS (hu : X.A.units + 1 < cLine) : OpR X (compareOp .NotIn) (rNiS X.K) := by
  intro pins s σ H x y v u Q I rx ry h
  obtain ⟨p, ns, d, rfl, hq, hd, q⟩ := h
  cases ry
  obtain ⟨its, r, pl, hz⟩ := I.tuple hq
  have fl : (ns.map V.str).all flatV = true := by
    rw [List.all_map]
    exact List.all_eq_true.mpr fun n _ => rfl
  have hui : X.A.in1.units < cLine := hu
  have flat : ∀ (hx : flatV x = true), (∀ ns' : List Str, ns' = ns → inV x (ns'.map V.str) = inT ns d) → wpAny (model X.prog X.w) X.A (compareOp .NotIn v (.ref p)) (EP X pins σ Q) X.xe s := fun hx he => by
    refine SeqAt.notIn_tupleAt (eqU x) pl (fun w hw => mem_eqAt rx hx r fl w (by simpa using hw)) ⟨.bl _, H, I, rfl, ?_⟩
    rw [show its.toArray.any (eqU x) = its.any (eqU x) by simp, any_eqU r fl, show ((ns.map V.str).any fun y => eqV y x) = inV x (ns.map V.str) from rfl, he ns rfl]
    exact q
  have none : (∀ w ∈ its, SeqAt.EqAt X.A.in1 s w v false) → inT ns d = false → wpAny (model X.prog X.w) X.A (compareOp .NotIn v (.ref p)) (EP X pins σ Q) X.xe s := fun he hf => by
    refine SeqAt.notIn_tupleAt (fun _ => false) pl (fun w hw => he w (by simpa using hw)) ⟨.bl _, H, I, rfl, ?_⟩
    rw [show (its.toArray.any fun _ => false) = false by simp, ← hf]
    exact q
  have no : ∀ (x' : V), (∀ n : Str, eqV (.str n) x' = false) → ∀ ns' : List Str, inV x' (ns'.map V.str) = false := fun x' h ns' => by
    show (ns'.map V.str).any _ = false
    rw [List.any_map]
    exact List.any_eq_false.mpr fun n _ => by
      show ¬ eqV (.str n) x' = true
      rw [h n]
      exact Bool.false_ne_true
  cases hd with
  | non => exact flat rfl fun ns' e => no _ (fun _ => rfl) ns'
  | bl b => exact flat rfl fun ns' e => no _ (fun _ => rfl) ns'
  | int i => exact flat rfl fun ns' e => no _ (fun _ => rfl) ns'
  | str z =>
    exact flat rfl fun ns' e => by
      subst e
      show (ns'.map V.str).any _ = _
      rw [List.any_map]
      rfl
  | lst hs ha =>
    cases rx
    obtain ⟨its', rv, pl', _⟩ := I.list hs
    exact none (fun w hw => by
      obtain ⟨b, t, rfl⟩ := strs_of r w hw
      exact SeqAt.EqAt.str_list b t pl'.isList hui) rfl
  | tup hs ha =>
    cases rx
    obtain ⟨its', rv, pl', _⟩ := I.tuple hs
    exact none (fun w hw => by
      obtain ⟨b, t, rfl⟩ := strs_of r w hw
      exact SeqAt.EqAt.str_tuple b t pl' hui) rfl
  | @dic a kvs _ he hk =>
    cases rx
    have ok : ObjOk X.prog X.w H s.heap a (.dK kvs) := I.hok a _ he
    obtain ⟨_, ns', vs, kv, o, es, ep, ho, ex, hd, _⟩ := ok
    exact none (fun w hw => by
      obtain ⟨b, t, rfl⟩ := strs_of r w hw
      exact SeqAt.ev_eq_str_dict b t ho ex.1 hd hui) rfl
end
def rIsE (K : PySem.W.Frag) (T : String) : List V → Hp → VK → Prop := fun xs H Q => ∃ (x : V) (d : PyData), xs = [x, .ty T] ∧ Da K H x d ∧ Q (.bl (isD T d)) H
theorem call_isE {X : Cx} {T : String} (hT : OkT T) : CallR X (.builtin "isinstance") (rIsE X.K T) := fun pins s σ H xs us Q I r h => by
  obtain ⟨x, d, rfl, hd, q⟩ := h
  exact call_isi pins s σ H _ us Q I r ⟨x, .ty T, .type (tyD d), .type T, isD T d, rfl, .ty T, hd.ty, kit_ty (kit_D hT d), q⟩
end Ev

/-! ## Comprehensions, element by element; letters -/
namespace Ev
open PySem PySem.Spec PyProof.Rows L2
section
variable {K : PySem.W.Frag} {σ : L2.St} {H : Hp} {Q : VK} {te ti : TE} {a : Addr} {xs ys : List V} {g : TG} {vs : List Nat}
/-- what a turn of such a comprehension does -/
def TurnI (H : Hp) (σ : L2.St) (g : TG) (te : TE) (vs : List Nat) (x y : V) : Prop := ∀ (H' : Hp) (R : VK), Same H H' → (∀ H'', Same H' H'' → R y H'') → g x (wipe σ vs) H' fun σ2 H2 => wipe σ2 vs = wipe σ vs ∧ te σ2 H2 R
theorem turnI_inv {H' : Hp} {k : Nat} {x y : V} {D : Addr} (nD : H D = none) (hz : ys.length ≤ 1000000) (hy : ys[k]? = some y) (ht : TurnI H σ g te vs x y) (s' : Same H H') (eD : H' D = some (.lst (ys.take k))) :
    g x (wipe σ vs) H' fun σ2 H2 => wipe σ2 vs = wipe σ vs ∧ te σ2 H2 fun y H4 => ∃ acc, H4 D = some (.lst acc) ∧ acc.length < sizeLine ∧ Same H (upd H4 D (.lst (acc ++ [y]))) ∧ upd H4 D (.lst (acc ++ [y])) D = some (.lst (ys.take (k + 1))) := by
  have sz := sizeLine_eq
  have hk := (List.getElem?_eq_some_iff.mp hy).1
  refine ht H' _ s' fun H4 s4 => ⟨_, s4 _ _ eD, ?_, fun b o h => ?_, ?_⟩
  · rw [List.length_take]
    omega
  · rw [upd_ne (ne_of_none h nD)]
    exact s4 _ _ (s' _ _ h)
  · rw [upd_same, List.take_add_one, hy]
    rfl
theorem lcI_tup (hl : ys.length = xs.length) (hi : ∀ Q : VK, Q (.ref a) H → ti σ H Q) (hx : SqT K H a xs) (hz : xs.length ≤ 1000000) (he : ∀ (k : Nat) x y, xs[k]? = some x → ys[k]? = some y → TurnI H σ g te vs x y)
    (q : ∀ H' D, Same H H' → H D = none → H' D = some (.lst ys) → Q (.ref D) H') : tLc (iTup K ti) g tYes te vs σ H Q := by
  refine hi _ ⟨a, rfl, ⟨xs, hx⟩, fun D nD => ?_⟩
  refine lc_tup (K := K) (a := a) (xs := xs) (fun k H' => Same H H' ∧ H' D = some (.lst (ys.take k))) ⟨same_put nD, upd_same⟩ (fun k H' _ ⟨s', _⟩ => seqT_mono s' hx) ?_ ?_
  · rintro k x H' hk ⟨s', eD⟩
    have hy : k < ys.length := by
      have := (List.getElem?_eq_some_iff.mp hk).1
      omega
    exact turnI_inv nD (by omega) (List.getElem?_eq_getElem hy) (he k x _ hk (List.getElem?_eq_getElem hy)) s' eD
  · rintro H' ⟨s', eD⟩
    rw [← hl, List.take_length] at eD
    exact q H' D s' nD eD
theorem lcI_list (hl : ys.length = xs.length) (hi : ∀ Q : VK, Q (.ref a) H → ti σ H Q) (hx : SqL K H a xs) (hz : xs.length ≤ 1000000) (he : ∀ (k : Nat) x y, xs[k]? = some x → ys[k]? = some y → TurnI H σ g te vs x y)
    (q : ∀ H' D, Same H H' → H D = none → H' D = some (.lst ys) → Q (.ref D) H') : tLc (iList K ti) g tYes te vs σ H Q := by
  refine hi _ ⟨a, rfl, ⟨xs, hx⟩, fun D nD => ?_⟩
  refine lc_list (K := K) (a := a) (xs := xs) (fun k H' => Same H H' ∧ H' D = some (.lst (ys.take k))) ⟨same_put nD, upd_same⟩ (fun k H' _ ⟨s', _⟩ => s'.seq hx) ?_ ?_
  · rintro k x H' hk ⟨s', eD⟩
    have hy : k < ys.length := by
      have := (List.getElem?_eq_some_iff.mp hk).1
      omega
    exact turnI_inv nD (by omega) (List.getElem?_eq_getElem hy) (he k x _ hk (List.getElem?_eq_getElem hy)) s' eD
  · rintro H' ⟨s', eD⟩
    rw [← hl, List.take_length] at eD
    exact q H' D s' nD eD
theorem lcI_str {te0 : TE} {x : Str} (hl : ys.length = x.cps.size) (hz : ys.length ≤ 1000) (hi : ∀ Q : VK, Q (.str x) H → te0 σ H Q) (he : ∀ (k c : Nat) y, x.cps[k]? = some c → ys[k]? = some y → TurnI H σ g te vs (.str ⟨#[c]⟩) y)
    (q : ∀ H' D, Same H H' → H D = none → H' D = some (.lst ys) → Q (.ref D) H') : tLc (iStr te0) g tYes te vs σ H Q := by
  refine hi _ ⟨x, rfl, fun D nD => ⟨fun k m H' => m = ys.length - k ∧ k ≤ ys.length ∧ Same H H' ∧ H' D = some (.lst (ys.take k)), ⟨_, rfl, Nat.zero_le _, same_put nD, upd_same⟩, ?_⟩⟩
  rintro k m H' ⟨rfl, hk, s', eD⟩
  by_cases hlt : k < ys.length
  · have hy := List.getElem?_eq_getElem hlt
    refine .inr ⟨by show k < x.cps.size; omega, fun H'' => Same H H'' ∧ H'' D = some (.lst (ys.take (k + 1))), fun H'' p' => ⟨ys.length - (k + 1), by omega, rfl, hlt, p'.1, p'.2⟩, ?_⟩
    rintro v H'' ⟨rfl, c, hc, rfl⟩
    exact turnI_inv nD (by omega) hy (he k c _ hc hy) s' eD
  · refine .inl ⟨by show x.cps.size ≤ k; omega, ?_⟩
    obtain rfl : k = ys.length := by omega
    rw [List.take_length] at eD
    exact q H' D s' nD eD
end
/-- letters -/
abbrev rInZ : R2 := fun x y H Q => ∃ (c : Nat) (z : Str), x = .str ⟨#[c]⟩ ∧ y = .str z ∧ Q (.bl (decide (c ∈ z.cps.toList))) H
theorem az_list : ("abcdefghijklmnopqrstuvwxyz" : Str).cps.toList = (List.range 26).map (· + 97) := by decide +kernel
theorem az (c : Nat) : decide (c ∈ ("abcdefghijklmnopqrstuvwxyz" : Str).cps.toList) = (decide (97 ≤ c) && decide (c ≤ 122)) := by
  rw [az_list, ← Bool.decide_and, decide_eq_decide, List.mem_map]
  constructor
  · rintro ⟨a, ha, rfl⟩
    have := List.mem_range.mp ha
    omega
  · intro h
    exact ⟨c - 97, List.mem_range.mpr (by omega), by omega⟩
end Ev

/-! ## Pivots in the heap -/
namespace Ev
open PySem PySem.Spec PyProof.Rows L2 Pm
def PvU (H : Hp) : List V → List (Nat × List Int) → Prop
  | [], [] => True
  | u :: us, q :: pv => (∃ t b, u = .ref t ∧ H t = some (.tup [.int (q.1 : Nat), .ref b]) ∧ H b = some (.lst (q.2.map V.int))) ∧ PvU H us pv
  | _, _ => False
theorem PvU.same {H H' : Hp} (s : Same H H') : ∀ {us : List V} {pv : List (Nat × List Int)}, PvU H us pv → PvU H' us pv
  | [], [], _ => trivial
  | [], _ :: _, h => h.elim
  | _ :: _, [], h => h.elim
  | u :: us, q :: pv, ⟨⟨t, b, e, h1, h2⟩, h⟩ => ⟨⟨t, b, e, s _ _ h1, s _ _ h2⟩, PvU.same s h⟩
theorem PvU.len {H : Hp} : ∀ {us : List V} {pv : List (Nat × List Int)}, PvU H us pv → us.length = pv.length
  | [], [], _ => rfl
  | [], _ :: _, h => h.elim
  | _ :: _, [], h => h.elim
  | u :: us, q :: pv, ⟨_, h⟩ => by rw [List.length_cons, List.length_cons, h.len]
theorem PvU.at {H : Hp} : ∀ {us : List V} {pv : List (Nat × List Int)} {i : Nat} {u : V}, PvU H us pv → us[i]? = some u → ∃ (h : i < pv.length) (t b : Addr), u = .ref t ∧ H t = some (.tup [.int (pv[i].1 : Nat), .ref b]) ∧ H b = some (.lst (pv[i].2.map V.int))
  | [], _, _, _, _, h => by cases h
  | _ :: _, [], _, _, h, _ => h.elim
  | u :: us, q :: pv, 0, x, ⟨⟨t, b, e, h1, h2⟩, _⟩, hx => by
    cases hx
    exact ⟨Nat.succ_pos _, t, b, e, h1, h2⟩
  | u :: us, q :: pv, i + 1, x, ⟨_, h⟩, hx => by
    obtain ⟨h0, t, b, e, h1, h2⟩ := h.at (i := i) (u := x) hx
    exact ⟨Nat.succ_lt_succ h0, t, b, e, h1, h2⟩
theorem PvU.snoc {H : Hp} : ∀ {us : List V} {pv : List (Nat × List Int)} {u : V} {q : Nat × List Int}, PvU H us pv → (∃ t b, u = .ref t ∧ H t = some (.tup [.int (q.1 : Nat), .ref b]) ∧ H b = some (.lst (q.2.map V.int))) → PvU H (us ++ [u]) (pv ++ [q])
  | [], [], _, _, _, h => ⟨h, trivial⟩
  | [], _ :: _, _, _, h, _ => h.elim
  | _ :: _, [], _, _, h, _ => h.elim
  | _ :: _, _ :: _, _, _, ⟨h0, h1⟩, h => ⟨h0, h1.snoc h⟩
/-- the tuples and their rows lie elsewhere than l -/
def PvL (H : Hp) (l : Addr) (pv : List (Nat × List Int)) : Prop := ∃ us, H l = some (.lst us) ∧ PvU H us pv
theorem PvL.same {H H' : Hp} {l : Addr} {pv : List (Nat × List Int)} (s : Same H H') (h : PvL H l pv) : PvL H' l pv := by
  obtain ⟨us, e, p⟩ := h
  exact ⟨us, s _ _ e, p.same s⟩
def optI : Option Nat → V
  | none => .non
  | some k => .int (k : Nat)
theorem map_int_at {r : List Int} {i : Nat} {v : V} (h : (r.map V.int)[i]? = some v) : i < r.length ∧ v = .int (gd r i) := by
  rw [List.getElem?_map] at h
  obtain ⟨x, hx, rfl⟩ := Option.map_eq_some_iff.mp h
  obtain ⟨h1, h2⟩ := List.getElem?_eq_some_iff.mp hx
  exact ⟨h1, by rw [gd_eq h1, h2]⟩
theorem at_map_int {r : List Int} {i : Nat} (h : i < r.length) : (r.map V.int)[i]? = some (.int (gd r i)) := by
  rw [List.getElem?_map, List.getElem?_eq_getElem h, gd_eq h]
  rfl
theorem atI_gd {r : List Int} {i : Nat} (h : i < r.length) : atI (r.map V.int) ((i : Nat) : Int) = some (.int (gd r i)) := atI_of (at_map_int h)
theorem gcdL_app : ∀ (l : List Int) (g : Nat) (x : Int), gcdL (l ++ [x]) g = Nat.gcd (gcdL l g) x.natAbs
  | [], g, x => rfl
  | y :: l, g, x => by rw [List.cons_append, gcdL, gcdL, gcdL_app l]
theorem gcdL_snoc {l : List Int} {i : Nat} (h : i < l.length) : gcdL (l.take (i + 1)) 0 = Nat.gcd (gcdL (l.take i) 0) (gd l i).natAbs := by
  rw [List.take_succ_eq_append_getElem h, gcdL_app, gd_eq h]
end Ev
namespace Ev
open PySem PySem.Spec PyProof.Rows L2
def cDq (e : Nat × Nat) : PyData := .tuple [.int (e.1 : Nat), .int (e.2 : Nat)]
theorem da_cDq {K : PySem.W.Frag} {H : Hp} {v : V} {e : Nat × Nat} (h : Da K H v (cDq e)) : ∃ b, v = .ref b ∧ SqT K H b [.int (e.1 : Nat), .int (e.2 : Nat)] := by
  cases h with
  | @tup b xs _ hs ha =>
  cases ha with
  | cons h1 t =>
    cases t with
    | cons h2 t =>
      cases t
      cases h1
      cases h2
      exact ⟨b, rfl, hs⟩
theorem tup_cDq : ∀ S : List (Nat × Nat), tupDs (S.map cDq) = true
  | [] => by rw [List.map_nil, tupDs]
  | e :: S => by
    rw [List.map_cons, tupDs, tup_cDq S, cDq, tupD, tupDs, tupDs, tupDs, tupD, tupD]
    all_goals (first | rfl | nofun)
end Ev
namespace Ev
open PySem PySem.Spec PyProof.Rows L2
/-- both branches of a conditional expression lead to the same -/
theorem ife_cut {c : TT} {ta tb : TE} {σ : L2.St} {H : Hp} {Q : VK} (J : V → Hp → Prop) (k : ∀ v H', J v H' → Q v H') (h : (∀ v H', J v H' → Q v H') → tIf c ta tb σ H Q) : tIf c ta tb σ H Q := h k
theorem optI_not (o : Option Nat) : (!decide (optI o = V.non)) = o.isSome := by
  cases o <;> rfl
end Ev
namespace Ev
open PySem PySem.Spec PyProof.Rows L2 Pm
theorem cutV_end {xs : List V} {n m : Nat} (h : xs.length = n + m + 1) : cutV xs (some (n : Nat)) (some (-1)) = (xs.drop n).take m := by
  unfold cutV
  rw [HT.sIx_nat, h, Nat.min_eq_left (by omega)]
  have e : HT.sIx (n + m + 1) (n + m + 1) (some (-1)) = n + m := by
    unfold HT.sIx
    simp
    try omega
  rw [e, Nat.add_sub_cancel_left]
theorem atI_end {r : List Int} {k : Nat} (h : r.length = k + 1) : atI (r.map V.int) (-1) = some (.int (gd r k)) := by
  have e : r.map V.int = (r.take k).map V.int ++ [.int (gd r k)] := by
    rw [← List.map_singleton, ← List.map_append, gd_eq (show k < r.length by omega), ← List.take_succ_eq_append_getElem, List.take_of_length_le (by omega)]
  rw [e]
  exact atI_last ..
end Ev
namespace Ev
open PySem PySem.Spec PyProof.Rows L2 Pm
theorem any_fst0 : ∀ l : List Int, (l.any fun i => i != 0) = (fst0 l).isSome
  | [] => rfl
  | x :: l => by
    rw [List.any_cons, fst0, any_fst0 l]
    by_cases e : x ≠ 0
    · rw [if_pos e, bne_iff_ne.mpr e]
      rfl
    · rw [if_neg e, Classical.not_not.mp e]
      cases fst0 l <;> rfl
end Ev

/-! ## Rows that are cleared stay small on their way -/
namespace Ev
open PySem PySem.Spec PyProof.Rows L2 Pm
/-- rows that may be cleared, one after the other: something is not 0, and all stay small -/
def ClrOk : List Int → List (Nat × List Int) → Prop
  | _, [] => True
  | v, q :: ps => (∃ i0, i0 < v.length ∧ gd v i0 * gd q.2 q.1 - gd q.2 i0 * gd v q.1 ≠ 0) ∧ v.length = q.2.length ∧ q.1 < v.length ∧ (∀ i, (gd v i).natAbs < 2 ^ 800) ∧ (∀ i, (gd q.2 i).natAbs < 2 ^ 800) ∧ ClrOk (wth v q.2 q.1) ps
theorem bn49 : 13 * BN < 2 ^ 49 := by decide +kernel
theorem clrOk_of {n M a : Nat} {ind : Nat → Nat → Nat} {J : List Nat} (ha : a ∉ J) (haM : a < M) : ∀ {ps : List (Nat × List Int)} {k : Nat} {v : List Int}, (∀ q ∈ ps, PRow n M ind J q) → (∀ q ∈ ps, ∀ i, (gd q.2 i).natAbs ≤ 13 * BN) → CRow n M ind J a v → (∀ i, (gd v i).natAbs ≤ 2 ^ (50 * k)) → k + ps.length ≤ 15 → ClrOk v ps
  | [], _, _, _, _, _, _, _ => trivial
  | q :: ps, k, v, hq, hb, hv, bv, hk => by
    have Q := hq q (List.mem_cons_self ..)
    have B := hb q (List.mem_cons_self ..)
    have qa : gd q.2 (n + a) = 0 := Q.out a ha
    have nz : gd v (n + a) * gd q.2 q.1 - gd q.2 (n + a) * gd v q.1 ≠ 0 := by
      rw [qa, Int.zero_mul, Int.sub_zero]
      exact Int.ne_of_gt (Int.mul_pos hv.pos Q.pos)
    have hk' : k ≤ 14 := by rw [List.length_cons] at hk; omega
    have p800 : (2 : Nat) ^ (50 * k) < 2 ^ 800 := Nat.pow_lt_pow_right (by decide) (by omega)
    have b49 := bn49
    have b800 : (2 : Nat) ^ 49 < 2 ^ 800 := by decide +kernel
    obtain ⟨g, g0, ge, gp, _⟩ := wth_spec hv.len Q.len (i0 := n + a) (by omega) nz
    refine ⟨⟨n + a, by have := hv.len; omega, nz⟩, hv.len.trans Q.len.symm, by have := hv.len; have := Q.pl; omega, fun i => Nat.lt_of_le_of_lt (bv i) p800, fun i => by have := B i; omega, ?_⟩
    have C' : CRow n M ind J a (wth v q.2 q.1) := by
      refine ⟨wth_len hv.len Q.len, Comb.lin (by omega) hv.comb Q.comb ge, gp, ?_, fun j hj hja => ?_⟩
      · have := ge (n + a) (by omega)
        rw [qa, Int.zero_mul, Int.sub_zero] at this
        have h2 : 0 < g * gd (wth v q.2 q.1) (n + a) := this ▸ Int.mul_pos hv.pos Q.pos
        exact Int.pos_of_mul_pos_right h2 (by omega)
      · by_cases hM : j < M
        · have := ge (n + j) (by omega)
          rw [hv.out j hj hja, Q.out j hj, Int.zero_mul, Int.zero_mul, Int.sub_zero] at this
          exact (Int.mul_eq_zero.mp this).resolve_left (by omega)
        · exact gd_out (by rw [wth_len hv.len Q.len]; omega)
    refine clrOk_of ha haM (k := k + 1) (fun q hq' => hq q (List.mem_cons_of_mem _ hq')) (fun q hq' => hb q (List.mem_cons_of_mem _ hq')) C' (fun i => ?_) (by rw [List.length_cons] at hk; omega)
    by_cases hi : i < n + M
    · have e := congrArg Int.natAbs (ge i hi)
      rw [Int.natAbs_mul] at e
      have s := Int.natAbs_sub_le (gd v i * gd q.2 q.1) (gd q.2 i * gd v q.1)
      rw [Int.natAbs_mul, Int.natAbs_mul] at s
      have m1 := Nat.mul_le_mul (bv i) (B q.1)
      have m2 := Nat.mul_le_mul (B i) (bv q.1)
      have m3 : 1 * (gd (wth v q.2 q.1) i).natAbs ≤ g.natAbs * (gd (wth v q.2 q.1) i).natAbs := Nat.mul_le_mul_right _ (by omega)
      have m4 : 2 ^ (50 * k) * (13 * BN) ≤ 2 ^ (50 * k) * 2 ^ 49 := Nat.mul_le_mul_left _ (by omega)
      have m5 : 2 ^ (50 * (k + 1)) = 2 ^ (50 * k) * 2 ^ 49 + 2 ^ (50 * k) * 2 ^ 49 := by
        rw [show 50 * (k + 1) = 50 * k + 49 + 1 by omega, Nat.pow_succ, Nat.pow_add]
        omega
      rw [Nat.mul_comm (13 * BN)] at m2
      omega
    · rw [gd_out (by rw [wth_len hv.len Q.len]; omega)]
      exact Nat.zero_le _
theorem pinv_bv {n m k : Nat} {ind : Nat → Nat → Nat} {J : List Nat} {pv : List (Nat × List Int)} (I : PInv n (m + 1) ind k J pv) (hA : ∀ j t, ind j t ≤ 1) (hm : m ≤ 12) (hk : k ≤ m) : ∀ q ∈ pv, ∀ i, (gd q.2 i).natAbs ≤ 13 * BN := fun q hq i => by
  have hJ := I.len_k
  have Q := I.row q hq
  exact comb_bound Q.comb hA (I.bound_row (by omega) hA (by omega) hq) (by omega) i Q.len
theorem pinv_clrOk {n m k a : Nat} {ind : Nat → Nat → Nat} {J : List Nat} {pv : List (Nat × List Int)} (I : PInv n (m + 1) ind k J pv) (hA : ∀ j t, ind j t ≤ 1) (hm : m ≤ 12) (hk : k ≤ m) (hka : k ≤ a) (ha : a < m + 1) : ClrOk (crow n (m + 1) ind a) pv := by
  have hJ := I.len_k
  have na : a ∉ J := fun h => by have := I.jk a h; omega
  refine clrOk_of na ha (k := 0) I.row (pinv_bv I hA hm hk) (crow_crow ha) (fun i => ?_) (by have := I.len; omega)
  by_cases h : i < n
  · rw [crow_t h]
    have := hA a i
    show _ ≤ 1
    omega
  · by_cases h2 : i - n < m + 1
    · have := crow_p (n := n) (ind := ind) (a := a) h2
      rw [show n + (i - n) = i by omega] at this
      rw [this]
      split <;> decide
    · rw [gd_out (by rw [crow_len]; omega)]
      exact Nat.zero_le _
theorem PvU.put {H : Hp} {D : Addr} {acc : List V} {o : HO} (hD : H D = some (.lst acc)) : ∀ {us : List V} {qs : List (Nat × List Int)}, (∀ q ∈ qs, q.2.map V.int ≠ acc) → PvU H us qs → PvU (upd H D o) us qs
  | [], [], _, _ => trivial
  | [], _ :: _, _, h => h.elim
  | _ :: _, [], _, h => h.elim
  | u :: us, q :: qs, hn, ⟨⟨t, b, e, h1, h2⟩, h⟩ => by
    refine ⟨⟨t, b, e, ?_, ?_⟩, PvU.put hD (fun q hq => hn q (List.mem_cons_of_mem _ hq)) h⟩
    · rw [upd_ne fun z => by rw [z, hD] at h1; cases h1]
      exact h1
    · rw [upd_ne fun z => hn q (List.mem_cons_self ..) (by rw [z, hD] at h2; injection h2 with h2; injection h2 with h2; exact h2.symm)]
      exact h2
theorem PvU.ne_row {H : Hp} : ∀ {us : List V} {qs : List (Nat × List Int)} {r : List Int}, PvU H us qs → r ≠ [] → r.map V.int ≠ us
  | [], _, _ :: _, _, _, z => by cases z
  | [], _, [], _, h, _ => absurd rfl h
  | _ :: _, [], _, h, _, _ => h.elim
  | u :: us, q :: qs, [], _, h, _ => absurd rfl h
  | u :: us, q :: qs, x :: r, ⟨⟨t, b, e, _⟩, _⟩, _, z => by
    rw [List.map_cons, e] at z
    injection z with z
    cases z
end Ev
namespace Ev
open PySem PySem.Spec PyProof.Rows L2 Pm
theorem sgn_pos {v : List Int} {pl : Nat} (h : gd v pl ≠ 0) : 0 < gd (sgn v pl) pl := by
  unfold sgn
  by_cases z : 0 < gd v pl
  · rw [if_pos z]
    exact z
  · rw [if_neg z, gd_map (fun x => -x) rfl]
    omega
theorem sgn_abs {v : List Int} {pl : Nat} (i : Nat) : (gd (sgn v pl) i).natAbs = (gd v i).natAbs := by
  obtain ⟨e, he, h⟩ := sgn_gd (v := v) (pl := pl)
  rw [h]
  rcases he with rfl | rfl <;> omega
theorem sgn_zero {v : List Int} {pl i : Nat} (h : gd v i = 0) : gd (sgn v pl) i = 0 := by
  have := sgn_abs (v := v) (pl := pl) i
  omega
end Ev
namespace Ev
open PySem PySem.Spec PyProof.Rows L2 Pm
theorem ixN_at {n k : Nat} (h : k < n) : ixN n ((k : Nat) : Int) = some k := by
  unfold ixN
  rw [if_pos (by omega), if_pos (by omega), Int.toNat_natCast]
theorem set_map_int {x : List Int} {k : Nat} {y : Int} : (x.map V.int).set k (.int y) = (x.set k y).map V.int := List.map_set.symm
end Ev
namespace Ev
open PySem PySem.Spec PyProof.Rows L2 Pm
theorem da_intsQ {K : PySem.W.Frag} {H : Hp} (f : Int → Int) : ∀ X : List Int, DaAll K H (X.map fun i => V.int (f i)) (X.map fun i => PyData.int (f i))
  | [] => .nil
  | x :: X => .cons (.int _) (da_intsQ f X)
theorem ints_at {X : List Int} {f : Int → Int} {k : Nat} {x y : V} (hx : (X.map V.int)[k]? = some x) (hy : (X.map fun i => V.int (f i))[k]? = some y) : ∃ i, x = .int i ∧ y = .int (f i) := by
  rw [List.getElem?_map] at hx hy
  obtain ⟨i, h1, rfl⟩ := Option.map_eq_some_iff.mp hx
  rw [h1] at hy
  cases hy
  exact ⟨i, rfl, rfl⟩
end Ev

/-! ## range(a, b, c) with numbers of any size, over the library's Walks.longrange -/
namespace Ev
open PySem PySem.Spec PyProof.Rows L2
/-- where such an iterator stands -/
abbrev LgAt (it : Addr) (a c : Int) (n i : Nat) (h : Heap) : Prop := IsLongIter h it (a + ((i : Nat) : Int) * c) (((n : Nat) : Int) - ((i : Nat) : Int)) c
theorem turn_long {P : Program} {w : World} {K : PySem.W.Frag} {tg : Expr} (it : Addr) (a c : Int) (n : Nat) : L2.Turn P w K tg (Itc a c n) [it] it (LgAt it a c n) where
  mem := List.mem_singleton_self it
  obj _ _ st b hb := by
    obtain rfl := List.mem_singleton.mp hb
    exact ⟨_, st, fun _ z => nomatch z⟩
  keep _ _ _ st k := k it (List.mem_singleton_self it) _ st
  self _ _ _ _ _ st q := wpAny_pyIter_longiter st q
  done := by
    rintro X rfl rfl rfl calm i pins s σ H E I own st ge
    obtain ⟨g0, g1, _, g3, g4, g5⟩ := own it (List.mem_singleton_self it)
    have none_left : ((n : Nat) : Int) - ((i : Nat) : Int) ≤ 0 := by
      have ge : n ≤ i := ge
      omega
    exact wpAny_pyNext_long_end (I.ok.hd calm) st none_left fun h2 k => ⟨rfl, I.turned (t' := s.toks) (fun b o nb e => k b o nb e) g0 g1 g3 g4 g5⟩
  item := by
    rintro X rfl rfl rfl calm i pins s σ H E I own st lt
    obtain ⟨g0, g1, _, g3, g4, g5⟩ := own it (List.mem_singleton_self it)
    refine (Walks.longrange (prog := X.prog) (w := X.w) (I.ok.hd calm) it a c n).item i s _ _ lt st fun v h2 tk num st2 k => ?_
    obtain ⟨t, rfl⟩ := num
    have J : Inv X pins σ H { s with heap := h2, toks := tk } := I.turned (fun b o nb e => k b o (fun hb => nb (List.mem_singleton.mp hb)) e) g0 g1 g3 g4 g5
    refine ⟨_, rfl, go_of (s := { s with heap := h2, toks := tk }) (n := "longrange_iterator") st2 rfl rfl (by decide) ⟨.int (a + ((i : Nat) : Int) * c), H, J, ⟨t, rfl⟩, ⟨rfl, rfl⟩, st2, fun b hb => (own b hb).1⟩⟩
/-- any bounds, n items -/
def iRngL (ta : TA) : TI := fun σ H R => ta σ H fun vs H1 => ∃ (a b c : Int) (n : Nat), vs = [.int a, .int b, .int c] ∧ c ≠ 0 ∧ c.natAbs.log2 < 9000 ∧ Builtin.Range.rangeSize a b c = n ∧ R (Itc a c n) H1
section
variable {X : Cx} {tg : Expr}
theorem pi_rangeL {e1 e2 e3 : Expr} {ta : TA} {p pos : Pos} (hg : Gl X "range") (hm : X.mg "range" = none) (ha : PA X [e1, e2, e3] ta)
    (hs : starEach [e1, e2, e3] X.env = (false, eval e1 X.env) :: starEach [e2, e3] X.env := by rfl) (hpl : (backTo pos (starEach [e2, e3] X.env)).any (·.1) = false := by rfl) :
    PI X tg (.Call (.Name "range" p) [e1, e2, e3] [] pos) (iRngL ta) := by
  constructor
  rintro pins s σ H R I h
  refine Call_ (ld_blt I hg hm boot_range (PyProof.Rows.callWith_type1 (thn (ha.run pos pins s σ H _ I h) ?_) hs hpl))
  rintro us s1 ⟨vs, H1, I1, rv, a, b, c, n, rfl, c0, c9, size, q⟩
  obtain ⟨u1, u2, u3, rfl, ⟨t1, rfl⟩, ⟨t2, rfl⟩, ⟨t3, rfl⟩⟩ : ∃ u1 u2 u3, us = [u1, u2, u3] ∧ RelV (.int a) u1 ∧ RelV (.int b) u2 ∧ RelV (.int c) u3 := by
    cases rv with
    | cons r1 rv =>
      obtain ⟨u2, u3, rfl, r2, r3⟩ := vals2 rv
      exact ⟨_, _, _, rfl, r1, r2, r3⟩
  refine call_range_3 c0 ?_ (.inl (PyProof.noPylong_of_log2 c9))
  have J : Inv X pins σ H1 { s1 with heap := s1.heap.push { cls := .type "range", data := .fields #[.int a t1, .int b t2, .int c t3] } } := I1.kept (t' := s1.toks) fun _ _ => Heap.get?_push_of_some _
  have z1 : a + ((0 : Nat) : Int) * c = a := by rw [Int.natCast_zero, Int.zero_mul, Int.add_zero]
  have z2 : ((n : Nat) : Int) - ((0 : Nat) : Int) = Builtin.Range.rangeSize a b c := by rw [size, Int.natCast_zero, Int.sub_zero]
  cases big : Builtin.Range.small a b c with
  | true =>
    refine wpAny_pyIter_range (IsRange.new ..) big (pi_one (tk := s1.toks) J _ (turn_rangeC _ a c n) ?_ q)
    dsimp only
    rw [z1, z2]
    exact Heap.get?_push_size _ rfl
  | false =>
    refine wpAny_pyIter_longrange (IsRange.new ..) big (pi_one (tk := s1.toks) J _ (turn_long _ a c n) ?_ q)
    show IsLongIter _ _ _ _ _
    rw [z1, z2]
    exact Heap.get?_push_size _ rfl
end
/-- a, a + c, .. below b -/
theorem size_up {a b c : Nat} (hc : 0 < c) : Builtin.Range.rangeSize ((a : Nat) : Int) ((b : Nat) : Int) ((c : Nat) : Int) = (((b - a + c - 1) / c : Nat) : Int) := by
  unfold Builtin.Range.rangeSize
  rw [if_pos (show ((c : Nat) : Int) > 0 by omega)]
  by_cases h : a < b
  · rw [if_pos (by omega), show ((b : Nat) : Int) - ((a : Nat) : Int) - 1 = ((b - a - 1 : Nat) : Int) by omega, ← Int.natCast_ediv, show b - a + c - 1 = (b - a - 1) + c by omega, Nat.add_div_right _ hc]
    rfl
  · rw [if_neg (by omega), Nat.div_eq_of_lt (by omega)]
    rfl
end Ev

/-! ## range(a, b) with numbers of any size; comprehensions over it that filter -/
namespace Ev
open PySem PySem.Spec PyProof.Rows L2
theorem itc_itr (a : Int) (n : Nat) : Itc a 1 n = Itr a n := by
  unfold Itc Itr
  congr 1
  funext i H x H'
  rw [Int.mul_one]
theorem size_one (a b : Int) : Builtin.Range.rangeSize a b 1 = ((b - a).toNat : Nat) := by
  rw [PySem.rangeSize_one]
  split <;> omega
def iRngM (ta : TA) : TI := fun σ H R => ta σ H fun vs H1 => ∃ a b : Int, vs = [.int a, .int b] ∧ R (Itr a (b - a).toNat) H1
section
variable {X : Cx} {tg : Expr}
theorem pi_rangeM {e1 e2 : Expr} {ta : TA} {p pos : Pos} (hg : Gl X "range") (hm : X.mg "range" = none) (ha : PA X [e1, e2] ta) (hs : starEach [e1, e2] X.env = [(false, eval e1 X.env), (false, eval e2 X.env)] := by rfl) (hs2 : starEach [e2] X.env = [(false, eval e2 X.env)] := by rfl) :
    PI X tg (.Call (.Name "range" p) [e1, e2] [] pos) (iRngM ta) := by
  constructor
  rintro pins s σ H R I h
  refine Call_ (ld_blt I hg hm boot_range (PyProof.Rows.callWith_type1 (thn (ha.run pos pins s σ H _ I h) ?_) (by rw [hs, hs2]) (by rw [hs2]; rfl)))
  rintro us s1 ⟨vs, H1, I1, rv, a, b, rfl, q⟩
  obtain ⟨u1, u2, rfl, ⟨t1, rfl⟩, ⟨t2, rfl⟩⟩ := vals2 rv
  refine call_range_2 ?_
  have J : Inv X pins σ H1 { s1 with heap := s1.heap.push { cls := .type "range", data := .fields #[.int a t1, .int b t2, .int 1 s1.toks] }, toks := s1.toks + 1 } := I1.kept (t' := s1.toks + 1) fun _ _ => Heap.get?_push_of_some _
  have z1 : a + ((0 : Nat) : Int) * 1 = a := by rw [Int.natCast_zero, Int.zero_mul, Int.add_zero]
  have z2 : (((b - a).toNat : Nat) : Int) - ((0 : Nat) : Int) = Builtin.Range.rangeSize a b 1 := by rw [size_one, Int.natCast_zero, Int.sub_zero]
  rw [← itc_itr] at q
  cases big : Builtin.Range.small a b 1 with
  | true =>
    refine wpAny_pyIter_range (IsRange.new ..) big (pi_one (tk := s1.toks + 1) J _ (turn_rangeC _ a 1 (b - a).toNat) ?_ q)
    dsimp only
    rw [z1, z2]
    exact Heap.get?_push_size _ rfl
  | false =>
    refine wpAny_pyIter_longrange (IsRange.new ..) big (pi_one (tk := s1.toks + 1) J _ (turn_long _ a 1 (b - a).toNat) ?_ q)
    show IsLongIter _ _ _ _ _
    rw [z1, z2]
    exact Heap.get?_push_size _ rfl
end
theorem lcF_rngM {σ : L2.St} {H : Hp} {Q : VK} {tt : TT} {te : TE} {ta : TA} {a b : Nat} {g : TG} {vs : List Nat} (f : V → Bool) (e : V → V) (hta : ∀ (Q : List V → Hp → Prop), Q [.int (a : Nat), .int (b : Nat)] H → ta σ H Q) (hz : b - a ≤ 1000000)
    (he : ∀ x ∈ (rgN a b).map nV, Turn H σ g tt te vs f e x) (q : ∀ H' D, Same H H' → H D = none → H' D = some (.lst ((((rgN a b).map nV).filter f).map e)) → Q (.ref D) H') : tLc (iRngM ta) g tt te vs σ H Q := by
  refine hta _ ⟨(a : Nat), (b : Nat), rfl, fun D nD => ?_⟩
  have hn : (((b : Nat) : Int) - ((a : Nat) : Int)).toNat = ((rgN a b).map nV).length := by
    rw [List.length_map, rgN_len]
    omega
  have hzl : ((rgN a b).map nV).length ≤ 1000000 := by
    rw [List.length_map, rgN_len]
    exact hz
  rw [hn]
  refine lc_range (lo := (a : Nat)) (n := ((rgN a b).map nV).length) (fun k H' => Same H H' ∧ H' D = some (.lst (((((rgN a b).map nV).take k).filter f).map e))) ⟨same_put nD, by rw [List.take_zero]; exact upd_same⟩ ?_ ?_
  · rintro k H' hk ⟨s', eD⟩
    have hx : ((rgN a b).map nV)[k]? = some (.int (((a : Nat) : Int) + (k : Nat))) := by
      rw [List.length_map, rgN_len] at hk
      rw [List.getElem?_map, rgN_get hk]
      show some (V.int ((a + k : Nat) : Int)) = _
      rw [Int.natCast_add]
    exact turn_inv nD hzl hx (he _ (List.mem_of_getElem? hx)) s' eD
  · rintro H' ⟨s', eD⟩
    rw [List.take_length] at eD
    exact q H' D s' nD eD
end Ev

/-! ## Fractions, weights and blind pairs as data -/
namespace Ev
open PySem PySem.Spec PyProof.Rows L2 Pm
/-- the classes of ticks, and behind them that of all ticks -/
def indC (cl : List (Nat × Nat)) (j t : Nat) : Nat := match cl[j]? with
  | some e => if t % e.1 = e.2 then 1 else 0
  | none => 1
theorem indC_le (cl : List (Nat × Nat)) : ∀ j t, indC cl j t ≤ 1 := fun j t => by
  unfold indC
  split
  · split <;> decide
  · exact Nat.le_refl _
theorem indC_at {cl : List (Nat × Nat)} {j t : Nat} (h : j < cl.length) : indC cl j t = if t % cl[j].1 = cl[j].2 then 1 else 0 := by
  unfold indC
  rw [List.getElem?_eq_getElem h]
theorem indC_out {cl : List (Nat × Nat)} {j t : Nat} (h : cl.length ≤ j) : indC cl j t = 1 := by
  unfold indC
  rw [List.getElem?_eq_none h]
def clsOf (n : Nat) (S : List (Nat × Nat)) : List (Nat × Nat) := S.map fun e => (Nat.gcd e.1 n, e.2 % Nat.gcd e.1 n)
theorem clsOf_len {n : Nat} {S : List (Nat × Nat)} : (clsOf n S).length = S.length := List.length_map _
theorem clsOf_pos {n : Nat} {S : List (Nat × Nat)} (h : 1 ≤ n) : ∀ e ∈ clsOf n S, 0 < e.1 ∧ e.2 < e.1 ∧ e.1 ≤ n := fun e he => by
  obtain ⟨s, hs, rfl⟩ := List.mem_map.mp he
  have := Nat.gcd_pos_of_pos_right s.1 h
  exact ⟨this, Nat.mod_lt _ this, Nat.gcd_le_right _ h⟩
def red (a b : Int) : Int × Int := (a / (Nat.gcd b.natAbs a.natAbs : Nat), b / (Nat.gcd b.natAbs a.natAbs : Nat))
def frD (p : Int × Int) : PyData := .tuple [.int p.1, .int p.2]
theorem da_fr {K : PySem.W.Frag} {H : Hp} {v : V} {e : Int × Int} (h : Da K H v (frD e)) : ∃ b, v = .ref b ∧ SqT K H b [.int e.1, .int e.2] := by
  cases h with
  | @tup b xs _ hs ha =>
  cases ha with
  | cons h1 t =>
    cases t with
    | cons h2 t =>
      cases t
      cases h1
      cases h2
      exact ⟨b, rfl, hs⟩
theorem tup_fr : ∀ S : List (Int × Int), tupDs (S.map frD) = true
  | [] => by rw [List.map_nil, tupDs]
  | e :: S => by
    rw [List.map_cons, tupDs, tup_fr S, frD, tupD, tupDs, tupDs, tupDs, tupD, tupD]
    all_goals (first | rfl | nofun)
/-- a blind pair, from values that no sampler sees -/
def blD (x : List Int) : PyData := .tuple [.tuple (x.map fun i => .int (if (0 : Int) > i then 0 else i)), .tuple (x.map fun i => .int (if (0 : Int) > -i then 0 else -i))]
/-- weights -/
def wtsV (n : Nat) (cl : List (Nat × Nat)) : List (Int × Int) := (List.range cl.length).map fun j => red (-(gd (rst n cl.length (indC cl)) (n + j))) (gd (rst n cl.length (indC cl)) (n + cl.length) * ((cl[j]?.getD (1, 0)).1 : Nat))
end Ev

/-! ## numbers and flags: x + 1, x - 1, str(x); a tuple != () -/
namespace Ev
open PySem PySem.Spec PyProof.Rows L2
def IoB (x : V) (i : Int) : Prop := x = .int i ∨ ∃ k : Bool, x = .bl k ∧ i = if k = true then (1 : Int) else 0
def rAddIB : R2 := fun x y H Q => ∃ i j : Int, IoB x i ∧ y = .int j ∧ Q (.int (i + j)) H
def rSubIB : R2 := fun x y H Q => ∃ i j : Int, IoB x i ∧ y = .int j ∧ Q (.int (i - j)) H
section
variable {X : Cx}
theorem op_addIB : OpR X (binaryOp .Add) rAddIB := by
  intro pins s σ H x y v u Q I rx ry h
  obtain ⟨i, j, hi, rfl, q⟩ := h
  obtain ⟨tk, rfl⟩ := ry
  rcases hi with rfl | ⟨k, rfl, rfl⟩
  · obtain ⟨t2, rfl⟩ := rx
    exact add_int ⟨.int _, H, I.tok _, ⟨_, rfl⟩, q⟩
  · cases rx
    exact PySem.IntBool.add_bool_int ⟨.int _, H, I.tok _, ⟨_, rfl⟩, q⟩
theorem op_subIB : OpR X (binaryOp .Sub) rSubIB := by
  intro pins s σ H x y v u Q I rx ry h
  obtain ⟨i, j, hi, rfl, q⟩ := h
  obtain ⟨tk, rfl⟩ := ry
  rcases hi with rfl | ⟨k, rfl, rfl⟩
  · obtain ⟨t2, rfl⟩ := rx
    exact sub_int ⟨.int _, H, I.tok _, ⟨_, rfl⟩, q⟩
  · cases rx
    exact PySem.IntBool.sub_bool_int ⟨.int _, H, I.tok _, ⟨_, rfl⟩, q⟩
def rStrIB : List V → Hp → VK → Prop := fun xs H Q => (∃ i, xs = [.int i] ∧ i.natAbs.log2 < 1920 ∧ Q (.str (toString i)) H) ∨ ∃ k : Bool, xs = [.bl k] ∧ Q (.str (if k then "True" else "False")) H
theorem call_strIB : CallR X (.type "str") rStrIB := by
  intro pins s σ H xs us Q I r h
  rcases h with ⟨i, rfl, hz, q⟩ | ⟨k, rfl, q⟩
  · obtain ⟨u, rfl, t, rfl⟩ := vals1 r
    exact PySem.P.str_of_int hz ⟨.str _, H, I.tok _, ⟨_, rfl⟩, q⟩
  · obtain ⟨u, rfl, rfl⟩ := vals1 r
    exact PySem.P.str_of_bool ⟨.str _, H, I.tok _, ⟨_, rfl⟩, q⟩
/-- t != () -/
def rNeT0 (K : PySem.W.Frag) : R2 := fun x y H Q => ∃ (a b : Addr) (xs : List V), x = .ref a ∧ y = .ref b ∧ SqT K H a xs ∧ SqT K H b [] ∧ Q (.bl (!decide (xs = []))) H
theorem op_neT0 (hu : X.A.units < cLine) : OpR X (compareOp .NotEq) (rNeT0 X.K) := by
  intro pins s σ H x y v u Q I rx ry h
  obtain ⟨a, b, xs, rfl, rfl, h1, h2, q⟩ := h
  cases rx
  cases ry
  obtain ⟨l1, r1, ⟨o1, p1, p2, n1, p3⟩, _⟩ := I.tuple h1
  obtain ⟨l2, r2, ⟨o2, q1, q2, n2, q3⟩, _⟩ := I.tuple h2
  obtain rfl : l2 = [] := List.length_eq_zero_iff.mp (Paired.length r2).symm
  have el := (Paired.length r1).symm
  refine SeqAt.RcNeAt.tuples (e := fun _ => true) ⟨o1, p1, p2, n1, p3⟩ ⟨o2, q1, q2, n2, q3⟩ hu (fun j j1 j2 => absurd j2 (by simp)) _ _ _ _ ⟨.bl _, H, I, rfl, ?_⟩
  cases xs with
  | nil =>
    obtain rfl : l1 = [] := List.length_eq_zero_iff.mp el
    exact q
  | cons x r =>
    have e : (!((List.range (min l1.toArray.size ([] : List Value).toArray.size)).all (fun _ => true) && l1.toArray.size == ([] : List Value).toArray.size)) = !decide (x :: r = []) := by
      have : l1.length = r.length + 1 := el
      simp [this]
    rw [e]
    exact q
/-- xs != [] -/
def rNeL0 (K : PySem.W.Frag) : R2 := fun x y H Q => ∃ (a b : Addr) (xs : List V), x = .ref a ∧ y = .ref b ∧ SqL K H a xs ∧ SqL K H b [] ∧ Q (.bl (!decide (xs = []))) H
theorem op_neL0 (hu : X.A.units < cLine) : OpR X (compareOp .NotEq) (rNeL0 X.K) := by
  intro pins s σ H x y v u Q I rx ry h
  obtain ⟨a, b, xs, rfl, rfl, h1, h2, q⟩ := h
  cases rx
  cases ry
  obtain ⟨l1, r1, g1, _⟩ := I.list h1
  obtain ⟨l2, r2, g2, _⟩ := I.list h2
  obtain rfl : l2 = [] := List.length_eq_zero_iff.mp (Paired.length r2).symm
  have el := (Paired.length r1).symm
  cases xs with
  | nil =>
    obtain rfl : l1 = [] := List.length_eq_zero_iff.mp el
    exact SeqAt.RcNeAt.lists (e := fun _ => true) g1.isList g2.isList rfl hu (fun j j1 j2 => absurd j2 (by simp)) _ _ _ _ ⟨.bl _, H, I, rfl, q⟩
  | cons x r =>
    have e : (l1.toArray.size != ([] : List Value).toArray.size) = true := by
      have : l1.length = r.length + 1 := el
      simp [this]
    exact SeqAt.RcNeAt.lists_lengths g1.isList g2.isList e hu _ _ _ _ ⟨.bl _, H, I, rfl, q⟩
end
end Ev

/-! ## Rows in the heap, and ranks -/
namespace Ev
open PySem PySem.Spec PyProof.Rows L2 Pm
/-- list(xs), its reading by name -/
def rLstOf (K : PySem.W.Frag) : List V → Hp → VK → Prop := fun vs H Q => ∃ p ys, vs = [.ref p] ∧ (SqL K H p ys ∨ SqT K H p ys) ∧ ∀ l, H l = none → Q (.ref l) (upd H l (.lst ys))
theorem call_listQ {X : Cx} : CallR X (.type "list") (rLstOf X.K) := call_list_of
def RwU (H : Hp) : List V → List (List Int) → Prop
  | [], [] => True
  | u :: us, r :: rs => (∃ b, u = .ref b ∧ H b = some (.lst (r.map V.int))) ∧ RwU H us rs
  | _, _ => False
theorem RwU.same {H H' : Hp} (s : Same H H') : ∀ {us : List V} {rs : List (List Int)}, RwU H us rs → RwU H' us rs
  | [], [], _ => trivial
  | [], _ :: _, h => h.elim
  | _ :: _, [], h => h.elim
  | u :: us, r :: rs, ⟨⟨b, e, h2⟩, h⟩ => ⟨⟨b, e, s _ _ h2⟩, RwU.same s h⟩
theorem RwU.len {H : Hp} : ∀ {us : List V} {rs : List (List Int)}, RwU H us rs → us.length = rs.length
  | [], [], _ => rfl
  | [], _ :: _, h => h.elim
  | _ :: _, [], h => h.elim
  | u :: us, r :: rs, ⟨_, h⟩ => by rw [List.length_cons, List.length_cons, h.len]
theorem RwU.at {H : Hp} : ∀ {us : List V} {rs : List (List Int)} {i : Nat} {u : V}, RwU H us rs → us[i]? = some u → ∃ (h : i < rs.length) (b : Addr), u = .ref b ∧ H b = some (.lst (rs[i].map V.int))
  | [], _, _, _, _, h => by cases h
  | _ :: _, [], _, _, h, _ => h.elim
  | u :: us, r :: rs, 0, x, ⟨⟨b, e, h2⟩, _⟩, hx => by
    cases hx
    exact ⟨Nat.succ_pos _, b, e, h2⟩
  | u :: us, r :: rs, i + 1, x, ⟨_, h⟩, hx => by
    obtain ⟨h0, b, e, h2⟩ := h.at (i := i) (u := x) hx
    exact ⟨Nat.succ_lt_succ h0, b, e, h2⟩
theorem RwU.snoc {H : Hp} : ∀ {us : List V} {rs : List (List Int)} {u : V} {r : List Int}, RwU H us rs → (∃ b, u = .ref b ∧ H b = some (.lst (r.map V.int))) → RwU H (us ++ [u]) (rs ++ [r])
  | [], [], _, _, _, h => ⟨h, trivial⟩
  | [], _ :: _, _, _, h, _ => h.elim
  | _ :: _, [], _, _, h, _ => h.elim
  | _ :: _, _ :: _, _, _, ⟨h0, h1⟩, h => ⟨h0, h1.snoc h⟩
theorem RwU.erase {H : Hp} : ∀ (i : Nat) {us : List V} {rs : List (List Int)}, RwU H us rs → RwU H (us.eraseIdx i) (rs.eraseIdx i)
  | _, [], [], _ => trivial
  | _, [], _ :: _, h => h.elim
  | _, _ :: _, [], h => h.elim
  | 0, _ :: _, _ :: _, ⟨_, h⟩ => h
  | i + 1, _ :: _, _ :: _, ⟨h0, h⟩ => ⟨h0, h.erase i⟩
theorem RwU.put {H : Hp} {D : Addr} {acc : List V} {o : HO} (hD : H D = some (.lst acc)) : ∀ {us : List V} {rs : List (List Int)}, (∀ r ∈ rs, r.map V.int ≠ acc) → RwU H us rs → RwU (upd H D o) us rs
  | [], [], _, _ => trivial
  | [], _ :: _, _, h => h.elim
  | _ :: _, [], _, h => h.elim
  | u :: us, r :: rs, hn, ⟨⟨b, e, h2⟩, h⟩ => by
    refine ⟨⟨b, e, ?_⟩, RwU.put hD (fun r hr => hn r (List.mem_cons_of_mem _ hr)) h⟩
    rw [upd_ne fun z => hn r (List.mem_cons_self ..) (by rw [z, hD] at h2; injection h2 with h2; injection h2 with h2; exact h2.symm)]
    exact h2
theorem RwU.ne_row {H : Hp} : ∀ {us : List V} {rs : List (List Int)} {r : List Int}, RwU H us rs → r ≠ [] → r.map V.int ≠ us
  | [], _, _ :: _, _, _, z => by cases z
  | [], _, [], _, h, _ => absurd rfl h
  | _ :: _, [], _, h, _, _ => h.elim
  | u :: us, r :: rs, [], _, h, _ => absurd rfl h
  | u :: us, r :: rs, x :: r', ⟨⟨b, e, _⟩, _⟩, _, z => by
    rw [List.map_cons, e] at z
    injection z with z
    cases z
def RwL (H : Hp) (l : Addr) (rs : List (List Int)) : Prop := ∃ us, H l = some (.lst us) ∧ RwU H us rs
theorem RwL.same {H H' : Hp} {l : Addr} {rs : List (List Int)} (s : Same H H') (h : RwL H l rs) : RwL H' l rs := by
  obtain ⟨us, e, p⟩ := h
  exact ⟨us, s _ _ e, p.same s⟩
/-- where a column is not 0 -/
def spF (c : Nat) (L : List (List Int)) (k : Nat) : List Nat := (List.range k).filter fun i => decide (gd (L.getD i []) c ≠ 0)
theorem spF_succ (c : Nat) (L : List (List Int)) (k : Nat) : spF c L (k + 1) = spF c L k ++ if gd (L.getD k []) c ≠ 0 then [k] else [] := by
  unfold spF
  rw [List.range_succ, List.filter_append]
  congr 1
  by_cases h : gd (L.getD k []) c ≠ 0
  · rw [if_pos h, List.filter_cons, if_pos (decide_eq_true h)]
    rfl
  · rw [if_neg h, List.filter_cons, if_neg (by simpa using h)]
    rfl
theorem pk_first {c : Nat} : ∀ {L : List (List Int)} {i : Nat}, i < L.length → gd (L.getD i []) c ≠ 0 → (∀ j, j < i → gd (L.getD j []) c = 0) → pk c L = some (L.getD i [], L.eraseIdx i)
  | [], _, h, _, _ => absurd h (by simp)
  | r :: L, 0, _, h, _ => by
    rw [pk, if_pos (show gd r c ≠ 0 from h)]
    rfl
  | r :: L, i + 1, hi, h, hz => by
    have h0 : gd r c = 0 := hz 0 (by omega)
    rw [pk, if_neg (by rw [h0]; exact fun z => z rfl), pk_first (i := i) (by simpa using hi) h fun j hj => hz (j + 1) (by omega)]
    rfl
theorem pk_all {c : Nat} : ∀ {L : List (List Int)}, (∀ j, j < L.length → gd (L.getD j []) c = 0) → pk c L = none
  | [], _ => rfl
  | r :: L, h => by
    have h0 : gd r c = 0 := h 0 (by simp)
    rw [pk, if_neg (by rw [h0]; exact fun z => z rfl), pk_all fun j hj => h (j + 1) (by simpa using hj)]
    rfl
theorem spF_nil {c : Nat} {L : List (List Int)} (h : spF c L L.length = []) : pk c L = none := pk_all fun j hj => by
  refine Classical.byContradiction fun n => ?_
  have : j ∈ spF c L L.length := List.mem_filter.mpr ⟨List.mem_range.mpr hj, decide_eq_true n⟩
  rw [h] at this
  cases this
theorem spF_cons {c i : Nat} {L : List (List Int)} {js : List Nat} (h : spF c L L.length = i :: js) : i < L.length ∧ pk c L = some (L.getD i [], L.eraseIdx i) := by
  have hh : (List.range L.length).find? (fun i => decide (gd (L.getD i []) c ≠ 0)) = some i := by
    rw [← List.head?_filter]
    show (spF c L L.length).head? = _
    rw [h]
    rfl
  rw [List.find?_range_eq_some] at hh
  obtain ⟨h1, h2, h3⟩ := hh
  have hi := List.mem_range.mp h2
  refine ⟨hi, pk_first hi (of_decide_eq_true h1) fun j hj => ?_⟩
  have := h3 j hj
  simpa using this
end Ev

/-! ## common_divisor, window_sums, repeated -/
namespace Ev
open PySem PySem.Spec PyProof.Rows L2
theorem scCd : FnScope ["one", "other"] ["one", "other"] (defScope (topS 2)) := ⟨rfl, rfl, rfl, by decide +kernel, rfl, by decide +kernel, by decide +kernel⟩
def spGcd : Sp := fun vs H Q _ => ∃ a b : Nat, vs = [.int (a : Nat), .int (b : Nat)] ∧ Q (.int (Nat.gcd a b : Nat)) H
section
variable {P : Program} {w : World} {K : PySem.W.Frag} {mg : Str → Option Value} {base : Heap}
theorem ok_gcd (D : Def K mg "common_divisor" (topS 2) ["one", "other"]) (nb : NB mg) : Cal P w K mg base 1 "common_divisor" ["one", "other"] spGcd := by
  refine D.ok scCd (fun vs H Q E h => ?_) (fun f cdv A outer s H vs Q E hr gd h => ?_)
  · obtain ⟨a, b, rfl, _⟩ := h
    rfl
  · obtain ⟨a, b, rfl, q⟩ := h
    refine ⟨_, (pss_cons (ps_while PassesOwn.never (pt_cmpR op_ne (pv 1) pe_int (nomark _))
        (pss_one (ps_par (i := 0) (j := 1) rfl scCd.nd rfl rfl (by decide) rfl rfl (pa_cons (pv 1) (pa_cons (pe_op op_mod (pv 0) (pv 1)) pa_nil)) (by rfl))))
      (pss_one (ps_ret (pv 0)))), ?_⟩
    refine while_w (fun m σ' H' => ∃ x : Nat, σ' = [some (.int (x : Nat)), some (.int (m : Nat))] ∧ H' = H ∧ Nat.gcd x m = Nat.gcd a b) ⟨b, a, rfl, rfl, rfl⟩ ?_ ?_
    · rintro m σ' H' ⟨x, rfl, rfl, e⟩
      refine ⟨_, rfl, rfl, _, rfl, ?_⟩
      by_cases hm : m = 0
      · subst hm
        rw [show (!decide (V.int ((0 : Nat) : Int) = V.int 0)) = false by rw [show decide (V.int ((0 : Nat) : Int) = V.int 0) = true from decide_eq_true rfl]; rfl]
        refine iteF ⟨_, rfl, ?_⟩
        rw [Nat.gcd_zero_right] at e
        rw [e]
        exact q
      · rw [show (!decide (V.int (m : Int) = V.int 0)) = true by
          rw [decide_eq_false fun z => hm (by have := V.int.inj z; omega)]
          rfl]
        refine iteT ⟨_, rfl, _, rfl, _, rfl, _, _, rfl, rfl, (show (0 : Int) < m by omega), _, _, rfl, x % m, Nat.mod_lt _ (by omega), m, by
          show [some (V.int (m : Nat)), some (V.int ((x : Int) % (m : Int)))] = _
          rw [← Int.natCast_emod], rfl, ?_⟩
        rw [← e, Nat.gcd_comm x m, Nat.gcd_rec m x, Nat.gcd_comm]
    · rintro σ' H' Q1 Q2 hQ ⟨v, hv, e1, k, ek, h⟩
      exact ⟨v, hv, e1, k, ek, hQ _ _ h⟩
end
end Ev

/-! ## loops over a zip of a tuple and a list, over WalksT.zipD2, Draws.tuple and Draws.list -/
namespace Ev
open PySem PySem.Spec PyProof.Rows L2
def ItZt (K : PySem.W.Frag) (a b : Addr) : L2.It where
  go i H := ∃ (xs ys : List V) (x y : V), SqT K H a xs ∧ SqL K H b ys ∧ xs[i]? = some x ∧ ys[i]? = some y
  yld i H v H' := ∃ T x y, v = V.ref T ∧ H T = none ∧ H' = upd H T (.tup [x, y]) ∧ (∀ xs, SqT K H a xs → xs[i]? = some x) ∧ ∀ ys, SqL K H b ys → ys[i]? = some y
  stop i H := ∃ xs ys : List V, SqT K H a xs ∧ SqL K H b ys ∧ xs.length = i ∧ ys.length = i
structure ZtC (a b z TI TO i1 i2 : Addr) (i : Nat) (h : Heap) : Prop where
  zi : IsZip h z TI TO .none
  ti : IsTupOf2 h TI (.ref i1) (.ref i2)
  to : ∃ a1 a2, IsTupOf2 h TO a1 a2
  l1 : h.IsTupleIter i1 a i
  l2 : h.IsListIter i2 b i
theorem ZtC.cell {a b z TI TO i1 i2 c : Addr} {i : Nat} {h : Heap} (st : ZtC a b z TI TO i1 i2 i h) (m : c ∈ [z, TI, TO, i1, i2]) : ∃ o, h.get? c = some o ∧ ∀ v, o.data ≠ .cell v := by
  obtain ⟨zi, ti, ⟨a1, a2, to⟩, ⟨o1, e1, _, d1⟩, ⟨o2, e2, _, d2⟩⟩ := st
  simp only [List.mem_cons, List.not_mem_nil, or_false] at m
  rcases m with rfl | rfl | rfl | rfl | rfl
  · exact ⟨_, zi, nofun⟩
  · exact ⟨_, ti, nofun⟩
  · exact ⟨_, to, nofun⟩
  · exact ⟨o1, e1, fun v q => nomatch d1.symm.trans q⟩
  · exact ⟨o2, e2, fun v q => nomatch d2.symm.trans q⟩
theorem turn_zt {P : Program} {w : World} {K : PySem.W.Frag} {elts : List Expr} {kk : Nat} {tpos : Pos} {a b z TI TO i1 i2 : Addr} (S : ZipSep2 z TI TO i1 i2 [i1, a] [i2, b]) (na : a ≠ i1) (nb : b ≠ i2) :
    L2.Turn P w K (.Tuple elts kk tpos) (ItZt K a b) [z, TI, TO, i1, i2] z (ZtC a b z TI TO i1 i2) where
  mem := List.mem_cons_self ..
  obj i h st c hc := st.cell hc
  keep i h h' st k := by
    obtain ⟨zi, ti, ⟨a1, a2, to⟩, l1, l2⟩ := st
    exact ⟨k z (by simp) _ zi, k TI (by simp) _ ti, ⟨a1, a2, k TO (by simp) _ to⟩, l1.at fun o q => k i1 (by simp) o q, l2.at fun o q => k i2 (by simp) o q⟩
  item := by
    rintro X rfl rfl rfl calm i pins s σ H E I own st ⟨xs, ys, x, y, hqx, hqy, hx, hy⟩
    obtain ⟨its, rv, p, _⟩ := I.tuple hqx
    obtain ⟨its2, rv2, p2, _⟩ := I.list hqy
    obtain ⟨u, hu, ru⟩ := rv.get hx
    obtain ⟨u2, hu2, ru2⟩ := rv2.get hy
    have hh := I.ok.hd calm
    have W := WalksT.zipD2 S (Draws.tuple (prog := X.prog) (w := X.w) (A := X.A.in1) hh i1 a na its.toArray) (Draws.list (prog := X.prog) (w := X.w) (A := X.A.in1) hh i2 b nb its2.toArray)
    have in1 : i < min its.toArray.size its2.toArray.size := by
      have k1 := (List.getElem?_eq_some_iff.mp hu).1
      have k2 := (List.getElem?_eq_some_iff.mp hu2).1
      rw [List.size_toArray, List.size_toArray]
      omega
    have lt : ∀ c ∈ [z, TI, TO, i1, i2], c < s.heap.objs.size := fun c m => by
      obtain ⟨o, q, _⟩ := st.cell m
      exact Heap.lt_size q
    refine W.item i s _ E in1 ⟨st.zi, st.ti, st.to, ⟨st.l1, p⟩, ⟨st.l2, p2.isList⟩⟩ fun T vs h1 tk pt big tup mid k1 => ⟨_, rfl, W.go elts kk tpos i T _ _ E mid fun h2 st2 k2 => ?_⟩
    obtain ⟨w1, w2, e1, e2, rfl⟩ := pt
    obtain rfl : w1 = u := Option.some.inj (e1.symm.trans (by simpa using hu))
    obtain rfl : w2 = u2 := Option.some.inj (e2.symm.trans (by simpa using hu2))
    obtain ⟨oT, gT, cT, dT⟩ := tup
    have new : ObjOk X.prog X.w (upd H T (.tup [x, y])) h2 T (.tup [x, y]) :=
      ⟨(by show 2 ≤ sizeLine; decide), [w1, w2], .cons ru (.cons ru2 .nil), oT, k2 T oT (W.apart i T h1 mid) gT, cT, dT⟩
    have sub : ∀ c, c ∉ [z, TI, TO, i1, i2] → c ∉ [z, TO, i1, i2] := fun c n m => n (by simp only [List.mem_cons, List.not_mem_nil, or_false] at m ⊢; rcases m with m | m | m | m <;> simp [m])
    have J := I.turnedNew (t' := tk) (ch := [z, TI, TO, i1, i2]) (fun c o nc q => k2 c o (sub c nc) (k1 c o (sub c nc) q)) own big new
    refine ⟨.ref T, _, J, rfl, ⟨T, x, y, rfl, I.hok.fresh big, rfl, fun l hl => by rw [I.tuple_inj hl hqx]; exact hx, fun l hl => by rw [I.list_inj hl hqy]; exact hy⟩, ⟨st2.1, st2.2.1, st2.2.2.1, st2.2.2.2.1.1, st2.2.2.2.2.1⟩, fun c m => ?_⟩
    rw [upd_ne (Nat.ne_of_lt (Nat.lt_of_lt_of_le (lt c m) big))]
    exact (own c m).1
  done := by
    rintro X rfl rfl rfl calm i pins s σ H E I own st ⟨xs, ys, hqx, hqy, hl, hl2⟩
    obtain ⟨its, rv, p, _⟩ := I.tuple hqx
    obtain ⟨its2, rv2, p2, _⟩ := I.list hqy
    have k1 := rv.length
    have k2 := rv2.length
    have hh := I.ok.hd calm
    have W := WalksT.zipD2 S (Draws.tuple (prog := X.prog) (w := X.w) (A := X.A.in1) hh i1 a na its.toArray) (Draws.list (prog := X.prog) (w := X.w) (A := X.A.in1) hh i2 b nb its2.toArray)
    have n : min its.toArray.size its2.toArray.size = i := by
      rw [List.size_toArray, List.size_toArray]
      omega
    refine W.done s _ E (by rw [n]; exact ⟨st.zi, st.ti, st.to, ⟨st.l1, p⟩, ⟨st.l2, p2.isList⟩⟩) fun h' tk k => ⟨rfl, I.turnedL (t' := tk) (ch := [z, TI, TO, i1, i2]) (fun c o hb q => k c o (fun m => hb (by simp only [List.mem_cons, List.not_mem_nil, or_false] at m ⊢; rcases m with m | m | m | m <;> simp [m])) q) own⟩
  self A i s Q E st h := wpAny_pyIter_zip st.zi h
def iZipT (K : PySem.W.Frag) (ta : TA) : TI := fun σ H R => ta σ H fun vs H1 => ∃ a b xs ys, vs = [.ref a, .ref b] ∧ SqT K H1 a xs ∧ SqL K H1 b ys ∧ R (ItZt K a b) H1
theorem pi_zipT {X : Cx} {e e2 : Expr} {ta : TA} {p pos tpos : Pos} {elts : List Expr} {kk : Nat} (hg : Gl X "zip") (hm : X.mg "zip" = none) (ha : PA X [e, e2] ta)
    (hs : starEach [e, e2] X.env = (false, eval e X.env) :: starEach [e2] X.env := by rfl) (hpl : (backTo pos (starEach [e2] X.env)).any (·.1) = false := by rfl) :
    PI X (.Tuple elts kk tpos) (.Call (.Name "zip" p) [e, e2] [] pos) (iZipT X.K ta) where
  run pins s σ H R I h := by
    refine Call_ (ld_blt I hg hm PyProof.Rows.boot_zip (PyProof.Rows.callWith_type1 (thn (ha.run pos pins s σ H _ I h) ?_) hs hpl))
    rintro us s1 ⟨vs, H1, I1, r1, a, b, xs, ys, rfl, hqx, hqy, q⟩
    obtain ⟨u, u2, rfl, ra, rb⟩ := vals2 r1
    cases ra
    cases rb
    obtain ⟨its, rv, p1, _⟩ := I1.tuple hqx
    obtain ⟨its2, rv2, p2, _⟩ := I1.list hqy
    obtain ⟨oa, ga, _⟩ := id p1
    have la := Heap.lt_size ga
    have lb := p2.lt
    refine zip_begins2 (begins_tuple a its.toArray) (begins_list b its2.toArray) p1 p2.isList fun h' hz hTI hTO h1 h2 hsz hk => wpAny_pyIter_zip hz ?_
    refine ⟨s1.heap.objs.size + 4, [s1.heap.objs.size + 4, s1.heap.objs.size + 2, s1.heap.objs.size + 3, s1.heap.objs.size, s1.heap.objs.size + 1], _, _, H1, rfl, I1.kept (t' := s1.toks) hk, turn_zt (zsep _ a b la lb) (Nat.ne_of_lt la) (Nat.ne_of_lt (Nat.lt_succ_of_lt lb)), ⟨hz, hTI, ⟨_, _, hTO⟩, ⟨_, h1, rfl, rfl⟩, ⟨_, h2, rfl, rfl⟩⟩, fun c m => ?_, q⟩
    have above : s1.heap.objs.size ≤ c := by
      simp only [List.mem_cons, List.not_mem_nil, or_false] at m
      rcases m with rfl | rfl | rfl | rfl | rfl
      · exact Nat.le_add_right _ 4
      · exact Nat.le_add_right _ 2
      · exact Nat.le_add_right _ 3
      · exact Nat.le_refl _
      · exact Nat.le_add_right _ 1
    exact I1.fpOk above (I1.hok.fresh above)
theorem walk_zt {K : PySem.W.Frag} {a b : Addr} {xs ys : List V} (h : xs.length = ys.length) : Walk (ItZt K a b) xs.length (fun H => SqT K H a xs ∧ SqL K H b ys) (YPair (fun i => xs[i]?) (fun i => ys[i]?)) where
  goes i H hi := fun ⟨q1, q2⟩ => ⟨xs, ys, xs[i], ys[i]'(h ▸ hi), q1, q2, List.getElem?_eq_getElem hi, List.getElem?_eq_getElem _⟩
  stops H := fun ⟨q1, q2⟩ => ⟨xs, ys, q1, q2, rfl, h.symm⟩
  yields i H v H' _ := by
    rintro ⟨q1, q2⟩ ⟨T, x, y, rfl, n1, rfl, hx, hy⟩
    exact ⟨T, x, y, rfl, n1, rfl, hx xs q1, hy ys q2⟩
end Ev

/-! ## [e for x, y in zip(a tuple, a list)] -/
namespace Ev
open PySem PySem.Spec PyProof.Rows L2
section
variable {K : PySem.W.Frag} {σ : L2.St} {H : Hp} {Q : VK} {te : TE} {ta : TA} {a b : Addr} {xs ws ys : List V} {g : TG} {vs : List Nat}
theorem lcI_zt (hl : ys.length = xs.length) (h2 : xs.length = ws.length) (hi : ∀ Q : List V → Hp → Prop, Q [.ref a, .ref b] H → ta σ H Q) (hx : SqT K H a xs) (hw : SqL K H b ws) (hz : xs.length ≤ 1000000)
    (he : ∀ (k : Nat) x w y, xs[k]? = some x → ws[k]? = some w → ys[k]? = some y → ∀ (H' : Hp) (T : Addr) (R : VK), Same H H' → H' T = none → (∀ H'', Same (upd H' T (.tup [x, w])) H'' → R y H'') →
      g (.ref T) (wipe σ vs) (upd H' T (.tup [x, w])) fun σ2 H2 => wipe σ2 vs = wipe σ vs ∧ te σ2 H2 R)
    (q : ∀ H' D, Same H H' → H D = none → H' D = some (.lst ys) → Q (.ref D) H') : tLc (iZipT K ta) g tYes te vs σ H Q := by
  refine hi _ ⟨a, b, xs, ws, rfl, hx, hw, fun D nD => ?_⟩
  refine lc_it (walk_zt h2) (fun k H' => Same H H' ∧ H' D = some (.lst (ys.take k))) ⟨same_put nD, upd_same⟩ (fun k H' _ ⟨s', _⟩ => ⟨seqT_mono s' hx, s'.seq hw⟩) ?_ ?_
  · rintro k v H1 H' hk ⟨s', eD⟩ ⟨T, x, w, rfl, nT, rfl, ex, ew⟩
    have hy : k < ys.length := by omega
    have e3 : ys[k]? = some ys[k] := List.getElem?_eq_getElem hy
    have s1 : Same H1 (upd H1 T (.tup [x, w])) := same_put nT
    have sz := sizeLine_eq
    have z := he k x w _ ex ew e3 H1 T (fun y H4 => ∃ acc, H4 D = some (.lst acc) ∧ acc.length < sizeLine ∧ Same H (upd H4 D (.lst (acc ++ [y]))) ∧ upd H4 D (.lst (acc ++ [y])) D = some (.lst (ys.take (k + 1)))) s' nT (fun H'' s'' => ⟨_, s'' _ _ (s1 _ _ eD), by
        rw [List.length_take]
        omega, fun c o h => by
        rw [upd_ne (ne_of_none h nD)]
        exact s'' _ _ (s1 _ _ (s' _ _ h)), by
        rw [upd_same, List.take_add_one, e3]
        rfl⟩)
    exact z
  · rintro H' ⟨s', eD⟩
    rw [← hl, List.take_length] at eD
    exact q H' D s' nD eD
end
end Ev

/-! ## Methods of own classes -/
namespace Ev
open PySem PySem.Spec PyProof.Rows L2
/-- a method of a class, ready to be called -/
structure MCal (P : Program) (w : World) (K : PySem.W.Frag) (mg : Str → Option Value) (base : Heap) (k : Nat) (C : Addr) (m : Str) (ps : List Str) (sp : Sp) : Prop where
  ex : ∃ (f : Addr) (fd : FuncData), FnOk P w K mg base CX0 k f fd ps sp ∧ Binds K fd ps [] ∧ Meth K C m f
/-- a method as it is written -/
structure MDef (K : PySem.W.Frag) (C : Addr) (m q : Str) (st : Stmt) (ps : List Str) : Prop where
  ex : ∃ (f : Addr) (fd : FuncData), Fun K m q st f fd ∧ Binds K fd ps [] ∧ Meth K C m f
section
variable {P : Program} {w : World} {K : PySem.W.Frag} {mg : Str → Option Value} {base : Heap} {x q : Str} {st : Stmt} {ps N : List Str} {sp : Sp} {k j : Nat} {C : Addr}
theorem MCal.up (M : MCal P w K mg base j C x ps sp) (h : j ≤ k) : MCal P w K mg base k C x ps sp := by
  obtain ⟨f, fd, F, b, m⟩ := M.ex
  exact ⟨f, fd, ⟨F.len, fun A o s H args us vs Q E hr => F.run A o s H args us vs Q E (hr.mono h)⟩, b, m⟩
theorem MDef.ok (D : MDef K C x q st ps) (S : FnScope N ps (defScope st)) (len : ∀ vs H Q E, sp vs H Q E → vs.length = ps.length)
    (hbody : ∀ (f : Addr) (cdv : Value) (A : Around) (outer : List Env) (s : Shared) (H : Hp) (vs : List V) (Q : VK) (E : XK),
      Room k (A.deeper (envOfC q (defScope st) s.heap.objs.size f cdv)) → sp vs H Q E →
      ∃ t, PSs (cxOf CX0 P w K mg base N q (defScope st) f cdv A outer s H E).nox (defBody st) t ∧
        t { nx := fun _ H' => Q .non H', rt := Q } (start N vs) H) : MCal P w K mg base (k + 1) C x ps sp := by
  obtain ⟨f, fd, F, b, m⟩ := D.ex
  exact ⟨f, fd, F.ok S len (hbody f), b, m⟩
end
section
variable {X : Cx} {k : Nat} {C : Addr} {ps : List Str} {sp : Sp} {m : Str} {pos apos : Pos} {e o : Expr} {es : List Expr} {ta : TE} {t : TA}
theorem pmeth {pl : Sem Bool} (M : MCal X.prog X.w X.K X.mg X.base k C m ps sp) (c : Cls X.K C) (hr : Room k X.A) (ho : PE X o ta) (ha : PA X (e :: es) t)
    (h1 : starEach (e :: es) X.env = (false, eval e X.env) :: starEach es X.env := by rfl) (h2 : (backTo pos (starEach es X.env)).any (·.1) = false := by rfl)
    (h3 : eval (.Call (.Attribute o m apos) (e :: es) [] pos) X.env = (do
      let v ← eval o X.env
      standAt apos.atName
      let (f, first) ← holding [v] (getMethod v m pl)
      callWith pos f first (backTo pos (starEach (e :: es) X.env)) (backToKw pos (keywordEach [] X.env))) := by rfl) : PE X (.Call (.Attribute o m apos) (e :: es) [] pos) (tMeth C m sp [] E0 ta t) := by
  obtain ⟨f, fd, F, hb, hm⟩ := M.ex
  exact pe_meth (pl := pl) ho c hm F hr hb .nil pass0 ha h1 h2 h3
theorem pmeth0 {pl : Sem Bool} (M : MCal X.prog X.w X.K X.mg X.base k C m ps sp) (c : Cls X.K C) (hr : Room k X.A) (ho : PE X o ta)
    (h3 : eval (.Call (.Attribute o m apos) [] [] pos) X.env = (do
      let v ← eval o X.env
      standAt apos.atName
      let (f, first) ← holding [v] (getMethod v m pl)
      callWith pos f first (backTo pos (starEach [] X.env)) (backToKw pos (keywordEach [] X.env))) := by rfl) : PE X (.Call (.Attribute o m apos) [] [] pos) (tMeth C m sp [] E0 ta tNil) := by
  obtain ⟨f, fd, F, hb, hm⟩ := M.ex
  exact pe_meth0 (pl := pl) ho c hm F hr hb .nil pass0 h3
/-- a class whose __init__ keeps a promise -/
structure KCal (P : Program) (w : World) (K : PySem.W.Frag) (mg : Str → Option Value) (base : Heap) (k : Nat) (C : Addr) (x : Str) (ps : List Str) (sp : Sp) : Prop where
  ex : ∃ (f : Addr) (fd : FuncData), FnOk P w K mg base CX0 k f fd ps sp ∧ Binds K fd ps [] ∧ Mk K C f ∧ mg x = some (.ref C)
theorem pmake {x : Str} {p : Pos} (M : KCal X.prog X.w X.K X.mg X.base k C x ps sp) (hr : Room (k + 1) X.A) (hg : Gl X x) (ha : PA X (e :: es) t)
    (h0 : (x == ("__debug__" : Str)) = false := by decide) (h1 : starEach (e :: es) X.env = (false, eval e X.env) :: starEach es X.env := by rfl) (h2 : (backTo pos (starEach es X.env)).any (·.1) = false := by rfl) :
    PE X (.Call (.Name x p) (e :: es) [] pos) (tMake C sp [] E0 t) := by
  obtain ⟨f, fd, F, hb, mk, hm⟩ := M.ex
  exact pe_make mk F hr hg hm hb .nil pass0 ha h0 h1 h2
end
/-! ### tuples stay, while objects and lists change -/
def Kj (H H' : Hp) : Prop := ∀ b o, H b = some o → (∀ xs, o ≠ .lst xs) → (∀ C dx fs, o ≠ .ins C dx fs) → H' b = some o
section
variable {K : PySem.W.Frag} {H H' H'' : Hp}
theorem Kj.of (s : Same H H') : Kj H H' := fun b o e _ _ => s b o e
theorem Kj.kt (s : Kt H H') : Kj H H' := fun b o e n _ => s b o e n
theorem Kj.trans (a : Kj H H') (b : Kj H' H'') : Kj H H'' := fun x o e n m => b x o (a x o e n m) n m
theorem Kj.putL {l : Addr} {xs : List V} {o : HO} (h : H l = some (.lst xs)) : Kj H (upd H l o) := .kt (Kt.put h)
theorem Kj.putI {p C dx : Addr} {fs : List (Str × V)} {o : HO} (h : H p = some (.ins C dx fs)) : Kj H (upd H p o) := fun b u e _ m => by
  have z : b ≠ p := fun z => by
    rw [z, h] at e
    cases e
    exact m _ _ _ rfl
  rw [upd_ne z]
  exact e
mutual
theorem Da.kj (k : Kj H H') : ∀ {v : V} {d : PyData}, tupD d = true → Da K H v d → Da K H' v d
  | _, _, _, .non => .non
  | _, _, _, .bl b => .bl b
  | _, _, _, .int i => .int i
  | _, _, _, .str x => .str x
  | _, _, n, .lst _ _ => by
    rw [tupD] at n
    cases n
  | _, _, n, .tup h t => by
    rw [tupD] at n
    refine .tup ?_ (DaAll.kj k n t)
    rcases h with (e | ⟨o, e⟩) | e
    · exact .inl (.inl (k _ _ e (fun xs z => by cases z) (fun _ _ _ z => by cases z)))
    · exact .inl (.inr ⟨o, k _ _ e (fun xs z => by cases z) (fun _ _ _ z => by cases z)⟩)
    · exact .inr e
  | _, _, n, .dic _ _ => by
    rw [tupD] at n
    cases n
theorem DaAll.kj (k : Kj H H') : ∀ {vs : List V} {ds : List PyData}, tupDs ds = true → DaAll K H vs ds → DaAll K H' vs ds
  | _, _, _, .nil => .nil
  | _, _, n, .cons h t => by
    rw [tupDs, Bool.and_eq_true] at n
    exact .cons (Da.kj k n.1 h) (DaAll.kj k n.2 t)
end
end
theorem none_of' {H H' : Hp} {p : Addr} (s : Same H H') (n : H' p = none) : H p = none := by
  cases e : H p with
  | none => rfl
  | some o =>
    rw [s _ _ e] at n
    cases n
/-- all but two stand -/
def Bu2 (p e : Addr) (H H' : Hp) : Prop := ∀ b o, b ≠ p → b ≠ e → H b = some o → H' b = some o
theorem Bu2.refl {p e : Addr} {H : Hp} : Bu2 p e H H := fun _ _ _ _ h => h
theorem Bu2.trans {p e : Addr} {H H1 H2 : Hp} (a : Bu2 p e H H1) (b : Bu2 p e H1 H2) : Bu2 p e H H2 := fun x o n m h => b x o n m (a x o n m h)
theorem Bu2.of {p e : Addr} {H H' : Hp} (s : Same H H') : Bu2 p e H H' := fun b o _ _ h => s b o h
theorem Bu2.put1 {p e : Addr} {H : Hp} {o : HO} : Bu2 p e H (upd H p o) := fun b _ n _ h => by
  rw [upd_ne n]
  exact h
theorem Bu2.put2 {p e : Addr} {H : Hp} {o : HO} : Bu2 p e H (upd H e o) := fun b _ _ n h => by
  rw [upd_ne n]
  exact h
end Ev

/-! ## [e for x, y in zip(a tuple, a list)], elements told as data -/
namespace Ev
open PySem PySem.Spec PyProof.Rows L2
theorem tupD_at : ∀ {ds : List PyData} {d : PyData}, tupDs ds = true → d ∈ ds → tupD d = true
  | [], _, _, h => nomatch h
  | e :: es, d, h, m => by
    rw [tupDs, Bool.and_eq_true] at h
    rcases List.mem_cons.mp m with rfl | m
    · exact h.1
    · exact tupD_at h.2 m
section
variable {K : PySem.W.Frag} {σ : L2.St} {H : Hp} {Q : VK} {te : TE} {ta : TA} {a b : Addr} {xs ws ys : List V} {g : TG} {vs : List Nat}
/-- the same with elements that are told as data -/
theorem lcD_zt {ds : List PyData} (hl : ds.length = xs.length) (h2 : xs.length = ws.length) (ht : tupDs ds = true) (hi : ∀ Q : List V → Hp → Prop, Q [.ref a, .ref b] H → ta σ H Q) (hx : SqT K H a xs) (hw : SqL K H b ws) (hz : xs.length ≤ 1000000)
    (he : ∀ (k : Nat) x w d, xs[k]? = some x → ws[k]? = some w → ds[k]? = some d → ∀ (H' : Hp) (T : Addr) (R : VK), Same H H' → H' T = none → (∀ H'' u, Same (upd H' T (.tup [x, w])) H'' → Da K H'' u d → R u H'') →
      g (.ref T) (wipe σ vs) (upd H' T (.tup [x, w])) fun σ2 H2 => wipe σ2 vs = wipe σ vs ∧ te σ2 H2 R)
    (q : ∀ H' D us, Same H H' → H D = none → H' D = some (.lst us) → DaAll K H' us ds → Q (.ref D) H') : tLc (iZipT K ta) g tYes te vs σ H Q := by
  refine hi _ ⟨a, b, xs, ws, rfl, hx, hw, fun D nD => ?_⟩
  refine lc_it (walk_zt h2) (fun k H' => Same H H' ∧ ∃ us, H' D = some (.lst us) ∧ DaAll K H' us (ds.take k)) ⟨same_put nD, [], upd_same, by rw [List.take_zero]; exact .nil⟩ (fun k H' _ ⟨s', _⟩ => ⟨seqT_mono s' hx, s'.seq hw⟩) ?_ ?_
  · rintro k v H1 H' hk ⟨s', us, eD, hus⟩ ⟨T, x, w, rfl, nT, rfl, ex, ew⟩
    have hy : k < ds.length := by omega
    have e3 : ds[k]? = some ds[k] := List.getElem?_eq_getElem hy
    have s1 : Same H1 (upd H1 T (.tup [x, w])) := same_put nT
    have sz := sizeLine_eq
    have hul := daAll_len hus
    rw [List.length_take] at hul
    exact he k x w _ ex ew e3 H1 T _ s' nT fun H'' u s'' hu => by
      have e4 := s'' _ _ (s1 _ _ eD)
      have kj : Kj H'' (upd H'' D (.lst (us ++ [u]))) := Kj.putL e4
      refine ⟨us, e4, by omega, fun c o h => ?_, us ++ [u], upd_same, ?_⟩
      · rw [upd_ne (ne_of_none h nD)]
        exact s'' _ _ (s1 _ _ (s' _ _ h))
      · have t1 : tupDs (ds.take k) = true := tupDs_take k ht
        have t2 : tupD ds[k] = true := tupD_at ht (List.getElem_mem hy)
        rw [List.take_add_one, e3]
        exact daAll_append (Da.kj kj t2 hu) (DaAll.kj kj t1 (hus.mono (s1.trans s'')))
  · rintro H' ⟨s', us, eD, hus⟩
    rw [← hl, List.take_length] at hus
    exact q H' D us s' nD eD hus
end
end Ev

/-! ## comprehensions over zip(a list, a list) and zip(a list, a tuple) -/
namespace Ev
open PySem PySem.Spec PyProof.Rows L2
section
variable {K : PySem.W.Frag} {σ : L2.St} {H : Hp} {Q : VK} {te : TE} {ta : TA} {a b : Addr} {xs ws ys : List V} {g : TG} {vs : List Nat}
theorem lcI_zip (hl : ys.length = xs.length) (h2 : xs.length = ws.length) (hi : ∀ Q : List V → Hp → Prop, Q [.ref a, .ref b] H → ta σ H Q) (hx : SqL K H a xs) (hw : SqL K H b ws) (hz : xs.length ≤ 1000000)
    (he : ∀ (k : Nat) x w y, xs[k]? = some x → ws[k]? = some w → ys[k]? = some y → ∀ (H' : Hp) (T : Addr) (R : VK), Same H H' → H' T = none → (∀ H'', Same (upd H' T (.tup [x, w])) H'' → R y H'') →
      g (.ref T) (wipe σ vs) (upd H' T (.tup [x, w])) fun σ2 H2 => wipe σ2 vs = wipe σ vs ∧ te σ2 H2 R)
    (q : ∀ H' D, Same H H' → H D = none → H' D = some (.lst ys) → Q (.ref D) H') : tLc (iZip K ta) g tYes te vs σ H Q := by
  refine hi _ ⟨a, b, xs, ws, rfl, hx, hw, fun D nD => ?_⟩
  refine lc_it (walk_zip (n := xs.length) (by rw [← h2, Nat.min_self])) (fun k H' => Same H H' ∧ H' D = some (.lst (ys.take k))) ⟨same_put nD, upd_same⟩ (fun k H' _ ⟨s', _⟩ => ⟨s'.seq hx, s'.seq hw⟩) ?_ ?_
  · rintro k v H1 H' hk ⟨s', eD⟩ ⟨T, x, w, rfl, nT, rfl, ex, ew⟩
    have hy : k < ys.length := by omega
    have e3 : ys[k]? = some ys[k] := List.getElem?_eq_getElem hy
    have s1 : Same H1 (upd H1 T (.tup [x, w])) := same_put nT
    have sz := sizeLine_eq
    have z := he k x w _ ex ew e3 H1 T (fun y H4 => ∃ acc, H4 D = some (.lst acc) ∧ acc.length < sizeLine ∧ Same H (upd H4 D (.lst (acc ++ [y]))) ∧ upd H4 D (.lst (acc ++ [y])) D = some (.lst (ys.take (k + 1)))) s' nT (fun H'' s'' => ⟨_, s'' _ _ (s1 _ _ eD), by
        rw [List.length_take]
        omega, fun c o h => by
        rw [upd_ne (ne_of_none h nD)]
        exact s'' _ _ (s1 _ _ (s' _ _ h)), by
        rw [upd_same, List.take_add_one, e3]
        rfl⟩)
    exact z
  · rintro H' ⟨s', eD⟩
    rw [← hl, List.take_length] at eD
    exact q H' D s' nD eD
theorem lcI_zu (hl : ys.length = xs.length) (h2 : xs.length = ws.length) (hi : ∀ Q : List V → Hp → Prop, Q [.ref a, .ref b] H → ta σ H Q) (hx : SqL K H a xs) (hw : SqT K H b ws) (hz : xs.length ≤ 1000000)
    (he : ∀ (k : Nat) x w y, xs[k]? = some x → ws[k]? = some w → ys[k]? = some y → ∀ (H' : Hp) (T : Addr) (R : VK), Same H H' → H' T = none → (∀ H'', Same (upd H' T (.tup [x, w])) H'' → R y H'') →
      g (.ref T) (wipe σ vs) (upd H' T (.tup [x, w])) fun σ2 H2 => wipe σ2 vs = wipe σ vs ∧ te σ2 H2 R)
    (q : ∀ H' D, Same H H' → H D = none → H' D = some (.lst ys) → Q (.ref D) H') : tLc (iZipU K ta) g tYes te vs σ H Q := by
  refine hi _ ⟨a, b, xs, ws, rfl, hx, hw, fun D nD => ?_⟩
  refine lc_it (walk_zu h2) (fun k H' => Same H H' ∧ H' D = some (.lst (ys.take k))) ⟨same_put nD, upd_same⟩ (fun k H' _ ⟨s', _⟩ => ⟨s'.seq hx, seqT_mono s' hw⟩) ?_ ?_
  · rintro k v H1 H' hk ⟨s', eD⟩ ⟨T, x, w, rfl, nT, rfl, ex, ew⟩
    have hy : k < ys.length := by omega
    have e3 : ys[k]? = some ys[k] := List.getElem?_eq_getElem hy
    have s1 : Same H1 (upd H1 T (.tup [x, w])) := same_put nT
    have sz := sizeLine_eq
    have z := he k x w _ ex ew e3 H1 T (fun y H4 => ∃ acc, H4 D = some (.lst acc) ∧ acc.length < sizeLine ∧ Same H (upd H4 D (.lst (acc ++ [y]))) ∧ upd H4 D (.lst (acc ++ [y])) D = some (.lst (ys.take (k + 1)))) s' nT (fun H'' s'' => ⟨_, s'' _ _ (s1 _ _ eD), by
        rw [List.length_take]
        omega, fun c o h => by
        rw [upd_ne (ne_of_none h nD)]
        exact s'' _ _ (s1 _ _ (s' _ _ h)), by
        rw [upd_same, List.take_add_one, e3]
        rfl⟩)
    exact z
  · rintro H' ⟨s', eD⟩
    rw [← hl, List.take_length] at eD
    exact q H' D s' nD eD
/-- the same with elements that are told as data -/
theorem lcD_zu {ds : List PyData} (hl : ds.length = xs.length) (h2 : xs.length = ws.length) (ht : tupDs ds = true) (hi : ∀ Q : List V → Hp → Prop, Q [.ref a, .ref b] H → ta σ H Q) (hx : SqL K H a xs) (hw : SqT K H b ws) (hz : xs.length ≤ 1000000)
    (he : ∀ (k : Nat) x w d, xs[k]? = some x → ws[k]? = some w → ds[k]? = some d → ∀ (H' : Hp) (T : Addr) (R : VK), Same H H' → H' T = none → (∀ H'' u, Same (upd H' T (.tup [x, w])) H'' → Da K H'' u d → R u H'') →
      g (.ref T) (wipe σ vs) (upd H' T (.tup [x, w])) fun σ2 H2 => wipe σ2 vs = wipe σ vs ∧ te σ2 H2 R)
    (q : ∀ H' D us, Same H H' → H D = none → H' D = some (.lst us) → DaAll K H' us ds → Q (.ref D) H') : tLc (iZipU K ta) g tYes te vs σ H Q := by
  refine hi _ ⟨a, b, xs, ws, rfl, hx, hw, fun D nD => ?_⟩
  refine lc_it (walk_zu h2) (fun k H' => Same H H' ∧ ∃ us, H' D = some (.lst us) ∧ DaAll K H' us (ds.take k)) ⟨same_put nD, [], upd_same, by rw [List.take_zero]; exact .nil⟩ (fun k H' _ ⟨s', _⟩ => ⟨s'.seq hx, seqT_mono s' hw⟩) ?_ ?_
  · rintro k v H1 H' hk ⟨s', us, eD, hus⟩ ⟨T, x, w, rfl, nT, rfl, ex, ew⟩
    have hy : k < ds.length := by omega
    have e3 : ds[k]? = some ds[k] := List.getElem?_eq_getElem hy
    have s1 : Same H1 (upd H1 T (.tup [x, w])) := same_put nT
    have sz := sizeLine_eq
    have hul := daAll_len hus
    rw [List.length_take] at hul
    exact he k x w _ ex ew e3 H1 T _ s' nT fun H'' u s'' hu => by
      have e4 := s'' _ _ (s1 _ _ eD)
      have kj : Kj H'' (upd H'' D (.lst (us ++ [u]))) := Kj.putL e4
      refine ⟨us, e4, by omega, fun c o h => ?_, us ++ [u], upd_same, ?_⟩
      · rw [upd_ne (ne_of_none h nD)]
        exact s'' _ _ (s1 _ _ (s' _ _ h))
      · have t1 : tupDs (ds.take k) = true := tupDs_take k ht
        have t2 : tupD ds[k] = true := tupD_at ht (List.getElem_mem hy)
        rw [List.take_add_one, e3]
        exact daAll_append (Da.kj kj t2 hu) (DaAll.kj kj t1 (hus.mono (s1.trans s'')))
  · rintro H' ⟨s', us, eD, hus⟩
    rw [← hl, List.take_length] at hus
    exact q H' D us s' nD eD hus
/-- the same with elements that are told as data -/
theorem lcD_zip {ds : List PyData} (hl : ds.length = xs.length) (h2 : xs.length = ws.length) (ht : tupDs ds = true) (hi : ∀ Q : List V → Hp → Prop, Q [.ref a, .ref b] H → ta σ H Q) (hx : SqL K H a xs) (hw : SqL K H b ws) (hz : xs.length ≤ 1000000)
    (he : ∀ (k : Nat) x w d, xs[k]? = some x → ws[k]? = some w → ds[k]? = some d → ∀ (H' : Hp) (T : Addr) (R : VK), Same H H' → H' T = none → (∀ H'' u, Same (upd H' T (.tup [x, w])) H'' → Da K H'' u d → R u H'') →
      g (.ref T) (wipe σ vs) (upd H' T (.tup [x, w])) fun σ2 H2 => wipe σ2 vs = wipe σ vs ∧ te σ2 H2 R)
    (q : ∀ H' D us, Same H H' → H D = none → H' D = some (.lst us) → DaAll K H' us ds → Q (.ref D) H') : tLc (iZip K ta) g tYes te vs σ H Q := by
  refine hi _ ⟨a, b, xs, ws, rfl, hx, hw, fun D nD => ?_⟩
  refine lc_it (walk_zip (n := xs.length) (by rw [← h2, Nat.min_self])) (fun k H' => Same H H' ∧ ∃ us, H' D = some (.lst us) ∧ DaAll K H' us (ds.take k)) ⟨same_put nD, [], upd_same, by rw [List.take_zero]; exact .nil⟩ (fun k H' _ ⟨s', _⟩ => ⟨s'.seq hx, s'.seq hw⟩) ?_ ?_
  · rintro k v H1 H' hk ⟨s', us, eD, hus⟩ ⟨T, x, w, rfl, nT, rfl, ex, ew⟩
    have hy : k < ds.length := by omega
    have e3 : ds[k]? = some ds[k] := List.getElem?_eq_getElem hy
    have s1 : Same H1 (upd H1 T (.tup [x, w])) := same_put nT
    have sz := sizeLine_eq
    have hul := daAll_len hus
    rw [List.length_take] at hul
    exact he k x w _ ex ew e3 H1 T _ s' nT fun H'' u s'' hu => by
      have e4 := s'' _ _ (s1 _ _ eD)
      have kj : Kj H'' (upd H'' D (.lst (us ++ [u]))) := Kj.putL e4
      refine ⟨us, e4, by omega, fun c o h => ?_, us ++ [u], upd_same, ?_⟩
      · rw [upd_ne (ne_of_none h nD)]
        exact s'' _ _ (s1 _ _ (s' _ _ h))
      · have t1 : tupDs (ds.take k) = true := tupDs_take k ht
        have t2 : tupD ds[k] = true := tupD_at ht (List.getElem_mem hy)
        rw [List.take_add_one, e3]
        exact daAll_append (Da.kj kj t2 hu) (DaAll.kj kj t1 (hus.mono (s1.trans s'')))
  · rintro H' ⟨s', us, eD, hus⟩
    rw [← hl, List.take_length] at hus
    exact q H' D us s' nD eD hus
end
end Ev

/-! ## i *= j -/
namespace Ev
open PySem PySem.Spec PyProof.Rows L2
def ipM : TIp := fun x y H Q => ∃ i j : Int, x = .int i ∧ y = .int j ∧ CMulW i j ∧ Q (.int (i * j)) H
theorem ip_mul {X : Cx} : PIp X .Mult ipM := by
  rintro pins s σ H _ _ v u Q I r1 r2 ⟨i, j, rfl, rfl, fits, q⟩
  rcases r1 with ⟨t1, rfl⟩
  rcases r2 with ⟨t2, rfl⟩
  exact PySem.P.imul_int ⟨.int (i * j), H, I.tok _, ⟨_, rfl⟩, q⟩ fits.ok
end Ev

/-! ## first_used, without, cleared -/
namespace Ev
open PySem PySem.Spec PyProof.Rows L2 Pm
def spFu (K : PySem.W.Frag) : Sp := fun vs H Q _ => ∃ (a : Addr) (r : List Int), vs = [.ref a] ∧ SqL K H a (r.map V.int) ∧ ∀ H', Same H H' → Q (optI (fst0 r)) H'
def spWo (K : PySem.W.Frag) : Sp := fun vs H Q _ => ∃ (a b : Addr) (r p : List Int) (pl i0 : Nat), vs = [.ref a, .int (pl : Nat), .ref b] ∧ SqL K H a (r.map V.int) ∧ SqL K H b (p.map V.int) ∧ r.length = p.length ∧ r.length ≤ 1000 ∧ pl < r.length ∧ i0 < r.length ∧ Pm.gd r i0 * Pm.gd p pl - Pm.gd p i0 * Pm.gd r pl ≠ 0 ∧
  (∀ i, (Pm.gd r i).natAbs < 2 ^ 800) ∧ (∀ i, (Pm.gd p i).natAbs < 2 ^ 800) ∧ ∀ H' c, Same H H' → H' c = some (.lst ((wth r p pl).map V.int)) → Q (.ref c) H'
theorem scFu : FnScope ["row", "place", "one"] ["row"] (defScope (topS 18)) := ⟨rfl, rfl, rfl, by decide +kernel, rfl, by decide +kernel, by decide +kernel⟩
theorem scWo : FnScope ["row", "place", "pivot", "left", "one", "other", "shared"] ["row", "place", "pivot"] (defScope (topS 17)) := ⟨rfl, rfl, rfl, by decide +kernel, rfl, by decide +kernel, by decide +kernel⟩
section
variable {P : Program} {w : World} {K : PySem.W.Frag} {mg : Str → Option Value} {base : Heap}
theorem fst0_take {r : List Int} {i : Nat} (h : ∀ j, j < i → gd r j = 0) (hi : i < r.length) (nz : gd r i ≠ 0) : fst0 r = some i := by
  cases e : fst0 r with
  | none => exact absurd (fst0_none e i) nz
  | some k =>
    obtain ⟨h1, h2, h3⟩ := fst0_some e
    rcases Nat.lt_trichotomy k i with z | z | z
    · exact absurd (h k z) h2
    · rw [z]
    · exact absurd (h3 i z) nz
theorem fst0_all {r : List Int} (h : ∀ j, j < r.length → gd r j = 0) : fst0 r = none := by
  cases e : fst0 r with
  | none => rfl
  | some k =>
    obtain ⟨h1, h2, _⟩ := fst0_some e
    exact absurd (h k h1) h2
theorem ok_fu (D : Def K mg "first_used" (topS 18) ["row"]) (nb : NB mg) : Cal P w K mg base 1 "first_used" ["row"] (spFu K) := by
  refine D.ok scFu (fun vs H Q E h => ?_) (fun fa cdv A outer sh H vs Q E hr gd h => ?_)
  · obtain ⟨a, r, rfl, _⟩ := h
    rfl
  · obtain ⟨a, r, rfl, hr', q⟩ := h
    refine ⟨_, (pss_cons (ps_for PassesOwn.never rfl (pi_enum rfl nb.at (pa_cons (pv 0) pa_nil)) (pg_tup rfl (pgs_cons (pg_name (i := 1) scFu.nd rfl (Or.inl rfl)) (pgs_cons (pg_name (i := 2) scFu.nd rfl (Or.inl rfl)) pgs_nil)))
        (pss_one (ps_if (pt_cmpR op_ne (pv 2) pe_int (nomark _))
          (pss_one (ps_ret (pv 1)))
          pss_nil)))
      (pss_one (ps_ret pe_non))), ?_⟩
    have sl := sizeLine_eq
    refine ⟨_, rfl, a, _, rfl, hr', for_it (walk_enum (K := K) (a := a) (xs := r.map V.int)) (fun i σ' H' => ∃ y1 y2 : Option V, σ' = [some (.ref a), y1, y2] ∧ Same H H' ∧ ∀ j, j < i → Pm.gd r j = 0) ⟨_, _, rfl, Same.rfl', fun j hj => absurd hj (by omega)⟩ (fun i σ' H' _ ⟨_, _, _, s', _⟩ => s'.seq hr') ?_ ?_⟩
    · rintro i v σ' H1 H2 hi ⟨y1, y2, rfl, s1, hz⟩ ⟨T, z1, z2, rfl, nT, rfl, e1, e2⟩
      cases e1
      obtain ⟨hir, rfl⟩ := map_int_at e2
      have sT := same_put (o := .tup [.int (i : Nat), .int (Pm.gd r i)]) nT
      refine ⟨T, _, rfl, .inl (.inl upd_same), rfl, _, _, rfl, _, _, rfl, rfl, ?_⟩
      refine ⟨_, rfl, rfl, _, rfl, ?_⟩
      by_cases nz : Pm.gd r i = 0
      · rw [nz, show (!decide (V.int 0 = V.int 0)) = false by rw [decide_eq_true rfl]; rfl]
        rw [nz] at sT
        refine iteF ⟨_, _, rfl, s1.trans sT, fun j hj => ?_⟩
        rcases Nat.lt_succ_iff_lt_or_eq.mp hj with h | rfl
        · exact hz j h
        · exact nz
      · rw [show (!decide (V.int (Pm.gd r i) = V.int 0)) = true by rw [decide_eq_false fun z => nz (V.int.inj z)]; rfl]
        refine iteT ⟨_, rfl, ?_⟩
        have := q _ (s1.trans sT)
        rw [fst0_take hz hir nz] at this
        exact this
    · rintro σ' H1 ⟨y1, y2, rfl, s1, hz⟩
      have := q _ s1
      rw [fst0_all fun j hj => hz j (by rw [List.length_map]; exact hj)] at this
      exact this
theorem ok_wo (D : Def K mg "without" (topS 17) ["row", "place", "pivot"]) (C_common_divisor : Cal P w K mg base 1 "common_divisor" ["one", "other"] spGcd) (nb : NB mg) : Cal P w K mg base 2 "without" ["row", "place", "pivot"] (spWo K) := by
  refine D.ok scWo (fun vs H Q E h => ?_) (fun fa cdv A outer sh H vs Q E hr gd h => ?_)
  · obtain ⟨a, b, r, p, pl, i0, rfl, _⟩ := h
    rfl
  · obtain ⟨a, b, r, p, pl, i0, rfl, ha, hb, hl, hk, hpl, h0, nz, br, bp, q⟩ := h
    refine ⟨_, (pss_cons (ps_setLc (i := 3) (own := [("one", 4), ("other", 5)]) (g := (gTup K 2 (gCons (gName 4) (gCons (gName 5) gNil)))) (tt := tYes) (te := (tOp (rI0 fun i j => .int (i - j)) (tOp (rI CMulW fun i j => .int (i * j)) (tVar 4) (tOp (rIxL K) (tVar 2) (tVar 1))) (tOp (rI CMulW fun i j => .int (i * j)) (tVar 5) (tOp (rIxL K) (tVar 0) (tVar 1))))) rfl scWo.nd rfl rfl (sw_true rfl rfl rfl rfl) (pi_zip rfl nb.at (pa_cons (pv 0) (pa_cons (pv 2) pa_nil))) (blkOk_by (N := ["row", "place", "pivot", "left", "one", "other", "shared"]) (sc := defScope (topS 17)) (by decide +kernel)) (fun _ _ _ _ _ => (pg_tup rfl (pgs_cons (pg_name (i := 4) scWo.nd rfl (Or.inl rfl)) (pgs_cons (pg_name (i := 5) scWo.nd rfl (Or.inl rfl)) pgs_nil)))) (fun _ _ _ _ _ => pts_nil) (fun _ _ _ _ _ => (pe_op op_sub (pe_op op_mulW (pv 4) (pe_ix ix_list (pv 2) (pv 1) (fun _ _ => rfl))) (pe_op op_mulW (pv 5) (pe_ix ix_list (pv 0) (pv 1) (fun _ _ => rfl))))))
      (pss_cons (ps_set (i := 6) scWo.nd rfl (.inr rfl) pe_int)
      (pss_cons (ps_for PassesOwn.never rfl (pi_list (pv 3)) (pg_name (i := 4) scWo.nd rfl (Or.inl rfl))
        (pss_one (ps_set (i := 6) scWo.nd rfl (.inr rfl) (pcall C_common_divisor (hr.mono (by omega)) gd (by rfl) (pa_cons (pv 6) (pa_cons (pe_callB call_abs (by rfl) nb.at (by decide +kernel) (pa_cons (pv 4) pa_nil)) pa_nil))))))
      (pss_one (ps_ret (pe_lc (own := [("one", 4)]) (g := (gName 4)) (tt := tYes) (te := (tOp (rI CDivW fun i j => .int (i / j)) (tVar 4) (tVar 6))) rfl scWo.nd (pi_list (pv 3)) (blkOk_by (N := ["row", "place", "pivot", "left", "one", "other", "shared"]) (sc := defScope (topS 17)) (by decide +kernel)) (fun _ _ _ _ _ => (pg_name (i := 4) scWo.nd rfl (Or.inl rfl))) (fun _ _ _ _ _ => pts_nil) (fun _ _ _ _ _ => (pe_op op_fdivW (pv 4) (pv 6))))))))), ?_⟩
    have sl := sizeLine_eq
    have e800 : (2 : Nat) ^ 800 * 2 ^ 800 = 2 ^ 1600 := by decide +kernel
    have wm : ∀ {x y : Int}, x.natAbs < 2 ^ 800 → y.natAbs < 2 ^ 800 → CMulW x y := fun hx hy => wide_mul hx hy (by decide) (by decide) (by decide)
    have bd : ∀ i, (Pm.gd r i * Pm.gd p pl - Pm.gd p i * Pm.gd r pl).natAbs < 2 ^ 1601 := fun i => by
      have a1 := Nat.mul_lt_mul'' (br i) (bp pl)
      have a2 := Nat.mul_lt_mul'' (bp i) (br pl)
      rw [← Int.natAbs_mul, e800] at a1 a2
      have a3 := Int.natAbs_sub_le (Pm.gd r i * Pm.gd p pl) (Pm.gd p i * Pm.gd r pl)
      have a4 : (2 : Nat) ^ 1601 = 2 ^ 1600 + 2 ^ 1600 := by decide +kernel
      omega
    dsimp only [tSeq, tAsg]
    refine lcI_zip (a := a) (b := b) (xs := r.map V.int) (ws := p.map V.int) (ys := (lefts r p pl).map V.int) (by rw [List.length_map, List.length_map, lefts_len hl rfl, hl]) (by rw [List.length_map, List.length_map, hl]) (fun Q hq => ⟨_, rfl, _, rfl, hq⟩) ha hb (by rw [List.length_map]; omega) (fun k x y z hx hy hz H' T R s' nT hR => ?_) (fun H1 D s1 nD eD => ?_)
    · obtain ⟨hkr, rfl⟩ := map_int_at hx
      obtain ⟨hkp, rfl⟩ := map_int_at hy
      obtain ⟨hkl, rfl⟩ := map_int_at hz
      rw [gd_lefts hl rfl hkp] at hR
      have sT := same_put (o := .tup [.int (Pm.gd r k), .int (Pm.gd p k)]) nT
      refine ⟨T, _, rfl, .inl (.inl upd_same), rfl, _, _, rfl, _, _, rfl, rfl, rfl, ?_⟩
      refine ⟨_, rfl, _, rfl, _, rfl, b, _, _, _, rfl, rfl, (s'.trans sT).seq hb, atI_gd (by omega), _, _, rfl, rfl, wm (br k) (bp pl), ?_⟩
      refine ⟨_, rfl, _, rfl, _, rfl, a, _, _, _, rfl, rfl, (s'.trans sT).seq ha, atI_gd (by omega), _, _, rfl, rfl, wm (bp k) (br pl), _, _, rfl, rfl, hR _ Same.rfl'⟩
    · have hll : (lefts r p pl).length = p.length := lefts_len hl rfl
      have hgl : ∀ i, i < p.length → Pm.gd (lefts r p pl) i = Pm.gd r i * Pm.gd p pl - Pm.gd p i * Pm.gd r pl := fun i hi => gd_lefts hl rfl hi
      obtain ⟨g, g0, ge, _, gg⟩ := wth_spec (N := p.length) hl rfl (i0 := i0) (pl := pl) (by omega) nz
      have hw : wth r p pl = (lefts r p pl).map fun x : Int => x / ((gcdL (lefts r p pl) 0 : Nat) : Int) := rfl
      have gle : gcdL (lefts r p pl) 0 < 2 ^ 1601 := by
        have d := (gcdL_dvd (lefts r p pl) 0).2 _ (gd_mem (v := lefts r p pl) (i := i0) (by omega))
        rw [hgl i0 (by omega)] at d
        have := Nat.le_of_dvd (by omega) (Int.ofNat_dvd_left.mp d)
        have := bd i0
        omega
      generalize lefts r p pl = ls at eD hll hgl gg hw gle
      dsimp only [gName, tSeq, tAsg]
      refine ⟨_, rfl, D, rfl, ⟨_, .inl (.inl eD)⟩, for_list (K := K) (a := D) (xs := ls.map V.int) (fun i σ' H' => ∃ y4 y5 : Option V, σ' = [some (.ref a), some (.int (pl : Nat)), some (.ref b), some (.ref D), y4, y5, some (.int (gcdL (ls.take i) 0 : Nat))] ∧ Same H1 H') ⟨_, _, rfl, Same.rfl'⟩ (fun i σ' H' _ ⟨_, _, _, s'⟩ => .inl (.inl (s' _ _ eD))) ?_ ?_⟩
      · rintro i v σ' H2 hi ⟨y4, y5, rfl, s2⟩
        obtain ⟨hil, rfl⟩ := map_int_at hi
        refine ⟨_, rfl, _, rfl, _, rfl, gcdL (ls.take i) 0, (Pm.gd ls i).natAbs, ?_, ?_⟩
        · have : (if Pm.gd ls i < 0 then -Pm.gd ls i else Pm.gd ls i) = ((Pm.gd ls i).natAbs : Nat) := by split <;> omega
          rw [this]
          rfl
        · refine ⟨some (.int (Pm.gd ls i)), y5, ?_, s2⟩
          rw [gcdL_snoc hil]
          rfl
      · rintro σ' H2 ⟨y4, y5, rfl, s2⟩
        rw [List.length_map, List.take_length]
        dsimp only [tRet]
        refine lcI_list (a := D) (xs := ls.map V.int) (ys := (wth r p pl).map V.int) (by rw [hw, List.length_map, List.length_map, List.length_map]) (fun Q hq => ⟨_, rfl, hq⟩) (.inl (.inl (s2 _ _ eD))) (by rw [List.length_map]; omega) (fun k x z hx hz H' R s' hR => ?_) (fun H3 D2 s3 nD3 eD3 => q H3 D2 (s1.trans (s2.trans s3)) eD3)
        obtain ⟨hkl, rfl⟩ := map_int_at hx
        obtain ⟨hkw, rfl⟩ := map_int_at hz
        have ez : Pm.gd (wth r p pl) k = Pm.gd ls k / (gcdL ls 0 : Nat) := by
          rw [hw, gd_map (fun x : Int => x / ((gcdL ls 0 : Nat) : Int)) (by simp)]
        rw [ez] at hR
        exact ⟨rfl, _, rfl, _, rfl, _, _, rfl, rfl, wide_div (b := 1601) (by omega) (by rw [Int.natAbs_natCast]; exact gle) (by decide) (by decide), hR _ Same.rfl'⟩
end
end Ev

/-! ## cleared, the rows of the classes and of ones -/
namespace Ev
open PySem PySem.Spec PyProof.Rows L2 Pm
/-- a list of classes in the heap -/
def ClL (K : PySem.W.Frag) (H : Hp) (a : Addr) (cl : List (Nat × Nat)) : Prop := ∃ us, SqL K H a us ∧ DaAll K H us (cl.map cDq)
def spCr (K : PySem.W.Frag) : Sp := fun vs H Q _ => ∃ (n j : Nat) (a : Addr) (cl : List (Nat × Nat)), vs = [.int (n : Nat), .ref a, .int (j : Nat)] ∧ n ≤ 1000 ∧ cl.length ≤ 1000 ∧ j < cl.length ∧ ClL K H a cl ∧ (∀ e ∈ cl, 0 < e.1) ∧ ∀ H' c, Same H H' → H' c = some (.lst ((crow n (cl.length + 1) (indC cl) j).map V.int)) → Q (.ref c) H'
def spRo (K : PySem.W.Frag) : Sp := fun vs H Q _ => ∃ (n : Nat) (a : Addr) (cl : List (Nat × Nat)), vs = [.int (n : Nat), .ref a] ∧ n ≤ 1000 ∧ cl.length ≤ 1000 ∧ ClL K H a cl ∧ ∀ H' c, Same H H' → H' c = some (.lst ((crow n (cl.length + 1) (indC cl) cl.length).map V.int)) → Q (.ref c) H'
def spCl (K : PySem.W.Frag) : Sp := fun vs H Q _ => ∃ (a l : Addr) (r : List Int) (pv : List (Nat × List Int)), vs = [.ref a, .ref l] ∧ H a = some (.lst (r.map V.int)) ∧ r.length ≤ 1000 ∧ PvL H l pv ∧ ClrOk r pv ∧ ∀ H' c, Same H H' → H' c = some (.lst ((clr r pv).map V.int)) → Q (.ref c) H'
theorem scClr : FnScope ["row", "pivots", "place", "pivot"] ["row", "pivots"] (defScope (topS 16)) := ⟨rfl, rfl, rfl, by decide +kernel, rfl, by decide +kernel, by decide +kernel⟩
theorem scCro : FnScope ["length", "classes", "at", "modulus", "place", "ticks", "tick", "other"] ["length", "classes", "at"] (defScope (topS 13)) := ⟨rfl, rfl, rfl, by decide +kernel, rfl, by decide +kernel, by decide +kernel⟩
theorem scRoo : FnScope ["length", "classes"] ["length", "classes"] (defScope (topS 14)) := ⟨rfl, rfl, rfl, by decide +kernel, rfl, by decide +kernel, by decide +kernel⟩
section
variable {P : Program} {w : World} {K : PySem.W.Frag} {mg : Str → Option Value} {base : Heap}
theorem ok_cl (D : Def K mg "cleared" (topS 16) ["row", "pivots"]) (C_without : Cal P w K mg base 2 "without" ["row", "place", "pivot"] (spWo K)) (nb : NB mg) : Cal P w K mg base 3 "cleared" ["row", "pivots"] (spCl K) := by
  refine D.ok scClr (fun vs H Q E h => ?_) (fun fa cdv A outer sh H vs Q E hr gd h => ?_)
  · obtain ⟨a, l, r, qs, rfl, _⟩ := h
    rfl
  · obtain ⟨a, l, r, qs, rfl, hr', hl, ⟨us, hu, hpu⟩, hok, q⟩ := h
    refine ⟨_, (pss_cons (ps_for PassesOwn.never rfl (pi_list (pv 1)) (pg_tup rfl (pgs_cons (pg_name (i := 2) scClr.nd rfl (Or.inl rfl)) (pgs_cons (pg_name (i := 3) scClr.nd rfl (Or.inl rfl)) pgs_nil)))
        (pss_one (ps_set (i := 0) scClr.nd rfl (.inl rfl) (pcall C_without (hr.mono (by omega)) gd (by rfl) (pa_cons (pv 0) (pa_cons (pv 2) (pa_cons (pv 3) pa_nil)))))))
      (pss_one (ps_ret (pv 0)))), ?_⟩
    have sl := sizeLine_eq
    refine ⟨_, rfl, l, rfl, ⟨_, .inl (.inl hu)⟩, for_list (K := K) (a := l) (xs := us) (fun i σ' H' => ∃ (y2 y3 : Option V) (c : Addr) (v : List Int), σ' = [some (.ref c), some (.ref l), y2, y3] ∧ Same H H' ∧ H' c = some (.lst (v.map V.int)) ∧ v.length ≤ 1000 ∧ ClrOk v (qs.drop i) ∧ clr v (qs.drop i) = clr r qs) ⟨_, _, a, r, rfl, Same.rfl', hr', hl, hok, rfl⟩ (fun i σ' H' _ ⟨_, _, _, _, _, s', _⟩ => .inl (.inl (s' _ _ hu))) ?_ ?_⟩
    · rintro i x σ' H1 hi ⟨y2, y3, c, v, rfl, s1, hc, hvl, hv, hcl⟩
      obtain ⟨hip, t, b, rfl, ht, hb⟩ := (hpu.same s1).at hi
      rw [List.drop_eq_getElem_cons hip] at hv hcl
      obtain ⟨⟨i0, h0, nz⟩, h1, h2, h3, h4, h5⟩ := hv
      refine ⟨t, _, rfl, .inl (.inl ht), rfl, _, _, rfl, _, _, rfl, rfl, ?_⟩
      refine ⟨_, rfl, _, rfl, _, rfl, c, b, v, qs[i].2, qs[i].1, i0, rfl, .inl (.inl hc), .inl (.inl hb), h1, hvl, h2, h0, nz, h3, h4, fun H2 c2 s2 hc2 => ?_⟩
      exact ⟨_, _, c2, _, rfl, s1.trans s2, hc2, by rw [wth_len rfl h1.symm]; exact hvl, h5, hcl⟩
    · rintro σ' H1 ⟨y2, y3, c, v, rfl, s1, hc, hvl, hv, hcl⟩
      rw [hpu.len, List.drop_length] at hcl
      refine ⟨_, rfl, q H1 c s1 ?_⟩
      rw [← hcl]
      exact hc
theorem ok_cr (D : Def K mg "class_row" (topS 13) ["length", "classes", "at"]) (nb : NB mg) : Cal P w K mg base 1 "class_row" ["length", "classes", "at"] (spCr K) := by
  refine D.ok scCro (fun vs H Q E h => ?_) (fun fa cdv A outer sh H vs Q E hr gd h => ?_)
  · obtain ⟨n, j, a, cl, rfl, _⟩ := h
    rfl
  · obtain ⟨n, j, a, cl, rfl, hn, hl, hj, ⟨us, hu, hd⟩, hp, q⟩ := h
    refine ⟨_, (pss_cons (ps_asg (pe_ix ix_list (pv 1) (pv 2) (fun _ _ => rfl)) (pg_tup rfl (pgs_cons (pg_name (i := 3) scCro.nd rfl (.inr rfl)) (pgs_cons (pg_name (i := 4) scCro.nd rfl (.inr rfl)) pgs_nil))))
      (pss_cons (ps_setLc (i := 5) (own := [("tick", 6)]) (g := (gName 6)) (tt := tYes) (te := (tCB _ (tCons (tOp rEq (tOp (rI (fun _ j => 0 < j) fun i j => .int (i % j)) (tVar 6) (tVar 3)) (tVar 4)) tNil))) rfl scCro.nd rfl rfl (sw_true rfl rfl rfl rfl) (pi_range1 rfl nb.at (pa_cons (pv 0) pa_nil)) (blkOk_by (N := ["length", "classes", "at", "modulus", "place", "ticks", "tick", "other"]) (sc := defScope (topS 13)) (by decide +kernel)) (fun _ _ _ _ _ => (pg_name (i := 6) scCro.nd rfl (Or.inl rfl))) (fun _ _ _ _ _ => pts_nil) (fun _ _ _ _ _ => (pe_callTy call_int1 (by rfl) nb.at (show PySem.bootBuiltins "int" = some (Value.type "int") by decide +kernel) (pa_cons (pe_cmpR op_eq (pe_op op_mod (pv 6) (pv 3)) (pv 4) (nomark _)) pa_nil))))
      (pss_one (ps_ret (pe_op op_cat (pv 5) (pe_lc (own := [("other", 7)]) (g := (gName 7)) (tt := tYes) (te := (tCB _ (tCons (tOp rEq (tVar 2) (tVar 7)) tNil))) rfl scCro.nd (pi_range1 rfl nb.at (pa_cons (pe_op op_add (pe_callB call_len_seq (by rfl) nb.at PySem.boot_len (pa_cons (pv 1) pa_nil)) pe_int) pa_nil)) (blkOk_by (N := ["length", "classes", "at", "modulus", "place", "ticks", "tick", "other"]) (sc := defScope (topS 13)) (by decide +kernel)) (fun _ _ _ _ _ => (pg_name (i := 7) scCro.nd rfl (Or.inl rfl))) (fun _ _ _ _ _ => pts_nil) (fun _ _ _ _ _ => (pe_callTy call_int1 (by rfl) nb.at (show PySem.bootBuiltins "int" = some (Value.type "int") by decide +kernel) (pa_cons (pe_cmpR op_eq (pv 2) (pv 7) (nomark _)) pa_nil))))))))), ?_⟩
    have sl := sizeLine_eq
    have hul := daAll_len hd
    rw [List.length_map] at hul
    obtain ⟨b, hb, hbt⟩ : ∃ b, us[j]? = some (.ref b) ∧ SqT K H b [.int (cl[j].1 : Nat), .int (cl[j].2 : Nat)] := by
      obtain ⟨d, hd1, hd2⟩ := daAll_at hd (show us[j]? = some us[j] from List.getElem?_eq_getElem (by omega))
      rw [List.getElem?_map, List.getElem?_eq_getElem hj] at hd1
      cases hd1
      obtain ⟨b, e, hb⟩ := da_cDq hd2
      exact ⟨b, by rw [← e]; exact List.getElem?_eq_getElem (by omega), hb⟩
    have p0 := hp _ (List.getElem_mem hj)
    refine ⟨_, rfl, _, rfl, a, us, _, _, rfl, rfl, hu, atI_of hb, b, _, rfl, hbt, rfl, _, _, rfl, _, _, rfl, rfl, ?_⟩
    dsimp only [gName, tSeq, tAsg]
    refine lc_rng (n := n) (ys := (List.range n).map fun t => .int (indC cl j t : Nat)) (fun Q hq => ⟨_, rfl, hq⟩) (by omega) (by rw [List.length_map, List.length_range]) (fun t y hy H' R s' hR => ?_) (fun H1 D s1 nD eD => ?_)
    · rw [List.getElem?_map] at hy
      obtain ⟨t', ht, rfl⟩ := Option.map_eq_some_iff.mp hy
      obtain ⟨htn, ht2⟩ := List.getElem?_eq_some_iff.mp ht
      rw [List.getElem_range] at ht2
      subst ht2
      refine ⟨rfl, _, rfl, _, rfl, _, _, rfl, rfl, (by show (0 : Int) < ((cl[j].1 : Nat) : Int); omega), _, rfl, rfl, .inr ⟨_, rfl, ?_⟩⟩
      rw [indC_at hj] at hR
      have e : decide (V.int ((0 + (t : Int)) % (cl[j].1 : Nat)) = V.int (cl[j].2 : Nat)) = decide (t % cl[j].1 = cl[j].2) := decide_eq_decide.mpr ⟨fun h => by
        have := V.int.inj h
        rw [Int.zero_add] at this
        omega, fun h => by
        rw [Int.zero_add, ← h]
        rfl⟩
      rw [e]
      by_cases z : t % cl[j].1 = cl[j].2
      · rw [decide_eq_true z, if_pos rfl]
        rw [if_pos z] at hR
        exact hR _ Same.rfl'
      · rw [decide_eq_false z, if_neg nofun]
        rw [if_neg z] at hR
        exact hR _ Same.rfl'
    · have e1 : ((us.length : Nat) : Int) + 1 = ((cl.length + 1 : Nat) : Int) := by omega
      refine ⟨_, rfl, lc_rng (n := cl.length + 1) (ys := (List.range (cl.length + 1)).map fun i => .int (if i = j then 1 else 0)) (fun Q hq => ⟨_, rfl, a, us, rfl, .inl (s1.seq hu), _, _, rfl, rfl, by rw [← e1] at hq; exact hq⟩) (by omega) (by rw [List.length_map, List.length_range]) (fun t y hy H' R s' hR => ?_) (fun H2 D2 s2 nD2 eD2 => ?_)⟩
      · rw [List.getElem?_map] at hy
        obtain ⟨t', ht, rfl⟩ := Option.map_eq_some_iff.mp hy
        obtain ⟨htn, ht2⟩ := List.getElem?_eq_some_iff.mp ht
        rw [List.getElem_range] at ht2
        subst ht2
        refine ⟨rfl, _, rfl, _, rfl, rfl, .inr ⟨_, rfl, ?_⟩⟩
        by_cases z : t = j
        · subst z
          rw [decide_eq_true (show V.int (t : Nat) = V.int (0 + (t : Int)) by rw [Int.zero_add]), if_pos rfl]
          rw [if_pos rfl] at hR
          exact hR _ Same.rfl'
        · rw [decide_eq_false (fun h => z (by have := V.int.inj h; omega)), if_neg nofun]
          rw [if_neg z] at hR
          exact hR _ Same.rfl'
      · refine ⟨D, D2, _, _, rfl, rfl, s2 _ _ eD, eD2, ?_, fun p np => q _ p (s1.trans (s2.trans (same_put np))) ?_⟩
        · rw [List.length_map, List.length_map, List.length_range, List.length_range]
          omega
        · rw [upd_same]
          unfold crow
          rw [List.map_append, List.map_map, List.map_map]
          rfl
theorem ok_ro (D : Def K mg "row_of_ones" (topS 14) ["length", "classes"]) (nb : NB mg) : Cal P w K mg base 1 "row_of_ones" ["length", "classes"] (spRo K) := by
  refine D.ok scRoo (fun vs H Q E h => ?_) (fun fa cdv A outer sh H vs Q E hr gd h => ?_)
  · obtain ⟨n, a, cl, rfl, _⟩ := h
    rfl
  · obtain ⟨n, a, cl, rfl, hn, hl, ⟨us, hu, hd⟩, q⟩ := h
    refine ⟨_, (pss_one (ps_ret (pe_op op_cat (pe_op op_cat (pe_op op_rep (pe_lst (pa_cons pe_int pa_nil)) (pv 0)) (pe_op op_rep (pe_lst (pa_cons pe_int pa_nil)) (pe_callB call_len_seq (by rfl) nb.at PySem.boot_len (pa_cons (pv 1) pa_nil)))) (pe_lst (pa_cons pe_int pa_nil))))), ?_⟩
    have sl := sizeLine_eq
    have hul := daAll_len hd
    rw [List.length_map] at hul
    refine ⟨(by show 1 ≤ sizeLine; decide), fun l1 n1 => ⟨_, rfl, l1, _, _, rfl, rfl, upd_same, by omega, by omega, (by rw [Int.toNat_natCast]; show 1 * n ≤ _; omega), fun l2 n2 => ?_⟩⟩
    have s1 := same_put (o := .lst [V.int 1]) n1
    have s2 := same_put (o := .lst (List.replicate ((n : Nat) : Int).toNat [V.int 1]).flatten) n2
    refine ⟨(by show 1 ≤ sizeLine; decide), fun l3 n3 => ?_⟩
    have s3 := same_put (o := .lst [V.int 0]) n3
    refine ⟨_, rfl, a, us, rfl, .inl ((s1.trans (s2.trans s3)).seq hu), l3, _, _, rfl, rfl, upd_same, by omega, by omega, (by rw [Int.toNat_natCast]; show 1 * us.length ≤ _; omega), fun l4 n4 => ?_⟩
    have s4 := same_put (o := .lst (List.replicate ((us.length : Nat) : Int).toNat [V.int 0]).flatten) n4
    refine ⟨l2, l4, _, _, rfl, rfl, (s3.trans s4) _ _ upd_same, upd_same, ?_, fun l5 n5 => ?_⟩
    · rw [Int.toNat_natCast, Int.toNat_natCast, flat_one, flat_one, List.length_replicate, List.length_replicate]
      omega
    rw [Int.toNat_natCast, Int.toNat_natCast, flat_one, flat_one] at *
    have s5 := same_put (o := .lst (List.replicate n (V.int 1) ++ List.replicate us.length (V.int 0))) n5
    refine ⟨(by show 1 ≤ sizeLine; decide), fun l6 n6 => ⟨l5, l6, _, _, rfl, rfl, (same_put n6) _ _ upd_same, upd_same, ?_, fun l7 n7 => q _ l7 (s1.trans (s2.trans (s3.trans (s4.trans (s5.trans ((same_put n6).trans (same_put n7))))))) ?_⟩⟩
    · rw [List.length_append, List.length_replicate, List.length_replicate]
      show _ + 1 ≤ _
      omega
    · rw [upd_same]
      have e : (crow n (cl.length + 1) (indC cl) cl.length).map V.int = List.replicate n (V.int 1) ++ List.replicate us.length (V.int 0) ++ [V.int 1] := by
        unfold crow
        rw [List.map_append, List.map_map, List.map_map, List.range_succ, List.map_append, ← List.append_assoc, hul]
        congr 1
        · congr 1
          · refine List.ext_getElem (by simp) fun i h1 h2 => ?_
            rw [List.getElem_map, List.getElem_replicate, List.getElem_range]
            show V.int ((indC cl cl.length i : Nat) : Int) = _
            rw [indC_out (Nat.le_refl _)]
            rfl
          · refine List.ext_getElem (by simp) fun i h1 h2 => ?_
            rw [List.getElem_map, List.getElem_replicate, List.getElem_range]
            show V.int (if i = cl.length then 1 else 0) = _
            rw [if_neg (by rw [List.length_map, List.length_range] at h1; omega)]
        · show [V.int (if cl.length = cl.length then 1 else 0)] = _
          rw [if_pos rfl]
      rw [e]
end
end Ev

/-! ## pivots_of -/
namespace Ev
open PySem PySem.Spec PyProof.Rows L2 Pm
def spPv (K : PySem.W.Frag) : Sp := fun vs H Q _ => ∃ (n : Nat) (a : Addr) (cl : List (Nat × Nat)), vs = [.int (n : Nat), .ref a] ∧ n ≤ 48 ∧ cl.length ≤ 12 ∧ ClL K H a cl ∧ (∀ e ∈ cl, 0 < e.1) ∧ ∀ H' l, Same H H' → PvL H' l (pvs n (cl.length + 1) (indC cl) cl.length) → Q (.ref l) H'
theorem scPvo : FnScope ["length", "classes", "pivots", "at", "row", "place", "one", "other_place", "other"] ["length", "classes"] (defScope (topS 15)) := ⟨rfl, rfl, rfl, by decide +kernel, rfl, by decide +kernel, by decide +kernel⟩
section
variable {P : Program} {w : World} {K : PySem.W.Frag} {mg : Str → Option Value} {base : Heap}
theorem ClL.same {H H' : Hp} {a : Addr} {cl : List (Nat × Nat)} (s : Same H H') (h : ClL K H a cl) : ClL K H' a cl := by
  obtain ⟨us, e, d⟩ := h
  exact ⟨us, s.seq e, d.mono s⟩
theorem ok_pvo (D : Def K mg "pivots_of" (topS 15) ["length", "classes"]) (C_cleared : Cal P w K mg base 3 "cleared" ["row", "pivots"] (spCl K)) (C_class_row : Cal P w K mg base 1 "class_row" ["length", "classes", "at"] (spCr K)) (C_first_used : Cal P w K mg base 1 "first_used" ["row"] (spFu K)) (C_without : Cal P w K mg base 2 "without" ["row", "place", "pivot"] (spWo K)) (nb : NB mg) : Cal P w K mg base 4 "pivots_of" ["length", "classes"] (spPv K) := by
  refine D.ok scPvo (fun vs H Q E h => ?_) (fun fa cdv A outer sh H vs Q E hr gd h => ?_)
  · obtain ⟨n, a, cl, rfl, _⟩ := h
    rfl
  · obtain ⟨n, a, cl, rfl, hn, hl, hc, hp, q⟩ := h
    refine ⟨_, (pss_cons (ps_set (i := 2) scPvo.nd rfl (.inl rfl) (pe_lst pa_nil))
      (pss_cons (ps_for PassesOwn.never rfl (pi_range1 rfl nb.at (pa_cons (pe_callB call_len_seq (by rfl) nb.at PySem.boot_len (pa_cons (pv 1) pa_nil)) pa_nil)) (pg_name (i := 3) scPvo.nd rfl (Or.inl rfl))
        (pss_cons (ps_set (i := 4) scPvo.nd rfl (.inr rfl) (pcall C_cleared (hr.mono (by omega)) gd (by rfl) (pa_cons (pcall C_class_row (hr.mono (by omega)) gd (by rfl) (pa_cons (pv 0) (pa_cons (pv 1) (pa_cons (pv 3) pa_nil)))) (pa_cons (pv 2) pa_nil))))
        (pss_cons (ps_set (i := 5) scPvo.nd rfl (.inr rfl) (pcall C_first_used (hr.mono (by omega)) gd (by rfl) (pa_cons (pe_slice sl_list (pv 4) po_none (po_some (pv 0))) pa_nil)))
        (pss_one (ps_if (pt_cmp (pc_notN (pv 5)) rfl)
          (pss_cons (ps_set (i := 4) scPvo.nd rfl (.inr rfl) (pe_ifExp (pt_cmpR op_gt (pe_ix ix_list (pv 4) (pv 5) (fun _ _ => rfl)) pe_int (nomark _)) (pv 4) (pe_lc (own := [("one", 6)]) (g := (gName 6)) (tt := tYes) (te := (tUn (rU fun i => .int (-i)) (tVar 6))) rfl scPvo.nd (pi_list (pv 4)) (blkOk_by (N := ["length", "classes", "pivots", "at", "row", "place", "one", "other_place", "other"]) (sc := defScope (topS 15)) (by decide +kernel)) (fun _ _ _ _ _ => (pg_name (i := 6) scPvo.nd rfl (Or.inl rfl))) (fun _ _ _ _ _ => pts_nil) (fun _ _ _ _ _ => (pe_un un_neg (pv 6))))))
          (pss_cons (ps_setLc (i := 2) (own := [("other_place", 7), ("other", 8)]) (g := (gTup K 2 (gCons (gName 7) (gCons (gName 8) gNil)))) (tt := tYes) (te := (tTup (tCons (tVar 7) (tCons (tCall (spWo K) [] E0 (tCons (tVar 8) (tCons (tVar 5) (tCons (tVar 4) tNil)))) tNil)))) rfl scPvo.nd rfl rfl (sw_true rfl rfl rfl rfl) (pi_list (pv 2)) (blkOk_by (N := ["length", "classes", "pivots", "at", "row", "place", "one", "other_place", "other"]) (sc := defScope (topS 15)) (by decide +kernel)) (fun _ _ _ _ _ => (pg_tup rfl (pgs_cons (pg_name (i := 7) scPvo.nd rfl (Or.inl rfl)) (pgs_cons (pg_name (i := 8) scPvo.nd rfl (Or.inl rfl)) pgs_nil)))) (fun _ _ _ _ _ => pts_nil) (fun _ _ _ _ _ => (pe_tup (pa_cons (pv 7) (pa_cons (pcall C_without (hr.mono (by omega)) gd (by rfl) (pa_cons (pv 8) (pa_cons (pv 5) (pa_cons (pv 4) pa_nil)))) pa_nil)))))
          (pss_one (ps_expr (pe_bm PySem.F.plainAttrs_list PySem.F.slot_list_append PySem.F.type_list_append mt_append (pv 2) (pa_cons (pe_tup (pa_cons (pv 5) (pa_cons (pv 4) pa_nil))) pa_nil))))))
          pss_nil)))))
      (pss_one (ps_ret (pv 2))))), ?_⟩
    have sl := sizeLine_eq
    obtain ⟨us, hu, hd⟩ := id hc
    have hul := daAll_len hd
    rw [List.length_map] at hul
    refine ⟨(by show 0 ≤ sizeLine; omega), fun l0 n0 => ?_⟩
    have s0 := same_put (o := .lst []) n0
    refine ⟨_, rfl, a, us, rfl, .inl (s0.seq hu), _, rfl, by omega, by omega, ?_⟩
    rw [Int.toNat_natCast]
    refine for_range (lo := 0) (n := us.length) (fun i σ' H' => ∃ (l : Addr) (y3 y4 y5 y6 y7 y8 : Option V), σ' = [some (.int (n : Nat)), some (.ref a), some (.ref l), y3, y4, y5, y6, y7, y8] ∧ Same H H' ∧ PvL H' l (pvs n (cl.length + 1) (indC cl) i)) ⟨l0, _, _, _, _, _, _, rfl, s0, [], upd_same, trivial⟩ ?_ ?_
    · rintro i σ' H1 hi ⟨l, y3, y4, y5, y6, y7, y8, rfl, s1, hpv⟩
      have hil : i < cl.length := by omega
      obtain ⟨J, I⟩ := pvs_inv (n := n) (M := cl.length + 1) (ind := indC cl) (k := i) (by omega)
      have ck := pinv_clrOk I (indC_le cl) hl (by omega) (Nat.le_refl i) (by omega)
      have bv := pinv_bv I (indC_le cl) hl (by omega)
      obtain ⟨C, cz, _⟩ := I.clr (Nat.le_refl i) (by omega)
      have bc := I.bound_clr (indC_le cl) (by have := I.len_k; omega) (Nat.le_refl i) (by omega) C cz
      have bb := fun j => comb_bound C.comb (indC_le cl) bc (by omega) j C.len
      have es : pvs n (cl.length + 1) (indC cl) (i + 1) = pvs1 n (cl.length + 1) (indC cl) (pvs n (cl.length + 1) (indC cl) i) i := rfl
      unfold pvs1 at es
      refine ⟨_, rfl, _, rfl, _, rfl, n, i, a, cl, by rw [Int.zero_add]; rfl, by omega, by omega, hil, hc.same s1, hp, fun H2 c s2 h2 => ⟨_, rfl, c, l, _, _, rfl, h2, by rw [crow_len]; omega, hpv.same s2, ck, fun H3 d s3 h3 => ?_⟩⟩
      generalize pvs n (cl.length + 1) (indC cl) i = qs at I ck bv C cz bc bb hpv es h3
      generalize Pm.clr (crow n (cl.length + 1) (indC cl) i) qs = v at C cz bc bb es h3
      have hvl := C.len
      have hq12 : qs.length ≤ 12 := by have := I.len_k; have := I.len; omega
      dsimp only [gName, tSeq, tAsg]
      refine ⟨_, rfl, ?_⟩
      dsimp only [tNoPart]
      refine ⟨_, rfl, _, rfl, d, _, rfl, .inl (.inl h3), fun p np => ?_⟩
      rw [cutV_to, ← List.map_take]
      have sp := same_put (o := .lst ((v.take n).map V.int)) np
      refine ⟨p, v.take n, rfl, .inl (.inl upd_same), fun H4 s4 => ?_⟩
      have s14 := s2.trans (s3.trans (sp.trans s4))
      refine ⟨_, rfl, _, rfl, ?_⟩
      rw [optI_not]
      cases hf : fst0 (v.take n) with
      | none =>
        rw [hf] at es
        refine iteF ⟨l, _, _, _, _, _, _, rfl, s1.trans s14, ?_⟩
        rw [es]
        exact hpv.same s14
      | some pl =>
        rw [hf] at es
        dsimp only at es
        obtain ⟨f1, f2, _⟩ := fst0_some hf
        rw [List.length_take] at f1
        rw [gd_take (by omega)] at f2
        refine iteT ?_
        have hd4 := (sp.trans s4) _ _ h3
        refine ife_cut (fun z H' => ∃ e, z = .ref e ∧ Same H4 H' ∧ H' e = some (.lst ((sgn v pl).map V.int))) ?_ (fun k => ?_)
        · rintro _ H5 ⟨e, rfl, s5, h5⟩
          dsimp only [gName, tSeq, tAsg, optI]
          obtain ⟨ws, hl5, hpu⟩ := hpv.same (s14.trans s5)
          have hwl := hpu.len
          have hs5 := (s1.trans s14).trans s5
          have up := sgn_pos f2
          have ul : (sgn v pl).length = v.length := sgn_len
          have b800 : (2 : Nat) ^ 49 < 2 ^ 800 := by decide +kernel
          have b49 := bn49
          have ub : ∀ i, (Pm.gd (sgn v pl) i).natAbs < 2 ^ 800 := fun i => by rw [sgn_abs]; have := bb i; omega
          have uz : ∀ q ∈ qs, Pm.gd (sgn v pl) q.1 = 0 := fun q hq => sgn_zero (cz q hq)
          have une : sgn v pl ≠ [] := fun z => by rw [z] at ul; have : ([] : List Int).length = 0 := rfl; omega
          clear hd4 sp s4 h3
          generalize sgn v pl = u at h5 up ul ub uz une es
          have hrow : ∀ q ∈ qs, q.2.length = v.length := fun q hq => (I.row q hq).len.trans hvl.symm
          have fne : ∀ k, ∀ q ∈ (qs.take k).map (fun q => (q.1, wth q.2 u pl)), q.2 ≠ [] := fun k q hq z => by
            obtain ⟨q0, h0, rfl⟩ := List.mem_map.mp hq
            have := wth_len (pl := pl) (hrow q0 (List.mem_of_mem_take h0)) ul
            rw [show wth q0.2 u pl = [] from z] at this
            have : ([] : List Int).length = 0 := rfl
            omega
          refine ⟨_, rfl, l, rfl, ⟨_, .inl (.inl hl5)⟩, fun D nD => ?_⟩
          refine lc_list (K := K) (a := l) (xs := ws) (fun k H' => Same H5 H' ∧ ∃ ws', H' D = some (.lst ws') ∧ PvU H' ws' ((qs.take k).map fun q => (q.1, wth q.2 u pl))) ⟨same_put nD, [], upd_same, by rw [List.take_zero]; trivial⟩ (fun k H' _ ⟨s', _⟩ => .inl (.inl (s' _ _ hl5))) ?_ ?_
          · rintro k x H6 hk ⟨s6, ws', eD, pw⟩
            obtain ⟨hkq, t, b, rfl, ht, hb⟩ := (hpu.same s6).at hk
            have Q0 := I.row _ (List.getElem_mem hkq)
            have uz0 := uz _ (List.getElem_mem hkq)
            refine ⟨t, _, rfl, .inl (.inl ht), rfl, _, _, rfl, _, _, rfl, rfl, rfl, ?_⟩
            refine ⟨_, rfl, _, rfl, _, rfl, _, rfl, b, e, qs[k].2, u, pl, qs[k].1, rfl, .inl (.inl hb), .inl (.inl (s6 _ _ h5)), (hrow _ (List.getElem_mem hkq)).trans ul.symm, by rw [hrow _ (List.getElem_mem hkq)]; omega, by rw [hrow _ (List.getElem_mem hkq)]; omega, by rw [hrow _ (List.getElem_mem hkq)]; have := Q0.pl; omega, ?_, fun i => by have := bv _ (List.getElem_mem hkq) i; omega, ub, fun H7 c s7 h7 => ⟨(by show 2 ≤ sizeLine; decide), fun t' nt' => ?_⟩⟩
            · rw [uz0, Int.zero_mul, Int.sub_zero]
              exact Int.ne_of_gt (Int.mul_pos Q0.pos up)
            · have st := same_put (o := .tup [.int (qs[k].1 : Nat), .ref c]) nt'
              have e8 := (s7.trans st) _ _ eD
              have p8 := pw.same (s7.trans st)
              have l8 := p8.len
              rw [List.length_map, List.length_take] at l8
              refine ⟨ws', e8, by omega, fun b' o' e' => ?_, ws' ++ [.ref t'], upd_same, ?_⟩
              · rw [upd_ne (ne_of_none e' nD)]
                exact (s7.trans st) _ _ (s6 _ _ e')
              · rw [List.take_succ_eq_append_getElem hkq, List.map_append]
                refine PvU.snoc (PvU.put e8 (fun q hq => p8.ne_row (fne k q hq)) p8) ⟨t', c, rfl, ?_, ?_⟩
                · rw [upd_ne (ne_of_none (s7 _ _ eD) nt').symm]
                  exact upd_same
                · rw [upd_ne fun z => ?_]
                  · exact st _ _ h7
                  · have h8 := (st _ _ h7).symm.trans ((congrArg (upd H7 t' (.tup [.int (qs[k].1 : Nat), .ref c])) z).trans e8)
                    injection h8 with h8
                    injection h8 with h8
                    refine p8.ne_row (fun z2 => ?_) h8
                    have := wth_len (pl := pl) (hrow _ (List.getElem_mem hkq)) ul
                    rw [z2] at this
                    have : ([] : List Int).length = 0 := rfl
                    omega
          · rintro H6 ⟨s6, ws', eD, pw⟩
            rw [hwl, List.take_length] at pw
            have pl6 := pw.len
            rw [List.length_map] at pl6
            refine ⟨_, rfl, .inl ⟨rfl, ws', .inl (.inl eD)⟩, _, rfl, _, rfl, (by show 2 ≤ sizeLine; decide), fun t' nt' => ?_⟩
            have st := same_put (o := .tup [.int (pl : Nat), .ref e]) nt'
            have e8 := st _ _ eD
            have p8 := pw.same st
            refine ⟨D, ws', .ref t', rfl, rfl, e8, by have := I.len_k; have := I.len; omega, D, _, _, _, _, _, _, rfl, fun b' o' e' => ?_, ws' ++ [.ref t'], upd_same, ?_⟩
            · rw [upd_ne (ne_of_none (hs5 _ _ e') nD)]
              exact st _ _ (s6 _ _ (hs5 _ _ e'))
            · rw [es]
              refine PvU.snoc (PvU.put e8 (fun q hq => p8.ne_row (by have := fne qs.length; rw [List.take_length] at this; exact this q hq)) p8) ⟨t', e, rfl, ?_, ?_⟩
              · rw [upd_ne (ne_of_none eD nt').symm]
                exact upd_same
              · rw [upd_ne fun z => ?_]
                · exact st _ _ (s6 _ _ h5)
                · have h8 := (st _ _ (s6 _ _ h5)).symm.trans ((congrArg (upd H6 t' (.tup [.int (pl : Nat), .ref e])) z).trans e8)
                  injection h8 with h8
                  injection h8 with h8
                  exact p8.ne_row une h8
        · refine ⟨_, rfl, _, rfl, d, _, _, _, rfl, rfl, .inl (.inl hd4), atI_gd (by omega), _, _, rfl, rfl, _, rfl, ite2 (fun e => ?_) (fun e => ?_)⟩
          · refine ⟨_, rfl, k _ _ ⟨d, rfl, Same.rfl', ?_⟩⟩
            unfold sgn
            rw [if_pos (of_decide_eq_true e)]
            exact hd4
          · refine lcI_list (a := d) (xs := v.map V.int) (ys := (v.map fun x => -x).map V.int) (by rw [List.length_map, List.length_map, List.length_map]) (fun Q hq => ⟨_, rfl, hq⟩) (.inl (.inl hd4)) (by rw [List.length_map]; omega) (fun k x z hx hz H' R s' hR => ?_) (fun H5 D s5 nD eD => k _ _ ⟨D, rfl, s5, ?_⟩)
            · obtain ⟨hkl, rfl⟩ := map_int_at hx
              obtain ⟨hkw, rfl⟩ := map_int_at hz
              rw [gd_map (fun x => -x) rfl] at hR
              exact ⟨rfl, _, rfl, _, rfl, hR _ Same.rfl'⟩
            · unfold sgn
              rw [if_neg fun h => e (decide_eq_true h)]
              exact eD
    · rintro σ' H1 ⟨l, y3, y4, y5, y6, y7, y8, rfl, s1, hpv⟩
      rw [hul] at hpv
      exact ⟨_, rfl, q H1 l s1 hpv⟩
end
end Ev

/-! ## the law's classes and ranks -/
namespace Ev
open PySem PySem.Spec PyProof.Rows L2 Pm
/-- samplers, as a tuple or as a list -/
def SamA (K : PySem.W.Frag) (H : Hp) (x : V) (S : List (Nat × Nat)) : Prop := Da K H x (.tuple (S.map cDq))
def spMkQ (K : PySem.W.Frag) : Sp := fun vs H Q _ => ∃ (n : Nat) (x : V) (S : List (Nat × Nat)), vs = [.int (n : Nat), x] ∧ 1 ≤ n ∧ S.length ≤ 1000 ∧ Da K H x (.tuple (S.map cDq)) ∧ ∀ H' a us, Same H H' → H a = none → H' a = some (.lst us) → DaAll K H' us ((clsOf n S).map cDq) → Q (.ref a) H'
def spLcQ (K : PySem.W.Frag) : Sp := fun vs H Q _ => ∃ (a b : Addr) (r p : List Int) (c : Nat), vs = [.ref a, .ref b, .int (c : Nat)] ∧ SqL K H a (r.map V.int) ∧ SqL K H b (p.map V.int) ∧ r.length = p.length ∧ r.length ≤ 1000 ∧ c < r.length ∧ (∀ i, (Pm.gd r i).natAbs < 2 ^ 70) ∧ (∀ i, (Pm.gd p i).natAbs < 2 ^ 70) ∧ ∀ H' d, Same H H' → H d = none → H' d = some (.lst ((lcl r p c).map V.int)) → Q (.ref d) H'
def spRkQ (K : PySem.W.Frag) : Sp := fun vs H Q _ => ∃ (l : Addr) (rs : List (List Int)) (n : Nat), vs = [.ref l] ∧ RwL H l rs ∧ 1 ≤ n ∧ n ≤ 1000 ∧ 1 ≤ rs.length ∧ rs.length ≤ 100 ∧ (∀ r ∈ rs, Rd n r) ∧ ∀ H', Same H H' → Q (.int (lrk (List.range n) rs : Nat)) H'
def spCnQ (K : PySem.W.Frag) : Sp := fun vs H Q _ => ∃ (n : Nat) (x : V) (S : List (Nat × Nat)), vs = [.int (n : Nat), x] ∧ 1 ≤ n ∧ n ≤ 48 ∧ 1 ≤ S.length ∧ S.length ≤ 12 ∧ Da K H x (.tuple (S.map cDq)) ∧ ∀ H', Same H H' → Q (.bl (decide (fst0 ((rst n S.length (indC (clsOf n S))).take n) = none))) H'
theorem scMkQ : FnScope ["_law_count", "_law_some", "_law_found", "_law_period", "_law_start", "_law_step"] ["_law_count", "_law_some"] (defScope (topS 27)) := ⟨rfl, rfl, rfl, by decide +kernel, rfl, by decide +kernel, by decide +kernel⟩
section
variable {P : Program} {w : World} {K : PySem.W.Frag} {mg : Str → Option Value} {base : Heap}
theorem ok_mkQ (D : Def K mg "_law_marks" (topS 27) ["_law_count", "_law_some"]) (C__law_gcd : Cal P w K mg base 1 "_law_gcd" ["_law_one", "_law_other"] spGcd) (nb : NB mg) : Cal P w K mg base 2 "_law_marks" ["_law_count", "_law_some"] (spMkQ K) := by
  refine D.ok scMkQ (fun vs H Q E h => ?_) (fun fa cdv A outer sh H vs Q E hr gd h => ?_)
  · obtain ⟨n, x, S, rfl, _⟩ := h
    rfl
  · obtain ⟨n, x, S, rfl, hn, hS, hx, q⟩ := h
    refine ⟨_, (pss_cons (ps_set (i := 2) scMkQ.nd rfl (.inl rfl) (pe_lst pa_nil))
      (pss_cons (ps_for PassesOwn.never rfl (pi_tup (pv 1)) (pg_tup rfl (pgs_cons (pg_name (i := 3) scMkQ.nd rfl (Or.inl rfl)) (pgs_cons (pg_name (i := 4) scMkQ.nd rfl (Or.inl rfl)) pgs_nil)))
        (pss_cons (ps_set (i := 5) scMkQ.nd rfl (.inl rfl) (pcall C__law_gcd (hr.mono (by omega)) gd (by rfl) (pa_cons (pv 3) (pa_cons (pv 0) pa_nil))))
        (pss_one (ps_expr (pe_bm PySem.F.plainAttrs_list PySem.F.slot_list_append PySem.F.type_list_append mt_append (pv 2) (pa_cons (pe_tup (pa_cons (pv 5) (pa_cons (pe_op op_mod (pv 4) (pv 5)) pa_nil))) pa_nil))))))
      (pss_one (ps_ret (pv 2))))), ?_⟩
    have sl := sizeLine_eq
    obtain ⟨a, xs, rfl, ht, hall⟩ : ∃ a xs, x = .ref a ∧ SqT K H a xs ∧ DaAll K H xs (S.map cDq) := by
      cases hx with
      | @tup a xs _ ht hall => exact ⟨a, xs, rfl, ht, hall⟩
    have hxl := daAll_len hall
    rw [List.length_map] at hxl
    refine ⟨(by show 0 ≤ sizeLine; omega), fun l nl => ?_⟩
    refine ⟨_, rfl, a, rfl, ⟨xs, seqT_mono (same_put nl) ht⟩, for_tup (K := K) (a := a) (xs := xs) (fun k σ' H' => ∃ y3 y4 y5 : Option V, σ' = [some (.int (n : Nat)), some (.ref a), some (.ref l), y3, y4, y5] ∧ Same H H' ∧ ∃ us, H' l = some (.lst us) ∧ DaAll K H' us ((clsOf n (S.take k)).map cDq)) ⟨_, _, _, rfl, same_put nl, [], upd_same, by rw [List.take_zero]; exact .nil⟩ (fun k σ' H' _ ⟨_, _, _, _, s', _⟩ => seqT_mono s' ht) ?_ ?_⟩
    · rintro k v σ' H1 hk ⟨y3, y4, y5, rfl, s1, us, hu, hd⟩
      obtain ⟨d, hd1, hvd⟩ := daAll_at (hall.mono s1) hk
      have hkS : k < S.length := by
        have := (List.getElem?_eq_some_iff.mp hk).1
        omega
      rw [List.getElem?_map, List.getElem?_eq_getElem hkS] at hd1
      cases hd1
      obtain ⟨b, rfl, hb⟩ := da_cDq hvd
      have hg := Nat.gcd_pos_of_pos_right S[k].1 hn
      have hul := daAll_len hd
      rw [List.length_map, clsOf_len, List.length_take] at hul
      refine ⟨b, _, rfl, hb, rfl, _, _, rfl, _, _, rfl, rfl, ?_⟩
      refine ⟨_, rfl, _, rfl, S[k].1, n, rfl, ?_⟩
      refine ⟨_, rfl, .inl ⟨rfl, us, .inl (.inl hu)⟩, _, rfl, _, rfl, _, rfl, _, _, rfl, rfl, (by show (0 : Int) < ((Nat.gcd S[k].1 n : Nat) : Int); omega), (by show 2 ≤ sizeLine; decide), fun t nt => ?_⟩
      have st := same_put (o := .tup [.int ((Nat.gcd S[k].1 n : Nat) : Int), .int (((S[k].2 : Nat) : Int) % ((Nat.gcd S[k].1 n : Nat) : Int))]) nt
      have e8 := st _ _ hu
      have kj : Kj (upd H1 t (.tup [.int ((Nat.gcd S[k].1 n : Nat) : Int), .int (((S[k].2 : Nat) : Int) % ((Nat.gcd S[k].1 n : Nat) : Int))])) (upd (upd H1 t (.tup [.int ((Nat.gcd S[k].1 n : Nat) : Int), .int (((S[k].2 : Nat) : Int) % ((Nat.gcd S[k].1 n : Nat) : Int))])) l (.lst (us ++ [.ref t]))) := Kj.putL e8
      refine ⟨l, us, .ref t, rfl, rfl, e8, by omega, _, _, _, rfl, fun b' o' e' => ?_, us ++ [.ref t], upd_same, ?_⟩
      · rw [upd_ne (ne_of_none e' nl)]
        exact st _ _ (s1 _ _ e')
      · have e1 : (clsOf n (S.take (k + 1))).map cDq = (clsOf n (S.take k)).map cDq ++ [cDq (Nat.gcd S[k].1 n, S[k].2 % Nat.gcd S[k].1 n)] := by
          unfold clsOf
          rw [List.take_succ_eq_append_getElem hkS, List.map_append, List.map_append]
          rfl
        rw [e1]
        refine da_app (DaAll.kj kj (tup_cDq _) (hd.mono st)) (.cons ?_ .nil)
        refine .tup (.inl (.inl (kj _ _ upd_same nofun nofun))) (.cons (.int _) (.cons ?_ .nil))
        rw [Int.natCast_emod]
        exact .int _
    · rintro σ' H1 ⟨y3, y4, y5, rfl, s1, us, hu, hd⟩
      rw [hxl, List.take_length] at hd
      exact ⟨_, rfl, q H1 l us s1 nl hu hd⟩
end
end Ev

/-! ## Weights, by the law's look -/
namespace Ev
open PySem PySem.Spec PyProof.Rows L2 Pm
def intB (d : PyData) : Bool := match d with
  | .int _ => true
  | _ => false
def toFr (d : PyData) : Int × Int := match d with
  | .tuple [.int a, .int b] => (a, b)
  | _ => (0, 1)
def isFr (d : PyData) : Bool := match d with
  | .tuple [.int a, .int b] => decide (0 < b) && decide (Nat.gcd a.natAbs b.natAbs = 1)
  | _ => false
theorem isFr_is {d : PyData} (h : isFr d = true) : ∃ e : Int × Int, d = frD e ∧ toFr d = e ∧ 0 < e.2 ∧ Nat.gcd e.1.natAbs e.2.natAbs = 1 := by
  unfold isFr at h
  split at h
  · rw [Bool.and_eq_true, decide_eq_true_eq, decide_eq_true_eq] at h
    exact ⟨_, rfl, rfl, h.1, h.2⟩
  · cases h
def accW (t : Nat) : List ((Nat × Nat) × (Int × Int)) → Int × Int → Int × Int
  | [], p => p
  | x :: l, p => accW t l (if t % x.1.1 = x.1.2 then (p.1 * x.2.2 + x.2.1 * (x.1.1 : Int) * p.2, p.2 * x.2.2) else p)
def onceW (cl : List (Nat × Nat)) (fs : List (Int × Int)) (t : Nat) : Bool := decide ((accW t (cl.zip fs) (0, 1)).1 = (accW t (cl.zip fs) (0, 1)).2)
def isWt (n : Nat) (cl : List (Nat × Nat)) (d : PyData) : Bool := match d with
  | .tuple ds => decide (ds.length = cl.length) && (ds.all isFr && (List.range n).all (onceW cl (ds.map toFr)))
  | _ => false
theorem accW_app (t : Nat) : ∀ (l : List ((Nat × Nat) × (Int × Int))) (p : Int × Int) (x : (Nat × Nat) × (Int × Int)), accW t (l ++ [x]) p = if t % x.1.1 = x.1.2 then ((accW t l p).1 * x.2.2 + x.2.1 * (x.1.1 : Int) * (accW t l p).2, (accW t l p).2 * x.2.2) else accW t l p
  | [], p, x => rfl
  | y :: l, p, x => by rw [List.cons_append, accW, accW, accW_app t l]
theorem red_mul (a : Int) {b : Int} (hb : 0 < b) : (red a b).1 * b = a * (red a b).2 ∧ 0 < (red a b).2 ∧ Nat.gcd (red a b).1.natAbs (red a b).2.natAbs = 1 := by
  unfold red
  have hg : 0 < Nat.gcd b.natAbs a.natAbs := Nat.gcd_pos_of_pos_left _ (by omega)
  have da : ((Nat.gcd b.natAbs a.natAbs : Nat) : Int) ∣ a := Int.ofNat_dvd_left.mpr (Nat.gcd_dvd_right ..)
  have db : ((Nat.gcd b.natAbs a.natAbs : Nat) : Int) ∣ b := Int.ofNat_dvd_left.mpr (Nat.gcd_dvd_left ..)
  have cop := Nat.gcd_div_gcd_div_gcd_of_pos_left (m := a.natAbs) (show 0 < b.natAbs by omega)
  generalize hG : Nat.gcd b.natAbs a.natAbs = g at hg da db cop
  obtain ⟨x, rfl⟩ := da
  obtain ⟨y, rfl⟩ := db
  have g0 : (g : Int) ≠ 0 := by omega
  dsimp only
  rw [Int.mul_ediv_cancel_left _ g0, Int.mul_ediv_cancel_left _ g0]
  refine ⟨by grind, Int.pos_of_mul_pos_right hb (by omega), ?_⟩
  have e1 : ((g : Int) * x).natAbs / g = x.natAbs := by rw [Int.natAbs_mul, Int.natAbs_natCast, Nat.mul_div_cancel_left _ hg]
  have e2 : ((g : Int) * y).natAbs / g = y.natAbs := by rw [Int.natAbs_mul, Int.natAbs_natCast, Nat.mul_div_cancel_left _ hg]
  rw [e1, e2] at cop
  rw [Nat.gcd_comm]
  exact cop
end Ev
namespace Ev
open PySem PySem.Spec PyProof.Rows L2 Pm
theorem accW_bound (t : Nat) : ∀ {k : Nat} {l : List ((Nat × Nat) × (Int × Int))}, (∀ x ∈ l, x.1.1 ≤ 48 ∧ x.2.1.natAbs < 2 ^ 600 ∧ x.2.2.natAbs < 2 ^ 600) → l.length = k → (accW t l (0, 1)).1.natAbs < 2 ^ (700 * k + 2) ∧ (accW t l (0, 1)).2.natAbs < 2 ^ (700 * k + 2)
  | 0, [], _, _ => ⟨by show 0 < _; exact Nat.pow_pos (by decide), by show 1 < 2 ^ 2; decide⟩
  | 0, _ :: _, _, h => by cases h
  | k + 1, l, hl, h => by
    have hne : l ≠ [] := fun z => by rw [z] at h; cases h
    have e := List.dropLast_concat_getLast hne
    have hd : l.dropLast.length = k := by rw [List.length_dropLast]; omega
    obtain ⟨b1, b2⟩ := accW_bound t (l := l.dropLast) (fun x hx => hl x (List.dropLast_subset _ hx)) hd
    obtain ⟨m1, m2, m3⟩ := hl _ (List.getLast_mem hne)
    rw [← e, accW_app]
    have p0 : 700 * (k + 1) + 2 = 700 * k + 2 + 700 := by omega
    have p1 : (2 : Nat) ^ (700 * (k + 1) + 2) = 2 ^ (700 * k + 2) * 2 ^ 700 := by rw [p0, Nat.pow_add]
    have c0 : 0 < (2 : Nat) ^ (700 * k + 2) := Nat.pow_pos (by decide)
    generalize (2 : Nat) ^ (700 * k + 2) = X at b1 b2 p1 c0
    rw [p1]
    have f1 : (2 : Nat) ^ 700 = 2 ^ 600 * 2 ^ 100 := by rw [← Nat.pow_add]
    have f2 : (48 : Nat) + 1 < 2 ^ 100 := by decide +kernel
    have f3 : 0 < (2 : Nat) ^ 600 := Nat.pow_pos (by decide)
    generalize (2 : Nat) ^ 600 = Y at m2 m3 f1 f3
    generalize (2 : Nat) ^ 100 = Z at f1 f2
    rw [f1]
    have xy : 0 < X * Y := Nat.mul_pos c0 f3
    have big : X * (Y * Z) = X * Y * Z := (Nat.mul_assoc ..).symm
    have g1 : X * Y * 49 < X * Y * Z := Nat.mul_lt_mul_of_pos_left (by omega) xy
    split
    · refine ⟨?_, ?_⟩
      · show ((accW t l.dropLast (0, 1)).1 * (l.getLast hne).2.2 + (l.getLast hne).2.1 * ((l.getLast hne).1.1 : Int) * (accW t l.dropLast (0, 1)).2).natAbs < _
        have s1 := Int.natAbs_add_le ((accW t l.dropLast (0, 1)).1 * (l.getLast hne).2.2) ((l.getLast hne).2.1 * ((l.getLast hne).1.1 : Int) * (accW t l.dropLast (0, 1)).2)
        rw [Int.natAbs_mul, Int.natAbs_mul, Int.natAbs_mul, Int.natAbs_natCast] at s1
        have t1 := Nat.mul_lt_mul'' b1 m3
        have t2 : (l.getLast hne).2.1.natAbs * (l.getLast hne).1.1 * (accW t l.dropLast (0, 1)).2.natAbs ≤ Y * 48 * X := Nat.mul_le_mul (Nat.mul_le_mul (by omega) m1) (by omega)
        have t3 : Y * 48 * X = X * Y * 48 := by grind
        omega
      · show ((accW t l.dropLast (0, 1)).2 * (l.getLast hne).2.2).natAbs < _
        rw [Int.natAbs_mul]
        have t1 := Nat.mul_lt_mul'' b2 m3
        have : X * Y * 1 ≤ X * Y * 49 := Nat.mul_le_mul_left _ (by decide)
        omega
    · have : X * 1 ≤ X * Y := Nat.mul_le_mul_left _ f3
      omega
end Ev

/-! ## Weaker promises; numbers from 0 -/
namespace Ev
open PySem PySem.Spec PyProof.Rows L2
theorem FnG.imp {P : Program} {w : World} {K : PySem.W.Frag} {mg : Str → Option Value} {base : Heap} {CX : CXT} {k : Nat} {f : Addr} {fd : FuncData} {ps : List Str} {sp sp' : Sp} (F : FnG P w K mg base CX k f fd ps sp)
    (h : ∀ vs H Q E, sp' vs H Q E → sp vs H Q E) : FnG P w K mg base CX k f fd ps sp' :=
  ⟨fun vs H Q E z => F.many vs H Q E (h _ _ _ _ z), fun A o s H args us vs Q E hr gd e b v z => F.go A o s H args us vs Q E hr gd e b v (h _ _ _ _ z)⟩
theorem Cal.imp {P : Program} {w : World} {K : PySem.W.Frag} {mg : Str → Option Value} {base : Heap} {k : Nat} {x : Str} {ps : List Str} {sp sp' : Sp} (C : Cal P w K mg base k x ps sp) (h : ∀ vs H Q E, sp' vs H Q E → sp vs H Q E) : Cal P w K mg base k x ps sp' := by
  obtain ⟨f, fd, F, b, m, v⟩ := C.ex
  exact ⟨f, fd, F.imp h, b, m, v⟩
theorem nn_mem : ∀ {is : List It} {i : It}, Its.nn is → i ∈ is → It.nn i
  | j :: is, i, h, m => by
    rw [Its.nn] at h
    rcases List.mem_cons.mp m with rfl | m
    · exact h.1
    · exact nn_mem h.2 m
theorem nn_of : ∀ {is : List It}, (∀ i ∈ is, It.nn i) → Its.nn is
  | [], _ => by
    rw [Its.nn]
    trivial
  | i :: is, h => by
    rw [Its.nn]
    exact ⟨h i (List.mem_cons_self ..), nn_of fun j hj => h j (List.mem_cons_of_mem _ hj)⟩
theorem nn_app {is js : List It} (h : Its.nn is) (k : Its.nn js) : Its.nn (is ++ js) := nn_of fun i hi => by
  rcases List.mem_append.mp hi with z | z
  · exact nn_mem h z
  · exact nn_mem k z
end Ev

/-! ## The items from a tick on -/
namespace Ev
open PySem PySem.Spec PyProof.Rows L2
mutual
def It.frm : It → Nat → List It
  | .line x t, s => [.line x (t - (s : Nat))]
  | .loop r is, s => if s % (Its.w is).length = 0 then [.loop (r - ((s / (Its.w is).length : Nat) : Int)) is] else Its.frm is (s % (Its.w is).length) ++ [.loop (r - ((s / (Its.w is).length : Nat) : Int) - 1) is]
def Its.frm : List It → Nat → List It
  | [], _ => []
  | i :: is, s => if s < (It.w i).length then It.frm i s ++ is else Its.frm is (s - (It.w i).length)
end
theorem flat_drop (l : List Str) : ∀ q r : Nat, q ≤ r → ((List.replicate r l).flatten).drop (q * l.length) = (List.replicate (r - q) l).flatten
  | 0, r, _ => by rw [Nat.zero_mul, List.drop_zero, Nat.sub_zero]
  | q + 1, 0, h => absurd h (Nat.not_succ_le_zero q)
  | q + 1, r + 1, h => by
    rw [List.replicate_succ, List.flatten_cons, Nat.succ_mul, Nat.add_comm, ← List.drop_drop, List.drop_left, flat_drop l q r (Nat.le_of_succ_le_succ h), Nat.add_sub_add_right]
theorem flat_drop2 {l : List Str} {s r : Nat} (hl : 0 < l.length) (h : s < r * l.length) : ((List.replicate r l).flatten).drop s = l.drop (s % l.length) ++ (List.replicate (r - s / l.length - 1) l).flatten := by
  have hq : s / l.length < r := (Nat.div_lt_iff_lt_mul hl).mpr h
  have e : s = s / l.length * l.length + s % l.length := by
    rw [Nat.mul_comm]
    exact (Nat.div_add_mod s l.length).symm
  have hm := Nat.mod_lt s hl
  conv => lhs; rw [e]
  rw [← List.drop_drop, flat_drop l _ _ (Nat.le_of_lt hq)]
  obtain ⟨k, hk⟩ : ∃ k, r - s / l.length = k + 1 := ⟨r - s / l.length - 1, by omega⟩
  rw [hk, List.replicate_succ, List.flatten_cons, List.drop_append_of_le_length (Nat.le_of_lt hm), Nat.add_sub_cancel]
theorem w_loop_len {r : Int} {is : List It} : (It.w (.loop r is)).length = r.toNat * (Its.w is).length := by
  rw [It.w, len_flat, Nat.mul_comm]
mutual
theorem It.frm_w : ∀ (i : It) (s : Nat), It.ps i → s < (It.w i).length → Its.w (It.frm i s) = (It.w i).drop s
  | .line x t, s, hp, hs => by
    rw [It.w, List.length_replicate] at hs
    rw [It.frm, w_one, It.w, It.w, List.drop_replicate]
    congr 1
    omega
  | .loop r is, s, hp, hs => by
    rw [It.ps] at hp
    have hL := Its.w_pos is hp.2.1 hp.2.2
    rw [w_loop_len] at hs
    have hq : s / (Its.w is).length < r.toNat := (Nat.div_lt_iff_lt_mul hL).mpr hs
    have hd : It.w (.loop r is) = (List.replicate r.toNat (Its.w is)).flatten := by rw [It.w]
    rw [hd, flat_drop2 hL hs, It.frm]
    by_cases e : s % (Its.w is).length = 0
    · rw [if_pos e, w_one, It.w, e, List.drop_zero]
      obtain ⟨k, hk⟩ : ∃ k, r.toNat - s / (Its.w is).length = k + 1 := ⟨r.toNat - s / (Its.w is).length - 1, by omega⟩
      rw [show (r - ((s / (Its.w is).length : Nat) : Int)).toNat = k + 1 by omega, show r.toNat - s / (Its.w is).length - 1 = k by omega, List.replicate_succ, List.flatten_cons]
    · rw [if_neg e, w_app, w_one, It.w, Its.frm_w is _ hp.2.2]
      congr 3
      omega
theorem Its.frm_w : ∀ (is : List It) (s : Nat), Its.ps is → Its.w (Its.frm is s) = (Its.w is).drop s
  | [], s, _ => by
    rw [Its.frm, Its.w, List.drop_nil]
  | i :: is, s, hp => by
    rw [Its.ps] at hp
    rw [Its.frm, Its.w]
    by_cases e : s < (It.w i).length
    · rw [if_pos e, w_app, It.frm_w i s hp.1 e, List.drop_append_of_le_length (Nat.le_of_lt e)]
    · rw [if_neg e, Its.frm_w is _ hp.2, List.drop_append, show (It.w i).drop s = [] from List.drop_of_length_le (by omega), List.nil_append]
end
theorem frm_sub {t s B : Nat} {x : Int} (h : 0 ≤ x ∧ x < (2 ^ B : Nat)) (hs : s ≤ x.toNat) : 0 ≤ x - (s : Nat) ∧ x - (s : Nat) < (2 ^ B : Nat) := by
  omega
mutual
theorem It.frm_ok {B : Nat} : ∀ (n : Nat) (i : It) (s : Nat), It.ps i → s < (It.w i).length → Okp B n i → ∀ j ∈ It.frm i s, Okp B n j
  | n, .line x t, s, hp, hs, ho, j, hj => by
    rw [It.w, List.length_replicate] at hs
    rw [It.frm, List.mem_singleton] at hj
    subst hj
    have ho := okp_line.mp ho
    exact okp_line.mpr ⟨by omega, by omega⟩
  | 0, .loop r is, s, hp, hs, ho, j, hj => ho.elim
  | n + 1, .loop r is, s, hp, hs, ho, j, hj => by
    obtain ⟨h0, h1, h2⟩ : 0 ≤ r ∧ r < (2 ^ B : Nat) ∧ ∀ i ∈ is, Okp B n i := ho
    rw [It.ps] at hp
    have hL := Its.w_pos is hp.2.1 hp.2.2
    rw [w_loop_len] at hs
    have hq : s / (Its.w is).length < r.toNat := (Nat.div_lt_iff_lt_mul hL).mpr hs
    rw [It.frm] at hj
    generalize s / (Its.w is).length = q at hq hj
    by_cases e : s % (Its.w is).length = 0
    · rw [if_pos e, List.mem_singleton] at hj
      subst hj
      exact ⟨by omega, by omega, h2⟩
    · rw [if_neg e] at hj
      rcases List.mem_append.mp hj with hj | hj
      · exact okp_up1 (Its.frm_ok n is _ hp.2.2 h2 j hj)
      · rw [List.mem_singleton] at hj
        subst hj
        exact ⟨by omega, by omega, h2⟩
theorem Its.frm_ok {B : Nat} : ∀ (n : Nat) (is : List It) (s : Nat), Its.ps is → (∀ i ∈ is, Okp B n i) → ∀ j ∈ Its.frm is s, Okp B n j
  | n, [], s, _, _, j, hj => by
    rw [Its.frm] at hj
    cases hj
  | n, i :: is, s, hp, ho, j, hj => by
    rw [Its.ps] at hp
    rw [Its.frm] at hj
    by_cases e : s < (It.w i).length
    · rw [if_pos e] at hj
      rcases List.mem_append.mp hj with hj | hj
      · exact It.frm_ok n i s hp.1 e (ho i (List.mem_cons_self ..)) j hj
      · exact ho j (List.mem_cons_of_mem _ hj)
    · rw [if_neg e] at hj
      exact Its.frm_ok n is _ hp.2 (fun i hi => ho i (List.mem_cons_of_mem _ hi)) j hj
end
mutual
theorem It.okp_nn {B : Nat} : ∀ (n : Nat) (i : It), Okp B n i → It.nn i
  | n, .line x t, h => by
    rw [It.nn]
    exact (okp_line.mp h).1
  | 0, .loop r is, h => h.elim
  | n + 1, .loop r is, h => by
    obtain ⟨h0, h1, h2⟩ : 0 ≤ r ∧ r < (2 ^ B : Nat) ∧ ∀ i ∈ is, Okp B n i := h
    rw [It.nn]
    exact ⟨h0, Its.okp_nn n is h2⟩
theorem Its.okp_nn {B : Nat} : ∀ (n : Nat) (is : List It), (∀ i ∈ is, Okp B n i) → Its.nn is
  | n, [], _ => by
    rw [Its.nn]
    trivial
  | n, i :: is, h => by
    rw [Its.nn]
    exact ⟨It.okp_nn n i (h i (List.mem_cons_self ..)), Its.okp_nn n is fun j hj => h j (List.mem_cons_of_mem _ hj)⟩
end
mutual
theorem It.frm_nl {B : Nat} : ∀ (n : Nat) (i : It) (s : Nat), Okp B n i → Its.nl (It.frm i s) ≤ (n + 1) * It.nl i
  | n, .line x t, s, _ => by
    rw [It.frm, Its.nl, Its.nl, It.nl, It.nl, Nat.add_zero, Nat.mul_one]
    exact Nat.le_add_left _ _
  | 0, .loop r is, s, ho => ho.elim
  | n + 1, .loop r is, s, ho => by
    obtain ⟨h0, h1, h2⟩ : 0 ≤ r ∧ r < (2 ^ B : Nat) ∧ ∀ i ∈ is, Okp B n i := ho
    rw [It.frm, It.nl, Nat.succ_mul]
    by_cases e : s % (Its.w is).length = 0
    · rw [if_pos e, Its.nl, Its.nl, It.nl]
      omega
    · rw [if_neg e, Its.nl_app, Its.nl, Its.nl, It.nl]
      have := Its.frm_nl n is (s % (Its.w is).length) h2
      omega
theorem Its.frm_nl {B : Nat} : ∀ (n : Nat) (is : List It) (s : Nat), (∀ i ∈ is, Okp B n i) → Its.nl (Its.frm is s) ≤ (n + 1) * Its.nl is
  | n, [], s, _ => by
    rw [Its.frm, Its.nl]
    exact Nat.zero_le _
  | n, i :: is, s, ho => by
    rw [Its.frm, Its.nl, Nat.mul_add]
    by_cases e : s < (It.w i).length
    · rw [if_pos e, Its.nl_app]
      have := It.frm_nl n i s (ho i (List.mem_cons_self ..))
      have := Nat.le_mul_of_pos_left (Its.nl is) (show 0 < n + 1 by omega)
      omega
    · rw [if_neg e]
      have := Its.frm_nl n is (s - (It.w i).length) fun j hj => ho j (List.mem_cons_of_mem _ hj)
      omega
end
mutual
/-- the names of lines -/
def It.nms : It → List Str
  | .line x _ => [x]
  | .loop _ is => Its.nms is
def Its.nms : List It → List Str
  | [] => []
  | i :: is => It.nms i ++ Its.nms is
end
mutual
theorem It.sp_nms (r : Int) : ∀ i : It, (It.sp r i).map (·.1) = It.nms i
  | .line x t => by
    rw [It.sp, It.nms]
    rfl
  | .loop k is => by
    rw [It.sp, It.nms, Its.sp_nms (r * k) is]
theorem Its.sp_nms (r : Int) : ∀ is : List It, (Its.sp r is).map (·.1) = Its.nms is
  | [] => by
    rw [Its.sp, Its.nms]
    rfl
  | i :: is => by
    rw [Its.sp, Its.nms, List.map_append, It.sp_nms r i, Its.sp_nms r is]
end
theorem nms_app : ∀ is js : List It, Its.nms (is ++ js) = Its.nms is ++ Its.nms js
  | [], js => by
    rw [List.nil_append, Its.nms, List.nil_append]
  | i :: is, js => by
    rw [List.cons_append, Its.nms, Its.nms, nms_app is js, List.append_assoc]
mutual
theorem It.frm_nms : ∀ (i : It) (s : Nat), ∀ x ∈ Its.nms (It.frm i s), x ∈ It.nms i
  | .line y t, s, x, h => by
    rw [It.frm, Its.nms, Its.nms, List.append_nil, It.nms] at h
    rw [It.nms]
    exact h
  | .loop r is, s, x, h => by
    rw [It.frm] at h
    rw [It.nms]
    by_cases e : s % (Its.w is).length = 0
    · rw [if_pos e, Its.nms, Its.nms, List.append_nil, It.nms] at h
      exact h
    · rw [if_neg e, nms_app] at h
      rcases List.mem_append.mp h with h | h
      · exact Its.frm_nms is _ x h
      · rw [Its.nms, Its.nms, List.append_nil, It.nms] at h
        exact h
theorem Its.frm_nms : ∀ (is : List It) (s : Nat), ∀ x ∈ Its.nms (Its.frm is s), x ∈ Its.nms is
  | [], s, x, h => by
    rw [Its.frm] at h
    exact h
  | i :: is, s, x, h => by
    rw [Its.frm] at h
    rw [Its.nms]
    by_cases e : s < (It.w i).length
    · rw [if_pos e, nms_app] at h
      rcases List.mem_append.mp h with h | h
      · exact List.mem_append_left _ (It.frm_nms i s x h)
      · exact List.mem_append_right _ h
    · rw [if_neg e] at h
      exact List.mem_append_right _ (Its.frm_nms is _ x h)
end
theorem nd_sub : ∀ {l k : List Str}, l.Nodup → (∀ x ∈ l, x ∈ k) → l.length ≤ k.length
  | [], _, _, _ => Nat.zero_le _
  | a :: l, k, hn, hs => by
    have hn := List.nodup_cons.mp hn
    have ha := hs a (List.mem_cons_self ..)
    have z := nd_sub (l := l) (k := k.erase a) hn.2 fun x hx => (List.mem_erase_of_ne fun e => hn.1 (by rw [← e]; exact hx)).mpr (hs x (List.mem_cons_of_mem _ hx))
    rw [List.length_erase_of_mem ha] at z
    have := List.length_pos_of_mem ha
    rw [List.length_cons]
    omega
theorem frm_uniq {is : List It} {s : Nat} : (uniq [] ((Its.sp 1 (Its.frm is s)).map (·.1))).length ≤ (uniq [] ((Its.sp 1 is).map (·.1))).length := by
  refine nd_sub (uniq_nd _) fun x hx => ?_
  rw [uniq_mem] at hx ⊢
  rcases hx with h | h
  · cases h
  · refine .inr ?_
    rw [Its.sp_nms] at h ⊢
    exact Its.frm_nms is s x h
theorem lines_uniq (is : List It) : (linesI is).length = (uniq [] ((Its.sp 1 is).map (·.1))).length := (srt_perm _).length_eq
theorem frm_lines {is : List It} {s : Nat} {x : Str} (h : x ∈ linesI (Its.frm is s)) : x ∈ linesI is := by
  rw [lines_mem, Its.sp_nms] at h ⊢
  exact Its.frm_nms is s x h
end Ev
namespace Ev
open PySem PySem.Spec PyProof.Rows L2
mutual
theorem It.frm_len : ∀ (i : It) (s : Nat), (It.frm i s).length ≤ It.ni i
  | .line x t, s => by
    rw [It.frm, It.ni]
    exact Nat.le_refl _
  | .loop r is, s => by
    rw [It.frm, It.ni]
    by_cases e : s % (Its.w is).length = 0
    · rw [if_pos e]
      show 1 ≤ _
      omega
    · rw [if_neg e, List.length_append]
      have := Its.frm_len is (s % (Its.w is).length)
      show _ + 1 ≤ _
      omega
theorem Its.frm_len : ∀ (is : List It) (s : Nat), (Its.frm is s).length ≤ Its.ni is
  | [], s => by
    rw [Its.frm]
    exact Nat.zero_le _
  | i :: is, s => by
    rw [Its.frm, Its.ni]
    by_cases e : s < (It.w i).length
    · rw [if_pos e, List.length_append]
      have := It.frm_len i s
      have := ni_len is
      omega
    · rw [if_neg e]
      have := Its.frm_len is (s - (It.w i).length)
      omega
end
theorem cutD_from (ds : List PyData) (i : Nat) : cutD ds (some ((i : Nat) : Int)) none = ds.drop i := by
  unfold cutD
  have e : HT.sIx ds.length 0 (some ((i : Nat) : Int)) = min i ds.length := by
    show (if ((i : Nat) : Int) < 0 then (((i : Nat) : Int) + (ds.length : Int)).toNat else min ((i : Nat) : Int).toNat ds.length) = min i ds.length
    rw [if_neg (by omega), Int.toNat_natCast]
  rw [HT.sIx_none, e]
  rcases Nat.le_total i ds.length with h | h
  · rw [Nat.min_eq_left h]
    exact List.take_of_length_le (by rw [List.length_drop]; exact Nat.le_refl _)
  · rw [Nat.min_eq_right h, List.drop_of_length_le (Nat.le_refl _), List.drop_of_length_le h, List.take_nil]
theorem d_one (i : It) : [i].map It.d = [It.d i] := rfl
end Ev

/-! ## Names as drawn (family C) -/
namespace Ev
open PySem PySem.Spec PyProof.Rows L2
theorem wc_nmC {T R : Int} : ∀ (n : Nat) (i : It), Wc T R n i → ∀ x ∈ It.nms i, x ∈ poolC
  | n, .line y t, h, x, hx => by
    rw [It.nms, List.mem_singleton] at hx
    rw [hx]
    exact (wc_line.mp h).1
  | 0, .loop r is, h, x, hx => h.elim
  | n + 1, .loop r is, h, x, hx => by
    obtain ⟨h1, h2, h3, h4, h5⟩ : 1 ≤ r ∧ r ≤ R ∧ 1 ≤ is.length ∧ is.length ≤ 2 ∧ ∀ i ∈ is, Wc T R n i := h
    rw [It.nms] at hx
    have go : ∀ js : List It, (∀ i ∈ js, i ∈ is) → ∀ x ∈ Its.nms js, x ∈ poolC := fun js => by
      induction js with
      | nil => intro _ x hx; rw [Its.nms] at hx; cases hx
      | cons j js ih =>
        intro hj x hx
        rw [Its.nms] at hx
        rcases List.mem_append.mp hx with h | h
        · exact wc_nmC n j (h5 j (hj j (List.mem_cons_self ..))) x h
        · exact ih (fun i hi => hj i (List.mem_cons_of_mem _ hi)) x h
    exact go is (fun _ h => h) x hx
theorem nms_mem : ∀ {is : List It} {x : Str}, x ∈ Its.nms is → ∃ i ∈ is, x ∈ It.nms i
  | [], x, h => by rw [Its.nms] at h; cases h
  | i :: is, x, h => by
    rw [Its.nms] at h
    rcases List.mem_append.mp h with h | h
    · exact ⟨i, List.mem_cons_self .., h⟩
    · obtain ⟨j, hj, hx⟩ := nms_mem h
      exact ⟨j, List.mem_cons_of_mem _ hj, hx⟩
theorem poolC_ok : poolC.all PyData.strOk = true := by decide +kernel
theorem lines_ok {is : List It} (h : ∀ x ∈ Its.nms is, x ∈ poolC) : ∀ x ∈ linesI is, PyData.strOk x = true := fun x hx => by
  rw [lines_mem, Its.sp_nms] at hx
  exact List.all_eq_true.mp poolC_ok x (h x hx)
end Ev

/-! ## How long a text of data is, by how many parts there are -/
namespace Ev
open PySem PySem.Spec PyProof.Rows L2
structure Szb (e w : Nat) (d : PyData) : Prop where
  sh : d.showable = true
  ls : d.leavesShort 1000 = true
  dp : d.depth ≤ e
  bk : d.bulk ≤ w
theorem Szb.up {e e' w w' : Nat} {d : PyData} (h : Szb e w d) (he : e ≤ e') (hw : w ≤ w') : Szb e' w' d := ⟨h.sh, h.ls, Nat.le_trans h.dp he, Nat.le_trans h.bk hw⟩
theorem Szb.fits {e w : Nat} {d : PyData} (h : Szb e w d) (he : e ≤ 64) (hw : w ≤ 16000) : d.showable = true ∧ d.depth ≤ 64 ∧ d.shown.length ≤ sizeLine := by
  refine ⟨h.sh, Nat.le_trans h.dp he, ?_⟩
  have z := PyData.shown_le_bulk 1000 (by decide) d h.ls
  have y := sizeLine_eq
  have h1 : (1000 + 2) * d.bulk ≤ 1002 * 16000 := Nat.mul_le_mul_left _ (Nat.le_trans h.bk hw)
  omega
theorem szb_int {i : Int} {k : Nat} (h : i.natAbs < 2 ^ k) (h0 : 0 < k) (hk : k ≤ 900) : Szb 0 0 (.int i) :=
  have z := sz_int h h0 hk
  ⟨z.sh, z.ls, z.dp, by rw [PyData.bulk]; exact Nat.le_refl _⟩
theorem szb_bool {b : Bool} : Szb 0 0 (.bool b) := ⟨rfl, rfl, Nat.le_refl _, Nat.le_refl _⟩
theorem szb_none : Szb 0 0 .none := ⟨rfl, rfl, Nat.le_refl _, Nat.le_refl _⟩
theorem szb_nm {x : Str} (h : nmB x = true) : Szb 0 8 (.str x) :=
  have z := nm_sz h
  ⟨z.sh, z.ls, z.dp, by
    rw [PyData.bulk]
    unfold nmB at h
    simp only [Bool.and_eq_true, decide_eq_true_eq] at h
    exact h.1.1⟩
theorem szb_all {e w : Nat} : ∀ {ds : List PyData}, (∀ d ∈ ds, Szb e w d) → PyData.showableAll ds = true ∧ PyData.leavesShortAll 1000 ds = true ∧ PyData.depthAll ds ≤ e ∧ PyData.bulkAll ds ≤ ds.length * (w + 1)
  | [], _ => ⟨rfl, rfl, Nat.zero_le _, Nat.zero_le _⟩
  | d :: ds, h => by
    obtain ⟨h1, h2, h3, h4⟩ := szb_all fun x hx => h x (List.mem_cons_of_mem _ hx)
    have g := h d (List.mem_cons_self ..)
    refine ⟨?_, ?_, ?_, ?_⟩
    · rw [PyData.showableAll, g.sh, h1]
      rfl
    · rw [PyData.leavesShortAll, g.ls, h2]
      rfl
    · rw [PyData.depthAll]
      have := g.dp
      omega
    · rw [PyData.bulkAll, List.length_cons, Nat.succ_mul]
      have := g.bk
      omega
theorem szb_tup {e w : Nat} {ds : List PyData} (h : ∀ d ∈ ds, Szb e w d) : Szb (e + 1) (ds.length * (w + 1)) (.tuple ds) := by
  obtain ⟨h1, h2, h3, h4⟩ := szb_all h
  exact ⟨by rw [PyData.showable]; exact h1, by rw [PyData.leavesShort]; exact h2, by rw [PyData.depth]; omega, by rw [PyData.bulk]; exact h4⟩
theorem szb_lst {e w : Nat} {ds : List PyData} (h : ∀ d ∈ ds, Szb e w d) : Szb (e + 1) (ds.length * (w + 1)) (.list ds) := by
  obtain ⟨h1, h2, h3, h4⟩ := szb_all h
  exact ⟨by rw [PyData.showable]; exact h1, by rw [PyData.leavesShort]; exact h2, by rw [PyData.depth]; omega, by rw [PyData.bulk]; exact h4⟩
/-- few different names -/
theorem few_names {is : List It} (h : ∀ x ∈ linesI is, x ∈ poolC) : (linesI is).length ≤ 8 := nd_sub (lines_nd is) h
end Ev

/-! ## The weights are right -/
namespace Ev
open PySem PySem.Spec PyProof.Rows L2 Pm
theorem red_le (a b : Int) : (red a b).1.natAbs ≤ a.natAbs ∧ (red a b).2.natAbs ≤ b.natAbs := by
  unfold red
  exact ⟨Int.natAbs_ediv_le_natAbs .., Int.natAbs_ediv_le_natAbs ..⟩
theorem wtsV_at {n : Nat} {cl : List (Nat × Nat)} {j : Nat} (h : j < cl.length) : (wtsV n cl)[j]? = some (red (-(gd (rst n cl.length (indC cl)) (n + j))) (gd (rst n cl.length (indC cl)) (n + cl.length) * (cl[j].1 : Nat))) := by
  unfold wtsV
  rw [List.getElem?_map, List.getElem?_range h]
  show some (red _ (_ * ((cl[j]?.getD (1, 0)).1 : Nat))) = _
  rw [List.getElem?_eq_getElem h]
  rfl
theorem wtsV_len {n : Nat} {cl : List (Nat × Nat)} : (wtsV n cl).length = cl.length := by
  unfold wtsV
  rw [List.length_map, List.length_range]
theorem toFr_fr (e : Int × Int) : toFr (frD e) = e := rfl
theorem map_toFr (l : List (Int × Int)) : (l.map frD).map toFr = l := by
  rw [List.map_map]
  exact List.map_id l
theorem wts_ok {n : Nat} {cl : List (Nat × Nat)} (hm : cl.length ≤ 12) (hp : ∀ e ∈ cl, 0 < e.1) (hf : fst0 ((rst n cl.length (indC cl)).take n) = none) : isWt n cl (.tuple ((wtsV n cl).map frD)) = true := by
  obtain ⟨J, F⟩ := rsF (n := n) (m := cl.length) (indC_le cl) hm
  have s0 := F.C.pos
  have each : ∀ {j : Nat} (h : j < cl.length), ∃ e, (wtsV n cl)[j]? = some e ∧ e.1 * (gd (rst n cl.length (indC cl)) (n + cl.length) * (cl[j].1 : Nat)) = -(gd (rst n cl.length (indC cl)) (n + j)) * e.2 ∧ 0 < e.2 ∧ Nat.gcd e.1.natAbs e.2.natAbs = 1 := fun {j} h => by
    have pos : 0 < gd (rst n cl.length (indC cl)) (n + cl.length) * (cl[j].1 : Nat) := Int.mul_pos s0 (by have := hp _ (List.getElem_mem h); omega)
    obtain ⟨a, b, c⟩ := red_mul (-(gd (rst n cl.length (indC cl)) (n + j))) pos
    exact ⟨_, wtsV_at h, a, b, c⟩
  show (decide (((wtsV n cl).map frD).length = cl.length) && (((wtsV n cl).map frD).all isFr && (List.range n).all (onceW cl (((wtsV n cl).map frD).map toFr)))) = true
  rw [decide_eq_true (by rw [List.length_map, wtsV_len]), map_toFr, Bool.true_and, Bool.and_eq_true]
  refine ⟨List.all_eq_true.mpr fun d hd => ?_, List.all_eq_true.mpr fun t ht => ?_⟩
  · obtain ⟨e, he, rfl⟩ := List.mem_map.mp hd
    obtain ⟨j, ej⟩ := List.mem_iff_getElem?.mp he
    have hj := (List.getElem?_eq_some_iff.mp ej).1
    rw [wtsV_len] at hj
    obtain ⟨e', h1, _, h2, h3⟩ := each hj
    rw [ej] at h1
    cases h1
    show (decide (0 < e.2) && decide (Nat.gcd e.1.natAbs e.2.natAbs = 1)) = true
    rw [decide_eq_true h2, decide_eq_true h3]
    rfl
  · have ht := List.mem_range.mp ht
    have hzl : (cl.zip (wtsV n cl)).length = cl.length := by rw [List.length_zip, wtsV_len, Nat.min_self]
    have key : ∀ k, k ≤ cl.length → (accW t ((cl.zip (wtsV n cl)).take k) (0, 1)).1 * gd (rst n cl.length (indC cl)) (n + cl.length) = (accW t ((cl.zip (wtsV n cl)).take k) (0, 1)).2 * Pm.sumN k (fun j => -(gd (rst n cl.length (indC cl)) (n + j)) * (indC cl j t : Int)) ∧ 0 < (accW t ((cl.zip (wtsV n cl)).take k) (0, 1)).2 := by
      intro k
      induction k with
      | zero => exact fun _ => ⟨by rw [List.take_zero, Pm.sumN]; show (0 : Int) * _ = 1 * 0; omega, by rw [List.take_zero]; show (0 : Int) < 1; decide⟩
      | succ k ih =>
        intro hk
        obtain ⟨i1, i2⟩ := ih (by omega)
        obtain ⟨e, e1, e2, e3, _⟩ := each (show k < cl.length by omega)
        have ez : (cl.zip (wtsV n cl)).take (k + 1) = (cl.zip (wtsV n cl)).take k ++ [(cl[k], e)] := by
          rw [List.take_succ_eq_append_getElem (by omega), List.getElem_zip]
          have : (wtsV n cl)[k]'(by rw [wtsV_len]; omega) = e := by
            rw [List.getElem?_eq_getElem (by rw [wtsV_len]; omega)] at e1
            exact Option.some.inj e1
          rw [this]
        rw [ez, accW_app, Pm.sumN, indC_at (show k < cl.length by omega)]
        generalize accW t ((cl.zip (wtsV n cl)).take k) (0, 1) = p at i1 i2
        generalize Pm.sumN k (fun j => -(gd (rst n cl.length (indC cl)) (n + j)) * (indC cl j t : Int)) = s at i1
        by_cases z : t % cl[k].1 = cl[k].2
        · rw [if_pos z, if_pos z]
          refine ⟨?_, Int.mul_pos i2 e3⟩
          show (p.1 * e.2 + e.1 * (cl[k].1 : Int) * p.2) * _ = p.2 * e.2 * (s + _ * ((1 : Nat) : Int))
          grind
        · rw [if_neg z, if_neg z]
          refine ⟨?_, i2⟩
          rw [i1]
          show p.2 * s = p.2 * (s + _ * ((0 : Nat) : Int))
          grind
    obtain ⟨k1, k2⟩ := key cl.length (Nat.le_refl _)
    rw [List.take_of_length_le (by omega)] at k1 k2
    have so := F.once hf t ht
    rw [indC_out (Nat.le_refl _)] at so
    have sn : Pm.sumN cl.length (fun j => -(gd (rst n cl.length (indC cl)) (n + j)) * (indC cl j t : Int)) = gd (rst n cl.length (indC cl)) (n + cl.length) := by
      have e := sumN_mul (-1) (fun j => gd (rst n cl.length (indC cl)) (n + j) * (indC cl j t : Int)) cl.length
      rw [so] at e
      rw [show gd (rst n cl.length (indC cl)) (n + cl.length) = -1 * -(gd (rst n cl.length (indC cl)) (n + cl.length) * ((1 : Nat) : Int)) by omega, ← e]
      exact sumN_congr fun j _ => by grind
    rw [sn] at k1
    exact decide_eq_true (Int.eq_of_mul_eq_mul_right (by omega) k1)
/-- the weights' numbers are small -/
theorem wtsV_small {n : Nat} {cl : List (Nat × Nat)} (hm : cl.length ≤ 12) (hp : ∀ e ∈ cl, e.1 ≤ 48) : ∀ e ∈ wtsV n cl, e.1.natAbs < 2 ^ 60 ∧ e.2.natAbs < 2 ^ 60 := fun e he => by
  obtain ⟨J, F⟩ := rsF (n := n) (m := cl.length) (indC_le cl) hm
  obtain ⟨j, ej⟩ := List.mem_iff_getElem?.mp he
  have hj := (List.getElem?_eq_some_iff.mp ej).1
  rw [wtsV_len] at hj
  rw [wtsV_at hj] at ej
  cases ej
  obtain ⟨h1, h2⟩ := red_le (-(gd (rst n cl.length (indC cl)) (n + j))) (gd (rst n cl.length (indC cl)) (n + cl.length) * (cl[j].1 : Nat))
  have b1 := F.bp j (by omega)
  have b2 := F.bp cl.length (by omega)
  have b3 := hp _ (List.getElem_mem hj)
  have b4 : BN * 48 < 2 ^ 60 := by decide +kernel
  rw [Int.natAbs_neg] at h1
  rw [Int.natAbs_mul, Int.natAbs_natCast] at h2
  have := Nat.mul_le_mul b2 b3
  omega
theorem szb_fr {e : Int × Int} (h : e.1.natAbs < 2 ^ 700 ∧ e.2.natAbs < 2 ^ 700) : Szb 1 2 (frD e) := szb_tup (ds := [.int e.1, .int e.2]) (e := 0) (w := 0) fun d hd => by
  rcases List.mem_cons.mp hd with rfl | hd
  · exact szb_int (k := 700) h.1 (by decide) (by decide)
  · rw [List.mem_singleton.mp hd]
    exact szb_int (k := 700) h.2 (by decide) (by decide)
theorem szb_frs {l : List (Int × Int)} (h : ∀ e ∈ l, e.1.natAbs < 2 ^ 700 ∧ e.2.natAbs < 2 ^ 700) : Szb 2 (l.length * 3) (.tuple (l.map frD)) := by
  have := szb_tup (e := 1) (w := 2) (ds := l.map frD) fun d hd => by
    obtain ⟨e, he, rfl⟩ := List.mem_map.mp hd
    exact szb_fr (h e he)
  rwa [List.length_map] at this
theorem szb_sam {l : List (Nat × Nat)} (h : ∀ e ∈ l, e.1 < 2 ^ 700 ∧ e.2 < 2 ^ 700) : Szb 2 (l.length * 3) (.tuple (l.map cDq)) := by
  have := szb_tup (e := 1) (w := 2) (ds := l.map cDq) fun d hd => by
    obtain ⟨e, he, rfl⟩ := List.mem_map.mp hd
    exact szb_fr (e := ((e.1 : Nat), (e.2 : Nat))) ⟨by rw [Int.natAbs_natCast]; exact (h e he).1, by rw [Int.natAbs_natCast]; exact (h e he).2⟩
  rwa [List.length_map] at this
end Ev
namespace Ev
open PySem PySem.Spec PyProof.Rows L2 Pm
/-- one step of adding up, in lowest terms, beside the same without -/
theorem red_step {N D A B p0 p1 : Int} {m X : Nat} (h : N * B = A * D) (hD : 0 < D) (hB : 0 < B) (hp : 0 < p1) (hN : N.natAbs < 2 ^ X) (hD2 : D.natAbs < 2 ^ X) (h0 : p0.natAbs < 2 ^ 600) (h1 : p1.natAbs < 2 ^ 600) (hm : m ≤ 48) :
    (red (N * p1 + p0 * (m : Nat) * D) (D * p1)).1 * (B * p1) = (A * p1 + p0 * (m : Nat) * B) * (red (N * p1 + p0 * (m : Nat) * D) (D * p1)).2 ∧ 0 < (red (N * p1 + p0 * (m : Nat) * D) (D * p1)).2 ∧
    (red (N * p1 + p0 * (m : Nat) * D) (D * p1)).1.natAbs < 2 ^ (X + 700) ∧ (red (N * p1 + p0 * (m : Nat) * D) (D * p1)).2.natAbs < 2 ^ (X + 700) := by
  have pos : 0 < D * p1 := Int.mul_pos hD hp
  obtain ⟨r1, r2, _⟩ := red_mul (N * p1 + p0 * (m : Nat) * D) pos
  obtain ⟨l1, l2⟩ := red_le (N * p1 + p0 * (m : Nat) * D) (D * p1)
  have b1 : (N * p1 + p0 * (m : Nat) * D).natAbs < 2 ^ (X + 700) ∧ (D * p1).natAbs < 2 ^ (X + 700) := by
    rw [Nat.pow_add]
    have f1 : (2 : Nat) ^ 700 = 2 ^ 600 * 2 ^ 100 := by rw [← Nat.pow_add]
    have f2 : (48 : Nat) + 1 < 2 ^ 100 := by decide +kernel
    have f3 : 0 < (2 : Nat) ^ 600 := Nat.pow_pos (by decide)
    have c0 : 0 < (2 : Nat) ^ X := Nat.pow_pos (by decide)
    rw [f1]
    generalize (2 : Nat) ^ 600 = Y at h0 h1 f3
    generalize (2 : Nat) ^ 100 = Z at f2
    generalize (2 : Nat) ^ X = W at hN hD2 c0
    have xy : 0 < W * Y := Nat.mul_pos c0 f3
    have big : W * (Y * Z) = W * Y * Z := (Nat.mul_assoc ..).symm
    have g1 : W * Y * 49 < W * Y * Z := Nat.mul_lt_mul_of_pos_left (by omega) xy
    have s1 := Int.natAbs_add_le (N * p1) (p0 * (m : Nat) * D)
    rw [Int.natAbs_mul, Int.natAbs_mul, Int.natAbs_mul, Int.natAbs_natCast] at s1
    have t1 := Nat.mul_lt_mul'' hN h1
    have t2 : p0.natAbs * m * D.natAbs ≤ Y * 48 * W := Nat.mul_le_mul (Nat.mul_le_mul (by omega) hm) (by omega)
    have t3 : Y * 48 * W = W * Y * 48 := by grind
    have t4 := Nat.mul_lt_mul'' hD2 h1
    rw [Int.natAbs_mul]
    have t5 : W * Y * 1 ≤ W * Y * 49 := Nat.mul_le_mul_left _ (by decide)
    omega
  refine ⟨?_, r2, by omega, by omega⟩
  generalize red (N * p1 + p0 * (m : Nat) * D) (D * p1) = R at r1 r2
  refine Int.eq_of_mul_eq_mul_left (show D ≠ 0 by omega) ?_
  have e1 : D * (R.1 * (B * p1)) = R.1 * (D * p1) * B := by grind
  rw [e1, r1]
  grind
end Ev

/-! ## list(range(a, b, c)) -/
namespace Ev
open PySem PySem.Spec PyProof.Rows L2
def rgV3 (a c : Int) (n : Nat) : List V := (List.range n).map fun i => V.int (a + ((i : Nat) : Int) * c)
theorem small_up {a b c : Nat} (hc : 0 < c) (ha : a < 2 ^ 30) (hb : b < 2 ^ 30) (hc2 : c < 2 ^ 30) : Builtin.Range.small ((a : Nat) : Int) ((b : Nat) : Int) ((c : Nat) : Int) = true := by
  have h1 : (b - a + c - 1) / c ≤ b - a + c - 1 := Nat.div_le_self ..
  have h2 : (b - a + c - 1) / c * c ≤ b - a + c - 1 := Nat.div_mul_le_self ..
  unfold Builtin.Range.small
  rw [size_up hc]
  simp only [Builtin.Range.rangeFitsLong, Bool.and_eq_true, Bool.or_eq_true, decide_eq_true_eq, beq_iff_eq]
  rw [if_pos (show ((c : Nat) : Int) > 0 by omega), Bool.and_eq_true, decide_eq_true_eq, decide_eq_true_eq]
  generalize (b - a + c - 1) / c = m at h1 h2
  omega
def tLstRg3 (ta : TA) : TE := fun σ H Q => ta σ H fun vs H1 => ∃ (a b c : Int) (n : Nat), vs = [.int a, .int b, .int c] ∧ c ≠ 0 ∧ c.natAbs.log2 < 9000 ∧ Builtin.Range.rangeSize a b c = n ∧ n ≤ 2 ^ 24 ∧ Builtin.Range.small a b c = true ∧ ∀ q, H1 q = none → Q (.ref q) (upd H1 q (.lst (rgV3 a c n)))
section
variable {X : Cx}
theorem vals_rg3 {a c : Int} {n : Nat} {acc : Array Value} (h : ItemsOf (fun i v => ∃ t, v = .int (a + i * c) t) acc n) : Vals (rgV3 a c n) acc.toList := by
  have e : acc.toList.length = n := by rw [Array.length_toList]; exact h.1
  unfold rgV3
  rw [← e]
  refine vals_of_get acc.toList _ fun j u hj => ?_
  obtain ⟨t, rfl⟩ := h.2 j u (by rw [← hj, Array.getElem?_toList])
  exact ⟨t, rfl⟩
theorem pe_listRg3 {e1 e2 e3 : Expr} {ta : TA} {p p2 pos pos2 : Pos} (hc : X.calm = true) (hgl : Gl X "list") (hml : X.mg "list" = none) (hg : Gl X "range") (hm : X.mg "range" = none) (ha : PA X [e1, e2, e3] ta)
    (na : starEach [Expr.Call (.Name "range" p2) [e1, e2, e3] [] pos2] X.env = (false, eval (.Call (.Name "range" p2) [e1, e2, e3] [] pos2) X.env) :: starEach [] X.env := by rfl)
    (hs : starEach [e1, e2, e3] X.env = (false, eval e1 X.env) :: starEach [e2, e3] X.env := by rfl) (hpl : (backTo pos2 (starEach [e2, e3] X.env)).any (·.1) = false := by rfl) :
    PE X (.Call (.Name "list" p) [.Call (.Name "range" p2) [e1, e2, e3] [] pos2] [] pos) (tLstRg3 ta) := by
  refine ⟨fun pins s σ H Q I h => ?_⟩
  refine Call_ (ld_blt I hgl hml boot_list (PyProof.Rows.callWith_type1 (args_cons (thn (Q := fun x s' => ∃ r a b c n t u v H', x = .ref r ∧ IsRange s'.heap r a b c t u v ∧ Inv X pins σ H' s' ∧ Builtin.Range.rangeSize a b c = (n : Nat) ∧ n ≤ 2 ^ 24 ∧ Builtin.Range.small a b c = true ∧ ∀ q, H' q = none → Q (.ref q) (upd H' q (.lst (rgV3 a c n)))) ?_ fun x s1 hx => args_nil ?_) na) na))
  · refine Call_ (ld_blt I hg hm boot_range (PyProof.Rows.callWith_type1 (thn (ha.run pos2 pins s σ H _ I h) ?_) hs hpl))
    rintro us s1 ⟨vs, H1, I1, rv, a, b, c, n, rfl, c0, c9, size, n24, sm, q⟩
    obtain ⟨u1, u2, u3, rfl, ⟨t1, rfl⟩, ⟨t2, rfl⟩, ⟨t3, rfl⟩⟩ : ∃ u1 u2 u3, us = [u1, u2, u3] ∧ RelV (.int a) u1 ∧ RelV (.int b) u2 ∧ RelV (.int c) u3 := by
      cases rv with
      | cons r1 rv =>
        obtain ⟨u2, u3, rfl, r2, r3⟩ := vals2 rv
        exact ⟨_, _, _, rfl, r1, r2, r3⟩
    exact call_range_3 c0 ⟨_, a, b, c, n, _, _, _, H1, rfl, IsRange.new _ _ _ _ _ _ _, I1.kept fun _ _ => Heap.get?_push_of_some _, size, n24, sm, q⟩ (.inl (PyProof.noPylong_of_log2 c9))
  · obtain ⟨r, a, b, c, n, t, u, v, H1, rfl, hr, I1, size, n24, sm, q⟩ := hx
    refine call_list_range (n := n) (I1.ok.hd hc) hr sm size n24 fun h' tk acc c' hk e' hi => ?_
    refine ⟨.ref s1.heap.objs.size, upd H1 s1.heap.objs.size (.lst (rgV3 a c n)), I1.laid hk (Nat.le_refl _) (show ObjOk X.prog X.w _ _ _ (.lst (rgV3 a c n)) from ⟨?_, acc.toList, c', vals_rg3 hi, ?_⟩), rfl, q _ (I1.hok.fresh (Nat.le_refl _))⟩
    · unfold rgV3
      rw [List.length_map, List.length_range, sizeLine_eq]
      omega
    · rw [Array.toArray_toList]
      exact e'
end
end Ev

/-! ## sum() of a tuple of whole numbers, over call_sum_walkG -/
namespace Ev
open PySem PySem.Spec PyProof.Rows L2
def rSumT (K : PySem.W.Frag) : List V → Hp → VK → Prop := fun vs H Q => ∃ (a : Addr) (ns : List Int), vs = [V.ref a] ∧ SqT K H a (ns.map V.int) ∧ Q (.int ns.sum) H
theorem preSum_take (ns : List Int) : ∀ k, preSum (fun i => ns.getD i 0) k = (ns.take k).sum
  | 0 => rfl
  | k + 1 => by
    rw [preSum, preSum_take ns k, List.take_add_one, List.sum_append, List.getD_eq_getElem?_getD]
    cases ns[k]? with
    | none => rfl
    | some x => show _ + x = _ + (x + 0); omega
theorem cr_sumT {X : Cx} (hc : X.calm = true) : CallR X (.builtin "sum") (rSumT X.K) := by
  rintro pins s σ H vs us Q I r ⟨a, ns, rfl, hs, q⟩
  obtain ⟨its, rv, p, _⟩ := I.tuple hs
  rw [Vals.ref1 r]
  have hl := rv.length
  rw [List.length_map] at hl
  obtain ⟨o, eo, _⟩ := id p
  have lt := Heap.lt_size eo
  refine call_sum_walkG (wpAny_pyIter_tuple p ⟨_, _, _, _, _, _, fun i => ns.getD i 0, rfl, Walks.tuple (A := X.A.in1) (I.ok.hd hc) s.heap.objs.size a (Nat.ne_of_lt lt) its.toArray, ?_, ?_, ?_, ?_⟩)
  · exact ⟨⟨_, Heap.get?_push_size _ rfl, rfl, rfl⟩, p.push _⟩
  · intro b hb
    show b < (s.heap.push _).objs.size
    rw [Heap.size_push]
    rcases List.mem_cons.mp hb with rfl | hb
    · exact Nat.lt_succ_self _
    · rw [List.mem_singleton.mp hb]
      exact Nat.lt_succ_of_lt lt
  · intro i v hv
    have hv : its.toArray[i]? = some v := hv
    have hv' : its[i]? = some v := by simpa using hv
    have hi := (List.getElem?_eq_some_iff.mp hv').1
    have hx : (ns.map V.int)[i]? = some (.int ns[i]) := by rw [List.getElem?_map, List.getElem?_eq_getElem (show i < ns.length by omega)]; rfl
    obtain ⟨u, hu, t, rfl⟩ := rv.get hx
    rw [hv'] at hu
    cases hu
    refine ⟨t, ?_⟩
    have e : ns.getD i 0 = ns[i] := by rw [List.getD_eq_getElem?_getD, List.getElem?_eq_getElem (show i < ns.length by omega)]; rfl
    dsimp only
    rw [e]
  · intro h' tk t' hk
    refine ⟨.int _, H, I.kept fun b o eo => hk b o (fun m => ?_) (Heap.get?_push_of_some _ eo), ⟨t', ?_⟩, q⟩
    · rcases List.mem_cons.mp m with e1 | m
      · exact absurd (e1 ▸ Heap.lt_size eo) (Nat.lt_irrefl _)
      · cases m
    · rw [preSum_take, List.take_of_length_le (by rw [List.size_toArray]; omega)]
end Ev

/-! ## Blind pairs, by the law's look -/
namespace Ev
open PySem PySem.Spec PyProof.Rows L2 Pm
def toI (d : PyData) : Int := match d with
  | .int i => i
  | _ => 0
def isNat (d : PyData) : Bool := match d with
  | .int i => decide (0 ≤ i)
  | _ => false
/-- values: as many integers from 0 -/
def isVals (n : Nat) (d : PyData) : Bool := match d with
  | .tuple ds => decide (ds.length = n) && ds.all isNat
  | _ => false
def valsOf (d : PyData) : List Int := match d with
  | .tuple ds => ds.map toI
  | _ => []
/-- the ticks that a class has -/
def ticksC (n : Nat) (e : Nat × Nat) : List Nat := (List.range ((n - e.2 + e.1 - 1) / e.1)).map fun i => e.2 + i * e.1
def sumC (n : Nat) (e : Nat × Nat) (x : List Int) : Int := ((ticksC n e).map fun t => gd x t).sum
def isBl (n : Nat) (cl : List (Nat × Nat)) (d : PyData) : Bool := match d with
  | .tuple [p, r] => isVals n p && (isVals n r && (cl.all (fun e => decide (sumC n e (valsOf p) = sumC n e (valsOf r))) && !decide ((valsOf p).sum = (valsOf r).sum)))
  | _ => false
theorem isVals_is {n : Nat} {d : PyData} (h : isVals n d = true) : ∃ x : List Int, d = .tuple (x.map PyData.int) ∧ valsOf d = x ∧ x.length = n := by
  unfold isVals at h
  split at h
  · rename_i ds
    rw [Bool.and_eq_true, decide_eq_true_eq, List.all_eq_true] at h
    refine ⟨ds.map toI, ?_, rfl, by rw [List.length_map]; exact h.1⟩
    rw [List.map_map]
    congr 1
    refine (List.map_id ds).symm.trans (List.map_congr_left fun d hd => ?_)
    have := h.2 d hd
    unfold isNat at this
    split at this
    · rfl
    · cases this
  · cases h
theorem ticksC_lt {n : Nat} {e : Nat × Nat} (h : e.2 < e.1) (hn : e.1 ≤ n) {t : Nat} (ht : t ∈ ticksC n e) : t < n := by
  obtain ⟨i, hi, rfl⟩ := List.mem_map.mp ht
  have hi := List.mem_range.mp hi
  have h1 : (i + 1) * e.1 ≤ n - e.2 + e.1 - 1 := Nat.le_trans (Nat.mul_le_mul_right _ hi) (Nat.div_mul_le_self ..)
  rw [Nat.succ_mul] at h1
  omega
end Ev
namespace Ev
open PySem PySem.Spec PyProof.Rows L2 Pm
theorem da_intsInv {K : PySem.W.Frag} {H : Hp} : ∀ {X : List Int} {us : List V}, DaAll K H us (X.map PyData.int) → us = X.map V.int
  | [], _, .nil => rfl
  | x :: X, _, .cons h t => by
    cases h
    rw [List.map_cons, da_intsInv t]
theorem da_vals {K : PySem.W.Frag} {H : Hp} {v : V} {X : List Int} (h : Da K H v (.tuple (X.map PyData.int))) : ∃ c, v = .ref c ∧ SqT K H c (X.map V.int) := by
  cases h with
  | @tup c xs _ hs ha =>
    rw [da_intsInv ha] at hs
    exact ⟨c, rfl, hs⟩
theorem clsOf_at {n : Nat} {S : List (Nat × Nat)} {k : Nat} (h : k < S.length) : (clsOf n S)[k]? = some (Nat.gcd S[k].1 n, S[k].2 % Nat.gcd S[k].1 n) := by
  unfold clsOf
  rw [List.getElem?_map, List.getElem?_eq_getElem h]
  rfl
end Ev

/-! ## the law's look at blind pairs -/
namespace Ev
open PySem PySem.Spec PyProof.Rows L2 Pm
def spMkL (K : PySem.W.Frag) : Sp := fun vs H Q _ => ∃ (n : Nat) (a : Addr) (xs : List V) (S : List (Nat × Nat)), vs = [.int (n : Nat), .ref a] ∧ 1 ≤ n ∧ S.length ≤ 1000 ∧ SqL K H a xs ∧ DaAll K H xs (S.map cDq) ∧ ∀ H' a us, Same H H' → H a = none → H' a = some (.lst us) → DaAll K H' us ((clsOf n S).map cDq) → Q (.ref a) H'
def spMkU (K : PySem.W.Frag) : Sp := fun vs H Q E => spMkQ K vs H Q E ∨ spMkL K vs H Q E
def spSnQ (K : PySem.W.Frag) : Sp := fun vs H Q _ => ∃ (n : Nat) (v : V) (e : Nat × Nat), vs = [.int (n : Nat), v] ∧ 1 ≤ n ∧ n ≤ 1000 ∧ Da K H v (cDq e) ∧ ∀ H' l, Same H H' → H' l = some (.lst ((ticksC n (Nat.gcd e.1 n, e.2 % Nat.gcd e.1 n)).map nV)) → Q (.ref l) H'
def spIbQ (K : PySem.W.Frag) : Sp := fun vs H Q _ => ∃ (n : Nat) (x v : V) (S : List (Nat × Nat)) (d : PyData), vs = [.int (n : Nat), x, v] ∧ 1 ≤ n ∧ n ≤ 48 ∧ S.length ≤ 12 ∧ Da K H x (.tuple (S.map cDq)) ∧ Da K H v d ∧ ∀ H', Same H H' → Q (.bl (isBl n (clsOf n S) d)) H'
theorem scSnQ : FnScope ["_law_count", "_law_sampler", "_law_step", "_law_start"] ["_law_count", "_law_sampler"] (defScope (topS 28)) := ⟨rfl, rfl, rfl, by decide +kernel, rfl, by decide +kernel, by decide +kernel⟩
section
variable {P : Program} {w : World} {K : PySem.W.Frag} {mg : Str → Option Value} {base : Heap}
theorem ok_mkU (D : Def K mg "_law_marks" (topS 27) ["_law_count", "_law_some"]) (C__law_gcd : Cal P w K mg base 1 "_law_gcd" ["_law_one", "_law_other"] spGcd) (nb : NB mg) : Cal P w K mg base 2 "_law_marks" ["_law_count", "_law_some"] (spMkU K) := by
  refine D.ok scMkQ (fun vs H Q E h => ?_) (fun fa cdv A outer sh H vs Q E hr gd h => ?_)
  · rcases h with ⟨n, x, S, rfl, _⟩ | ⟨n, a, xs, S, rfl, _⟩ <;> rfl
  · rcases h with ⟨n, x, S, rfl, hn, hS, hx, q⟩ | ⟨n, a, xs, S, rfl, hn, hS, ht, hall, q⟩
    · refine ⟨_, (pss_cons (ps_set (i := 2) scMkQ.nd rfl (.inl rfl) (pe_lst pa_nil))
      (pss_cons (ps_for PassesOwn.never rfl (pi_tup (pv 1)) (pg_tup rfl (pgs_cons (pg_name (i := 3) scMkQ.nd rfl (Or.inl rfl)) (pgs_cons (pg_name (i := 4) scMkQ.nd rfl (Or.inl rfl)) pgs_nil)))
        (pss_cons (ps_set (i := 5) scMkQ.nd rfl (.inl rfl) (pcall C__law_gcd (hr.mono (by omega)) gd (by rfl) (pa_cons (pv 3) (pa_cons (pv 0) pa_nil))))
        (pss_one (ps_expr (pe_bm PySem.F.plainAttrs_list PySem.F.slot_list_append PySem.F.type_list_append mt_append (pv 2) (pa_cons (pe_tup (pa_cons (pv 5) (pa_cons (pe_op op_mod (pv 4) (pv 5)) pa_nil))) pa_nil))))))
      (pss_one (ps_ret (pv 2))))), ?_⟩
      have sl := sizeLine_eq
      obtain ⟨a, xs, rfl, ht, hall⟩ : ∃ a xs, x = .ref a ∧ SqT K H a xs ∧ DaAll K H xs (S.map cDq) := by
        cases hx with
        | @tup a xs _ ht hall => exact ⟨a, xs, rfl, ht, hall⟩
      have hxl := daAll_len hall
      rw [List.length_map] at hxl
      refine ⟨(by show 0 ≤ sizeLine; omega), fun l nl => ?_⟩
      refine ⟨_, rfl, a, rfl, ⟨xs, seqT_mono (same_put nl) ht⟩, for_tup (K := K) (a := a) (xs := xs) (fun k σ' H' => ∃ y3 y4 y5 : Option V, σ' = [some (.int (n : Nat)), some (.ref a), some (.ref l), y3, y4, y5] ∧ Same H H' ∧ ∃ us, H' l = some (.lst us) ∧ DaAll K H' us ((clsOf n (S.take k)).map cDq)) ⟨_, _, _, rfl, same_put nl, [], upd_same, by rw [List.take_zero]; exact .nil⟩ (fun k σ' H' _ ⟨_, _, _, _, s', _⟩ => seqT_mono s' ht) ?_ ?_⟩
      · rintro k v σ' H1 hk ⟨y3, y4, y5, rfl, s1, us, hu, hd⟩
        obtain ⟨d, hd1, hvd⟩ := daAll_at (hall.mono s1) hk
        have hkS : k < S.length := by
          have := (List.getElem?_eq_some_iff.mp hk).1
          omega
        rw [List.getElem?_map, List.getElem?_eq_getElem hkS] at hd1
        cases hd1
        obtain ⟨b, rfl, hb⟩ := da_cDq hvd
        have hg := Nat.gcd_pos_of_pos_right S[k].1 hn
        have hul := daAll_len hd
        rw [List.length_map, clsOf_len, List.length_take] at hul
        refine ⟨b, _, rfl, hb, rfl, _, _, rfl, _, _, rfl, rfl, ?_⟩
        refine ⟨_, rfl, _, rfl, S[k].1, n, rfl, ?_⟩
        refine ⟨_, rfl, .inl ⟨rfl, us, .inl (.inl hu)⟩, _, rfl, _, rfl, _, rfl, _, _, rfl, rfl, (by show (0 : Int) < ((Nat.gcd S[k].1 n : Nat) : Int); omega), (by show 2 ≤ sizeLine; decide), fun t nt => ?_⟩
        have st := same_put (o := .tup [.int ((Nat.gcd S[k].1 n : Nat) : Int), .int (((S[k].2 : Nat) : Int) % ((Nat.gcd S[k].1 n : Nat) : Int))]) nt
        have e8 := st _ _ hu
        have kj : Kj (upd H1 t (.tup [.int ((Nat.gcd S[k].1 n : Nat) : Int), .int (((S[k].2 : Nat) : Int) % ((Nat.gcd S[k].1 n : Nat) : Int))])) (upd (upd H1 t (.tup [.int ((Nat.gcd S[k].1 n : Nat) : Int), .int (((S[k].2 : Nat) : Int) % ((Nat.gcd S[k].1 n : Nat) : Int))])) l (.lst (us ++ [.ref t]))) := Kj.putL e8
        refine ⟨l, us, .ref t, rfl, rfl, e8, by omega, _, _, _, rfl, fun b' o' e' => ?_, us ++ [.ref t], upd_same, ?_⟩
        · rw [upd_ne (ne_of_none e' nl)]
          exact st _ _ (s1 _ _ e')
        · have e1 : (clsOf n (S.take (k + 1))).map cDq = (clsOf n (S.take k)).map cDq ++ [cDq (Nat.gcd S[k].1 n, S[k].2 % Nat.gcd S[k].1 n)] := by
            unfold clsOf
            rw [List.take_succ_eq_append_getElem hkS, List.map_append, List.map_append]
            rfl
          rw [e1]
          refine da_app (DaAll.kj kj (tup_cDq _) (hd.mono st)) (.cons ?_ .nil)
          refine .tup (.inl (.inl (kj _ _ upd_same nofun nofun))) (.cons (.int _) (.cons ?_ .nil))
          rw [Int.natCast_emod]
          exact .int _
      · rintro σ' H1 ⟨y3, y4, y5, rfl, s1, us, hu, hd⟩
        rw [hxl, List.take_length] at hd
        exact ⟨_, rfl, q H1 l us s1 nl hu hd⟩
    · refine ⟨_, (pss_cons (ps_set (i := 2) scMkQ.nd rfl (.inl rfl) (pe_lst pa_nil))
      (pss_cons (ps_for PassesOwn.never rfl (pi_list (pv 1)) (pg_tup rfl (pgs_cons (pg_name (i := 3) scMkQ.nd rfl (Or.inl rfl)) (pgs_cons (pg_name (i := 4) scMkQ.nd rfl (Or.inl rfl)) pgs_nil)))
        (pss_cons (ps_set (i := 5) scMkQ.nd rfl (.inl rfl) (pcall C__law_gcd (hr.mono (by omega)) gd (by rfl) (pa_cons (pv 3) (pa_cons (pv 0) pa_nil))))
        (pss_one (ps_expr (pe_bm PySem.F.plainAttrs_list PySem.F.slot_list_append PySem.F.type_list_append mt_append (pv 2) (pa_cons (pe_tup (pa_cons (pv 5) (pa_cons (pe_op op_mod (pv 4) (pv 5)) pa_nil))) pa_nil))))))
      (pss_one (ps_ret (pv 2))))), ?_⟩
      have sl := sizeLine_eq
      have hxl := daAll_len hall
      rw [List.length_map] at hxl
      refine ⟨(by show 0 ≤ sizeLine; omega), fun l nl => ?_⟩
      refine ⟨_, rfl, a, rfl, ⟨xs, Same.seq (same_put nl) ht⟩, for_list (K := K) (a := a) (xs := xs) (fun k σ' H' => ∃ y3 y4 y5 : Option V, σ' = [some (.int (n : Nat)), some (.ref a), some (.ref l), y3, y4, y5] ∧ Same H H' ∧ ∃ us, H' l = some (.lst us) ∧ DaAll K H' us ((clsOf n (S.take k)).map cDq)) ⟨_, _, _, rfl, same_put nl, [], upd_same, by rw [List.take_zero]; exact .nil⟩ (fun k σ' H' _ ⟨_, _, _, _, s', _⟩ => s'.seq ht) ?_ ?_⟩
      · rintro k v σ' H1 hk ⟨y3, y4, y5, rfl, s1, us, hu, hd⟩
        obtain ⟨d, hd1, hvd⟩ := daAll_at (hall.mono s1) hk
        have hkS : k < S.length := by
          have := (List.getElem?_eq_some_iff.mp hk).1
          omega
        rw [List.getElem?_map, List.getElem?_eq_getElem hkS] at hd1
        cases hd1
        obtain ⟨b, rfl, hb⟩ := da_cDq hvd
        have hg := Nat.gcd_pos_of_pos_right S[k].1 hn
        have hul := daAll_len hd
        rw [List.length_map, clsOf_len, List.length_take] at hul
        refine ⟨b, _, rfl, hb, rfl, _, _, rfl, _, _, rfl, rfl, ?_⟩
        refine ⟨_, rfl, _, rfl, S[k].1, n, rfl, ?_⟩
        refine ⟨_, rfl, .inl ⟨rfl, us, .inl (.inl hu)⟩, _, rfl, _, rfl, _, rfl, _, _, rfl, rfl, (by show (0 : Int) < ((Nat.gcd S[k].1 n : Nat) : Int); omega), (by show 2 ≤ sizeLine; decide), fun t nt => ?_⟩
        have st := same_put (o := .tup [.int ((Nat.gcd S[k].1 n : Nat) : Int), .int (((S[k].2 : Nat) : Int) % ((Nat.gcd S[k].1 n : Nat) : Int))]) nt
        have e8 := st _ _ hu
        have kj : Kj (upd H1 t (.tup [.int ((Nat.gcd S[k].1 n : Nat) : Int), .int (((S[k].2 : Nat) : Int) % ((Nat.gcd S[k].1 n : Nat) : Int))])) (upd (upd H1 t (.tup [.int ((Nat.gcd S[k].1 n : Nat) : Int), .int (((S[k].2 : Nat) : Int) % ((Nat.gcd S[k].1 n : Nat) : Int))])) l (.lst (us ++ [.ref t]))) := Kj.putL e8
        refine ⟨l, us, .ref t, rfl, rfl, e8, by omega, _, _, _, rfl, fun b' o' e' => ?_, us ++ [.ref t], upd_same, ?_⟩
        · rw [upd_ne (ne_of_none e' nl)]
          exact st _ _ (s1 _ _ e')
        · have e1 : (clsOf n (S.take (k + 1))).map cDq = (clsOf n (S.take k)).map cDq ++ [cDq (Nat.gcd S[k].1 n, S[k].2 % Nat.gcd S[k].1 n)] := by
            unfold clsOf
            rw [List.take_succ_eq_append_getElem hkS, List.map_append, List.map_append]
            rfl
          rw [e1]
          refine da_app (DaAll.kj kj (tup_cDq _) (hd.mono st)) (.cons ?_ .nil)
          refine .tup (.inl (.inl (kj _ _ upd_same nofun nofun))) (.cons (.int _) (.cons ?_ .nil))
          rw [Int.natCast_emod]
          exact .int _
      · rintro σ' H1 ⟨y3, y4, y5, rfl, s1, us, hu, hd⟩
        rw [hxl, List.take_length] at hd
        exact ⟨_, rfl, q H1 l us s1 nl hu hd⟩
theorem rgV3_ticks {n a c : Nat} : rgV3 ((a : Nat) : Int) ((c : Nat) : Int) ((n - a + c - 1) / c) = (ticksC n (c, a)).map nV := by
  unfold rgV3 ticksC
  rw [List.map_map]
  refine List.map_congr_left fun i _ => ?_
  show V.int (((a : Nat) : Int) + ((i : Nat) : Int) * ((c : Nat) : Int)) = V.int ((a + i * c : Nat) : Int)
  rw [Int.natCast_add, Int.natCast_mul]
theorem ok_snQ (D : Def K mg "_law_seen" (topS 28) ["_law_count", "_law_sampler"]) (C__law_marks : Cal P w K mg base 2 "_law_marks" ["_law_count", "_law_some"] (spMkL K)) (nb : NB mg) : Cal P w K mg base 3 "_law_seen" ["_law_count", "_law_sampler"] (spSnQ K) := by
  refine D.ok scSnQ (fun vs H Q E h => ?_) (fun fa cdv A outer sh H vs Q E hr gd h => ?_)
  · obtain ⟨n, v, e, rfl, _⟩ := h
    rfl
  · obtain ⟨n, v, e, rfl, hn, hn2, hv, q⟩ := h
    refine ⟨_, (pss_cons (ps_asg (pe_ix ix_list (pcall C__law_marks (hr.mono (by omega)) gd (by rfl) (pa_cons (pv 0) (pa_cons (pe_lst (pa_cons (pv 1) pa_nil)) pa_nil))) pe_int (fun _ _ => rfl)) (pg_tup rfl (pgs_cons (pg_name (i := 2) scSnQ.nd rfl (Or.inl rfl)) (pgs_cons (pg_name (i := 3) scSnQ.nd rfl (Or.inl rfl)) pgs_nil))))
      (pss_one (ps_ret (pe_listRg3 rfl (by rfl) nb.at (by rfl) nb.at (pa_cons (pv 3) (pa_cons (pv 0) (pa_cons (pv 2) pa_nil))))))), ?_⟩
    have sl := sizeLine_eq
    refine ⟨_, rfl, _, rfl, (by show 1 ≤ sizeLine; decide), fun l nl => ?_⟩
    have s1 := same_put (o := .lst [v]) nl
    refine ⟨n, l, [v], [e], rfl, hn, (by show 1 ≤ 1000; decide), .inl (.inl upd_same), .cons (hv.mono s1) .nil, fun H2 a us s2 na ha hd => ?_⟩
    have hul := daAll_len hd
    have hul : us.length = 1 := hul
    obtain ⟨d, hd1, hvd⟩ := daAll_at hd (List.getElem?_eq_getElem (show 0 < us.length by omega))
    have hd1 : some (cDq (Nat.gcd e.1 n, e.2 % Nat.gcd e.1 n)) = some d := hd1
    cases hd1
    obtain ⟨b, eb, hb⟩ := da_cDq hvd
    have hg := Nat.gcd_pos_of_pos_right e.1 hn
    have hgn := Nat.gcd_le_right e.1 hn
    have hlt : e.2 % Nat.gcd e.1 n < Nat.gcd e.1 n := Nat.mod_lt _ hg
    refine ⟨a, us, (0 : Nat), .ref b, rfl, rfl, .inl (.inl ha), atI_of (by rw [List.getElem?_eq_getElem (show 0 < us.length by omega), eb]), b, _, rfl, hb, rfl, _, _, rfl, _, _, rfl, rfl, ?_⟩
    have c9 : (((Nat.gcd e.1 n : Nat) : Int).natAbs).log2 < 9000 := by
      rw [Int.natAbs_natCast]
      exact Nat.lt_of_lt_of_le (PySem.Flt.log2_lt_of (show 0 < 20 by decide) (show Nat.gcd e.1 n < 2 ^ 20 by omega)) (by decide)
    refine ⟨_, rfl, _, rfl, _, rfl, _, _, _, (n - e.2 % Nat.gcd e.1 n + Nat.gcd e.1 n - 1) / Nat.gcd e.1 n, rfl, by omega, c9, size_up hg, ?_, small_up hg (by omega) (by omega) (by omega), fun p np => ?_⟩
    · have := Nat.div_le_self (n - e.2 % Nat.gcd e.1 n + Nat.gcd e.1 n - 1) (Nat.gcd e.1 n)
      omega
    · rw [rgV3_ticks]
      exact q _ p (s1.trans (s2.trans (same_put np))) upd_same
end
end Ev

/-! ## Lists of pairs, and dicts of them -/
namespace Ev
open PySem PySem.Spec PyProof.Rows L2
theorem paired_of {α β : Type} {R : α → β → Prop} : ∀ {as : List α} {bs : List β}, as.length = bs.length → (∀ (j : Nat) a b, as[j]? = some a → bs[j]? = some b → R a b) → Paired R as bs
  | [], [], _, _ => .nil
  | [], _ :: _, h, _ => by simp at h
  | _ :: _, [], h, _ => by simp at h
  | a :: as, b :: bs, h, f => .cons (f 0 a b rfl rfl) (paired_of (by simpa using h) fun j x y h1 h2 => f (j + 1) x y (by simpa using h1) (by simpa using h2))
/-- [(..) for x in a list] -/
theorem lcT_list {K : PySem.W.Frag} {σ : L2.St} {H : Hp} {Q : VK} {te ti : TE} {a : Addr} {xs : List V} {g : TG} {vs : List Nat} (row : V → List V) (hi : ∀ Q : VK, Q (.ref a) H → ti σ H Q) (hx : SqL K H a xs) (hz : xs.length ≤ 1000000)
    (he : ∀ x ∈ xs, ∀ (H' : Hp) (R : VK), Same H H' → (∀ H'' t, Same H' H'' → H' t = none → H'' t = some (.tup (row x)) → R (.ref t) H'') → g x (wipe σ vs) H' fun σ2 H2 => wipe σ2 vs = wipe σ vs ∧ te σ2 H2 R)
    (q : ∀ H' D (ps : List Addr), Same H H' → H D = none → H' D = some (.lst (ps.map V.ref)) → ps.length = xs.length → (∀ (j : Nat) t x, ps[j]? = some t → xs[j]? = some x → H' t = some (.tup (row x))) → Q (.ref D) H') : tLc (iList K ti) g tYes te vs σ H Q := by
  refine hi _ ⟨a, rfl, ⟨xs, hx⟩, fun D nD => ?_⟩
  have y := sizeLine_eq
  refine lc_list (K := K) (a := a) (xs := xs) (fun k H' => Same H H' ∧ ∃ ps : List Addr, H' D = some (.lst (ps.map V.ref)) ∧ ps.length = k ∧ ∀ (j : Nat) t x, ps[j]? = some t → xs[j]? = some x → t ≠ D ∧ H' t = some (.tup (row x)))
    ⟨same_put nD, [], upd_same, rfl, fun j t x h => by simp at h⟩ (fun k H' _ ⟨s', _⟩ => s'.seq hx) ?_ ?_
  · rintro k x H' hk ⟨s', ps, eD, hl, hp⟩
    have hkl : k < xs.length := (List.getElem?_eq_some_iff.mp hk).1
    refine cast ?_ (he x (List.mem_of_getElem? hk) H' (fun y H4 => ∃ acc, H4 D = some (.lst acc) ∧ acc.length < sizeLine ∧ Same H (upd H4 D (.lst (acc ++ [y]))) ∧ ∃ ps : List Addr, upd H4 D (.lst (acc ++ [y])) D = some (.lst (ps.map V.ref)) ∧ ps.length = k + 1 ∧ ∀ (j : Nat) t x, ps[j]? = some t → xs[j]? = some x → t ≠ D ∧ upd H4 D (.lst (acc ++ [y])) t = some (.tup (row x))) s' fun H4 t s4 nt h4 => ⟨_, s4 _ _ eD, ?_, ?_, ps ++ [t], ?_, ?_, ?_⟩)
    · rfl
    · rw [List.length_map]
      omega
    · intro b o h
      rw [upd_ne (ne_of_none h nD)]
      exact s4 _ _ (s' _ _ h)
    · rw [upd_same, List.map_append]
      rfl
    · rw [List.length_append, hl]
      rfl
    · intro j u z hj hz
      have htD : t ≠ D := fun e => by
        rw [e, eD] at nt
        cases nt
      by_cases hjk : j < k
      · rw [List.getElem?_append_left (by omega)] at hj
        obtain ⟨g1, g2⟩ := hp j u z hj hz
        refine ⟨g1, ?_⟩
        rw [upd_ne g1]
        exact s4 _ _ g2
      · have hjk : j = k := by
          obtain ⟨h1, _⟩ := List.getElem?_eq_some_iff.mp hj
          rw [List.length_append, hl] at h1
          have h1 : j < k + 1 := h1
          omega
        subst hjk
        rw [List.getElem?_append_right (by omega), hl, Nat.sub_self] at hj
        obtain rfl : t = u := Option.some.inj hj
        obtain rfl : x = z := Option.some.inj (hk.symm.trans hz)
        refine ⟨htD, ?_⟩
        rw [upd_ne htD]
        exact h4
  · rintro H' ⟨s', ps, eD, hl, hp⟩
    exact q H' D ps s' nD eD hl fun j t x h1 h2 => (hp j t x h1 h2).2
theorem merge_val {v : Key → V} {k : Key} : ∀ {kvs acc : List (Key × V)}, (∀ p ∈ kvs, p.2 = v p.1) → ((∃ p ∈ kvs, p.1 = k) ∨ valV acc k = some (v k)) → valV (mergeK acc kvs) k = some (v k)
  | [], acc, _, h => by
    rcases h with ⟨p, hp, _⟩ | h
    · cases hp
    · exact h
  | p :: kvs, acc, hv, h => by
    show valV (mergeK (putK acc p.1 p.2) kvs) k = _
    refine merge_val (fun q hq => hv q (List.mem_cons_of_mem _ hq)) ?_
    by_cases e : k = p.1
    · right
      rw [valV_put, if_pos e, hv p (List.mem_cons_self ..), e]
    · rcases h with ⟨q, hq, eq⟩ | h
      · rcases List.mem_cons.mp hq with rfl | hq
        · exact absurd eq.symm e
        · exact .inl ⟨q, hq, eq⟩
      · right
        rw [valV_put, if_neg e]
        exact h
/-- a dict from numbers -/
theorem merge_nat {v : Nat → V} {ds : List Nat} {d : Nat} (h : d ∈ ds) : valV (mergeK [] (ds.map fun d => ((.inl ((d : Nat) : Int) : Key), v d))) (.inl ((d : Nat) : Int)) = some (v d) := by
  refine merge_val (v := fun k => match k with | .inl i => v i.toNat | .inr _ => .non) (k := .inl ((d : Nat) : Int)) (fun p hp => ?_) (.inl ⟨(.inl ((d : Nat) : Int), v d), List.mem_map.mpr ⟨d, h, rfl⟩, rfl⟩)
  obtain ⟨e, _, rfl⟩ := List.mem_map.mp hp
  rfl
end Ev

/-! ## is True, is False; tuples in a comprehension over a range -/
namespace Ev
open PySem PySem.Spec PyProof.Rows L2
section
variable {X : Cx} {a : Expr} {ta : TE}
def tIsB (b : Bool) (ta : TE) : TE := fun σ H Q => ta σ H fun x H1 => ∃ c, x = .bl c ∧ Q (.bl (c == b)) H1
def tNotB (b : Bool) (ta : TE) : TE := fun σ H Q => ta σ H fun x H1 => ∃ c, x = .bl c ∧ Q (.bl (c != b)) H1
theorem pc_isB {b : Bool} {j pos'} (ha : PE X a ta) : PC X .Is a (.Constant (.bool b) j pos') (tIsB b ta) := by
  refine ⟨fun pins s σ H Q I h => thn (ha.run pins s σ H _ I h) fun v s1 ⟨x, H1, I1, r1, c, ex, q1⟩ => ?_⟩
  subst ex
  cases r1
  exact Constant_bool (is_bool ⟨.bl _, H1, I1, rfl, q1⟩)
theorem pc_notB {b : Bool} {j pos'} (ha : PE X a ta) : PC X .IsNot a (.Constant (.bool b) j pos') (tNotB b ta) := by
  refine ⟨fun pins s σ H Q I h => thn (ha.run pins s σ H _ I h) fun v s1 ⟨x, H1, I1, r1, c, ex, q1⟩ => ?_⟩
  subst ex
  cases r1
  exact Constant_bool (isnot_bool ⟨.bl _, H1, I1, rfl, q1⟩)
end
abbrev rTupOf (K : PySem.W.Frag) : List V → Hp → VK → Prop := fun xs H Q => ∃ p ys, xs = [.ref p] ∧ ((SqL K H p ys ∧ ∀ l, H l = none → Q (.ref l) (upd H l (.tup ys))) ∨ (SqT K H p ys ∧ Q (.ref p) H))
/-- [(..) for k in range(n)] -/
theorem lcT_rng {σ : L2.St} {H : Hp} {Q : VK} {te : TE} {ta : TA} {n : Nat} {g : TG} {vs : List Nat} (row : Nat → List V) (hta : ∀ (Q : List V → Hp → Prop), Q [.int (n : Nat)] H → ta σ H Q) (hz : n ≤ 1000000)
    (he : ∀ k, k < n → ∀ (H' : Hp) (R : VK), Same H H' → (∀ H'' t, Same H' H'' → H' t = none → H'' t = some (.tup (row k)) → R (.ref t) H'') → g (nV k) (wipe σ vs) H' fun σ2 H2 => wipe σ2 vs = wipe σ vs ∧ te σ2 H2 R)
    (q : ∀ H' D (ps : List Addr), Same H H' → H D = none → H' D = some (.lst (ps.map V.ref)) → ps.length = n → (∀ (j : Nat) t, ps[j]? = some t → H' t = some (.tup (row j))) → Q (.ref D) H') : tLc (iRng1 ta) g tYes te vs σ H Q := by
  refine hta _ ⟨(n : Nat), rfl, by omega, by omega, fun D nD => ?_⟩
  have y := sizeLine_eq
  rw [Int.toNat_natCast]
  refine lc_range (lo := 0) (n := n) (fun k H' => Same H H' ∧ ∃ ps : List Addr, H' D = some (.lst (ps.map V.ref)) ∧ ps.length = k ∧ ∀ (j : Nat) t, ps[j]? = some t → t ≠ D ∧ H' t = some (.tup (row j)))
    ⟨same_put nD, [], upd_same, rfl, fun j t h => by simp at h⟩ ?_ ?_
  · rintro k H' hk ⟨s', ps, eD, hl, hp⟩
    have e0 : V.int (0 + (k : Nat)) = nV k := by
      show V.int (0 + (k : Nat)) = V.int (k : Nat)
      rw [Int.zero_add]
    rw [e0]
    refine cast ?_ (he k hk H' (fun y H4 => ∃ acc, H4 D = some (.lst acc) ∧ acc.length < sizeLine ∧ Same H (upd H4 D (.lst (acc ++ [y]))) ∧ ∃ ps : List Addr, upd H4 D (.lst (acc ++ [y])) D = some (.lst (ps.map V.ref)) ∧ ps.length = k + 1 ∧ ∀ (j : Nat) t, ps[j]? = some t → t ≠ D ∧ upd H4 D (.lst (acc ++ [y])) t = some (.tup (row j))) s' fun H4 t s4 nt h4 => ⟨_, s4 _ _ eD, ?_, ?_, ps ++ [t], ?_, ?_, ?_⟩)
    · rfl
    · rw [List.length_map]
      omega
    · intro b o h
      rw [upd_ne (ne_of_none h nD)]
      exact s4 _ _ (s' _ _ h)
    · rw [upd_same, List.map_append]
      rfl
    · rw [List.length_append, hl]
      rfl
    · intro j u hj
      have htD : t ≠ D := fun e => by
        rw [e, eD] at nt
        cases nt
      by_cases hjk : j < k
      · rw [List.getElem?_append_left (by omega)] at hj
        obtain ⟨g1, g2⟩ := hp j u hj
        refine ⟨g1, ?_⟩
        rw [upd_ne g1]
        exact s4 _ _ g2
      · have hjk : j = k := by
          obtain ⟨h1, _⟩ := List.getElem?_eq_some_iff.mp hj
          rw [List.length_append, hl] at h1
          have h1 : j < k + 1 := h1
          omega
        subst hjk
        rw [List.getElem?_append_right (by omega), hl, Nat.sub_self] at hj
        obtain rfl : t = u := Option.some.inj hj
        refine ⟨htD, ?_⟩
        rw [upd_ne htD]
        exact h4
  · rintro H' ⟨s', ps, eD, hl, hp⟩
    exact q H' D ps s' nD eD hl fun j t h1 => (hp j t h1).2
theorem cb_lcB {tl : TE} {r : List V → Hp → VK → Prop} {Q : VK} {σ : L2.St} {H : Hp} (h : tl σ H fun v H1 => r [v] H1 Q) : tCB r (tCons tl tNil) σ H Q := h
theorem ret_cbB {tl : TE} {r : List V → Hp → VK → Prop} {D : Ends} {σ : L2.St} {H : Hp} (h : tl σ H fun v H1 => r [v] H1 D.rt) : tRet (tCB r (tCons tl tNil)) D σ H := h
def stV (e : Str → V) : V → V
  | .str x => e x
  | v => v
theorem filt_st {e : Str → V} {l : List Str} : ((l.map V.str).filter (fun _ => true)).map (stV e) = l.map e := by
  rw [List.filter_eq_self.mpr (fun _ _ => rfl), List.map_map]
  rfl
end Ev

/-! ## classes_of -/
namespace Ev
open PySem PySem.Spec PyProof.Rows L2 Pm
def spCo (K : PySem.W.Frag) : Sp := fun vs H Q _ => ∃ (n : Nat) (x : V) (S : List (Nat × Nat)), vs = [.int (n : Nat), x] ∧ 1 ≤ n ∧ S.length ≤ 1000 ∧ Da K H x (.tuple (S.map cDq)) ∧ ∀ H' a, Same H H' → ClL K H' a (clsOf n S) → Q (.ref a) H'
theorem scCof : FnScope ["length", "samplers", "moduli", "period", "start", "modulus"] ["length", "samplers"] (defScope (topS 9)) := ⟨rfl, rfl, rfl, by decide +kernel, rfl, by decide +kernel, by decide +kernel⟩
section
variable {P : Program} {w : World} {K : PySem.W.Frag} {mg : Str → Option Value} {base : Heap}
theorem ok_cof (D : Def K mg "classes_of" (topS 9) ["length", "samplers"]) (C_common_divisor : Cal P w K mg base 1 "common_divisor" ["one", "other"] spGcd) (nb : NB mg) : Cal P w K mg base 2 "classes_of" ["length", "samplers"] (spCo K) := by
  refine D.ok scCof (fun vs H Q E h => ?_) (fun fa cdv A outer sh H vs Q E hr gd h => ?_)
  · obtain ⟨n, x, S, rfl, _⟩ := h
    rfl
  · obtain ⟨n, x, S, rfl, hn, hS, hx, q⟩ := h
    refine ⟨_, (pss_cons (ps_setLc (i := 2) (own := [("period", 3), ("start", 4)]) (g := (gTup K 2 (gCons (gName 3) (gCons (gName 4) gNil)))) (tt := tYes) (te := (tCall spGcd [] E0 (tCons (tVar 3) (tCons (tVar 0) tNil)))) rfl scCof.nd rfl rfl (sw_true rfl rfl rfl rfl) (pi_tup (pv 1)) (blkOk_by (N := ["length", "samplers", "moduli", "period", "start", "modulus"]) (sc := defScope (topS 9)) (by decide +kernel)) (fun _ _ _ _ _ => (pg_tup rfl (pgs_cons (pg_name (i := 3) scCof.nd rfl (Or.inl rfl)) (pgs_cons (pg_name (i := 4) scCof.nd rfl (Or.inl rfl)) pgs_nil)))) (fun _ _ _ _ _ => pts_nil) (fun _ _ _ _ _ => (pcall C_common_divisor (hr.mono (by omega)) gd (by rfl) (pa_cons (pv 3) (pa_cons (pv 0) pa_nil)))))
      (pss_one (ps_ret (pe_lc (own := [("modulus", 5), ("period", 3), ("start", 4)]) (g := (gTup K 2 (gCons (gName 5) (gCons (gTup K 2 (gCons (gName 3) (gCons (gName 4) gNil))) gNil)))) (tt := tYes) (te := (tTup (tCons (tVar 5) (tCons (tOp (rI (fun _ j => 0 < j) fun i j => .int (i % j)) (tVar 4) (tVar 5)) tNil)))) rfl scCof.nd (pi_zipU rfl nb.at (pa_cons (pv 2) (pa_cons (pv 1) pa_nil))) (blkOk_by (N := ["length", "samplers", "moduli", "period", "start", "modulus"]) (sc := defScope (topS 9)) (by decide +kernel)) (fun _ _ _ _ _ => (pg_tup rfl (pgs_cons (pg_name (i := 5) scCof.nd rfl (Or.inl rfl)) (pgs_cons (pg_tup rfl (pgs_cons (pg_name (i := 3) scCof.nd rfl (Or.inl rfl)) (pgs_cons (pg_name (i := 4) scCof.nd rfl (Or.inl rfl)) pgs_nil))) pgs_nil)))) (fun _ _ _ _ _ => pts_nil) (fun _ _ _ _ _ => (pe_tup (pa_cons (pv 5) (pa_cons (pe_op op_mod (pv 4) (pv 5)) pa_nil)))))))), ?_⟩
    have sl := sizeLine_eq
    obtain ⟨a, xs, rfl, ht, hall⟩ : ∃ a xs, x = .ref a ∧ SqT K H a xs ∧ DaAll K H xs (S.map cDq) := by
      cases hx with
      | @tup a xs _ ht hall => exact ⟨a, xs, rfl, ht, hall⟩
    have hxl := daAll_len hall
    rw [List.length_map] at hxl
    have at_ : ∀ {H' : Hp} {k : Nat} {v : V}, Same H H' → xs[k]? = some v → ∃ (h : k < S.length) (b : Addr), v = .ref b ∧ SqT K H' b [.int (S[k].1 : Nat), .int (S[k].2 : Nat)] := fun {H' k v} s hv => by
      obtain ⟨d, hd, hvd⟩ := daAll_at (hall.mono s) hv
      have hk : k < S.length := by
        have := (List.getElem?_eq_some_iff.mp hv).1
        omega
      rw [List.getElem?_map, List.getElem?_eq_getElem hk] at hd
      cases hd
      obtain ⟨b, e, hb⟩ := da_cDq hvd
      exact ⟨hk, b, e, hb⟩
    dsimp only [tSeq, tAsg]
    refine lcI_tup (a := a) (xs := xs) (ys := S.map fun e => .int ((Nat.gcd e.1 n : Nat) : Int)) (by rw [List.length_map, hxl]) (fun Q hq => ⟨_, rfl, hq⟩) ht (by omega) (fun k x y hxk hyk H' R s' hR => ?_) (fun H1 D s1 nD eD => ?_)
    · obtain ⟨hk, b, rfl, hb⟩ := at_ s' hxk
      rw [List.getElem?_map, List.getElem?_eq_getElem hk] at hyk
      cases hyk
      exact ⟨b, _, rfl, hb, rfl, _, _, rfl, _, _, rfl, rfl, rfl, _, rfl, _, rfl, S[k].1, n, rfl, hR _ Same.rfl'⟩
    · dsimp only [gName, tRet]
      refine lcD_zu (a := D) (b := a) (xs := S.map fun e => .int ((Nat.gcd e.1 n : Nat) : Int)) (ws := xs) (ds := (clsOf n S).map cDq) (by rw [List.length_map, clsOf_len, List.length_map]) (by rw [List.length_map, hxl]) (tup_cDq _) (fun Q hq => ⟨_, rfl, _, rfl, hq⟩) (.inl (.inl eD)) (seqT_mono s1 ht) (by rw [List.length_map]; omega) (fun k x y d hxk hyk hdk H' T R s' nT hR => ?_) (fun H2 D2 us s2 nD2 eD2 hus => q H2 D2 (s1.trans s2) ⟨us, .inl (.inl eD2), hus⟩)
      have sT := same_put (o := .tup [x, y]) nT
      obtain ⟨hk, b, rfl, hb⟩ := at_ (s1.trans (s'.trans sT)) hyk
      rw [List.getElem?_map, List.getElem?_eq_getElem hk] at hxk
      cases hxk
      rw [List.getElem?_map, clsOf, List.getElem?_map, List.getElem?_eq_getElem hk] at hdk
      cases hdk
      have hg := Nat.gcd_pos_of_pos_right S[k].1 hn
      refine ⟨T, _, rfl, .inl (.inl upd_same), rfl, _, _, rfl, _, _, rfl, b, _, rfl, hb, rfl, _, _, rfl, _, _, rfl, rfl, rfl, rfl, ?_⟩
      refine ⟨_, rfl, _, rfl, _, rfl, _, _, rfl, rfl, (by show (0 : Int) < ((Nat.gcd S[k].1 n : Nat) : Int); omega), (by show 2 ≤ sizeLine; decide), fun t nt => hR _ (.ref t) (same_put nt) ?_⟩
      refine .tup (.inl (.inl upd_same)) (.cons (.int _) (.cons ?_ .nil))
      rw [Int.natCast_emod]
      exact .int _
end
end Ev

/-! ## reduced, weights -/
namespace Ev
open PySem PySem.Spec PyProof.Rows L2 Pm
def spRq (K : PySem.W.Frag) : Sp := fun vs H Q _ => ∃ a b : Int, vs = [.int a, .int b] ∧ 0 < b ∧ b.natAbs < 2 ^ 8800 ∧ ∀ H' u, Same H H' → Da K H' u (frD (red a b)) → Q u H'
def spWt (K : PySem.W.Frag) : Sp := fun vs H Q _ => ∃ (n : Nat) (x : V) (S : List (Nat × Nat)), vs = [.int (n : Nat), x] ∧ 1 ≤ n ∧ n ≤ 48 ∧ S.length ≤ 12 ∧ Da K H x (.tuple (S.map cDq)) ∧ ∀ H' u, Same H H' →
  (fst0 ((rst n S.length (indC (clsOf n S))).take n) ≠ none → u = .non) → (fst0 ((rst n S.length (indC (clsOf n S))).take n) = none → Da K H' u (.tuple ((wtsV n (clsOf n S)).map frD))) → Q u H'
theorem scRq : FnScope ["numerator", "denominator", "shared"] ["numerator", "denominator"] (defScope (topS 3)) := ⟨rfl, rfl, rfl, by decide +kernel, rfl, by decide +kernel, by decide +kernel⟩
theorem scWts : FnScope ["length", "samplers", "classes", "rest", "parts", "scale", "part", "modulus", "place"] ["length", "samplers"] (defScope (topS 5)) := ⟨rfl, rfl, rfl, by decide +kernel, rfl, by decide +kernel, by decide +kernel⟩
section
variable {P : Program} {w : World} {K : PySem.W.Frag} {mg : Str → Option Value} {base : Heap}
theorem ok_rq (D : Def K mg "reduced" (topS 3) ["numerator", "denominator"]) (C_common_divisor : Cal P w K mg base 1 "common_divisor" ["one", "other"] spGcd) (nb : NB mg) : Cal P w K mg base 2 "reduced" ["numerator", "denominator"] (spRq K) := by
  refine D.ok scRq (fun vs H Q E h => ?_) (fun fa cdv A outer sh H vs Q E hr gd h => ?_)
  · obtain ⟨a, b, rfl, _⟩ := h
    rfl
  · obtain ⟨a, b, rfl, hb1, hb2, q⟩ := h
    refine ⟨_, (pss_cons (ps_set (i := 2) scRq.nd rfl (.inl rfl) (pcall C_common_divisor (hr.mono (by omega)) gd (by rfl) (pa_cons (pv 1) (pa_cons (pe_callB call_abs (by rfl) nb.at (by decide +kernel) (pa_cons (pv 0) pa_nil)) pa_nil))))
      (pss_one (ps_ret (pe_tup (pa_cons (pe_op op_fdivW (pv 0) (pv 2)) (pa_cons (pe_op op_fdivW (pv 1) (pv 2)) pa_nil)))))), ?_⟩
    refine ⟨_, rfl, _, rfl, _, rfl, ?_⟩
    have ea : (if a < 0 then -a else a) = ((a.natAbs : Nat) : Int) := by split <;> omega
    have eb : b = ((b.natAbs : Nat) : Int) := by omega
    have hg := Nat.gcd_pos_of_pos_left a.natAbs (show 0 < b.natAbs by omega)
    have hgb := Nat.gcd_le_left a.natAbs (show 0 < b.natAbs by omega)
    have hc : ∀ x : Int, CDivW x (Nat.gcd b.natAbs a.natAbs : Nat) := fun x => wide_div (b := 8800) (by omega) (by rw [Int.natAbs_natCast]; omega) (by decide) (by decide)
    refine ⟨b.natAbs, a.natAbs, by rw [ea, ← eb]; rfl, _, rfl, _, rfl, _, _, rfl, rfl, hc a, _, rfl, _, rfl, _, _, rfl, rfl, hc b, (by show 2 ≤ sizeLine; decide), fun t nt => q _ _ (same_put nt) ?_⟩
    exact .tup (.inl (.inl upd_same)) (.cons (.int _) (.cons (.int _) .nil))
theorem ok_wts (D : Def K mg "weights" (topS 5) ["length", "samplers"]) (C_classes_of : Cal P w K mg base 2 "classes_of" ["length", "samplers"] (spCo K)) (C_cleared : Cal P w K mg base 3 "cleared" ["row", "pivots"] (spCl K)) (C_row_of_ones : Cal P w K mg base 1 "row_of_ones" ["length", "classes"] (spRo K)) (C_pivots_of : Cal P w K mg base 4 "pivots_of" ["length", "classes"] (spPv K)) (C_reduced : Cal P w K mg base 2 "reduced" ["numerator", "denominator"] (spRq K)) (nb : NB mg) : Cal P w K mg base 5 "weights" ["length", "samplers"] (spWt K) := by
  refine D.ok scWts (fun vs H Q E h => ?_) (fun fa cdv A outer sh H vs Q E hr gd h => ?_)
  · obtain ⟨n, x, S, rfl, _⟩ := h
    rfl
  · obtain ⟨n, x, S, rfl, hn, hn48, hS, hx, q⟩ := h
    refine ⟨_, (pss_cons (ps_set (i := 2) scWts.nd rfl (.inl rfl) (pcall C_classes_of (hr.mono (by omega)) gd (by rfl) (pa_cons (pv 0) (pa_cons (pv 1) pa_nil))))
      (pss_cons (ps_set (i := 3) scWts.nd rfl (.inl rfl) (pcall C_cleared (hr.mono (by omega)) gd (by rfl) (pa_cons (pcall C_row_of_ones (hr.mono (by omega)) gd (by rfl) (pa_cons (pv 0) (pa_cons (pv 2) pa_nil))) (pa_cons (pcall C_pivots_of (hr.mono (by omega)) gd (by rfl) (pa_cons (pv 0) (pa_cons (pv 2) pa_nil))) pa_nil))))
      (pss_cons (ps_if (pt_val (pe_callB (cr_anyI rfl) (by rfl) nb.at (by decide +kernel) (pa_cons (pe_slice sl_list (pv 3) po_none (po_some (pv 0))) pa_nil)))
        (pss_one (ps_ret pe_non))
        pss_nil)
      (pss_cons (ps_asg (pe_tup (pa_cons (pe_slice sl_list (pv 3) (po_some (pv 0)) (po_some (pe_un un_neg pe_int))) (pa_cons (pe_ix ix_list (pv 3) (pe_un un_neg pe_int) (fun _ _ => rfl)) pa_nil))) (pg_tup rfl (pgs_cons (pg_name (i := 4) scWts.nd rfl (Or.inl rfl)) (pgs_cons (pg_name (i := 5) scWts.nd rfl (.inr rfl)) pgs_nil))))
      (pss_one (ps_ret (pe_callTy call_tuple_of (by rfl) nb.at (by decide +kernel) (pa_cons (pe_lc (own := [("part", 6), ("modulus", 7), ("place", 8)]) (g := (gTup K 2 (gCons (gName 6) (gCons (gTup K 2 (gCons (gName 7) (gCons (gName 8) gNil))) gNil)))) (tt := tYes) (te := (tCall (spRq K) [] E0 (tCons (tUn (rU fun i => .int (-i)) (tVar 6)) (tCons (tOp (rI CMulW fun i j => .int (i * j)) (tVar 5) (tVar 7)) tNil)))) rfl scWts.nd (pi_zip rfl nb.at (pa_cons (pv 4) (pa_cons (pv 2) pa_nil))) (blkOk_by (N := ["length", "samplers", "classes", "rest", "parts", "scale", "part", "modulus", "place"]) (sc := defScope (topS 5)) (by decide +kernel)) (fun _ _ _ _ _ => (pg_tup rfl (pgs_cons (pg_name (i := 6) scWts.nd rfl (Or.inl rfl)) (pgs_cons (pg_tup rfl (pgs_cons (pg_name (i := 7) scWts.nd rfl (Or.inl rfl)) (pgs_cons (pg_name (i := 8) scWts.nd rfl (Or.inl rfl)) pgs_nil))) pgs_nil)))) (fun _ _ _ _ _ => pts_nil) (fun _ _ _ _ _ => (pcall C_reduced (hr.mono (by omega)) gd (by rfl) (pa_cons (pe_un un_neg (pv 6)) (pa_cons (pe_op op_mulW (pv 5) (pv 7)) pa_nil))))) pa_nil)))))))), ?_⟩
    have sl := sizeLine_eq
    refine ⟨_, rfl, _, rfl, n, x, S, rfl, hn, by omega, hx, fun H1 a s1 hc => ?_⟩
    have hcl : (clsOf n S).length = S.length := clsOf_len
    have hcp := clsOf_pos (S := S) hn
    have q' := q
    rw [← hcl] at q'
    generalize clsOf n S = cl at hc hcl hcp q'
    clear q
    refine ⟨_, rfl, _, rfl, n, a, cl, rfl, by omega, by omega, hc, fun H2 b s2 h2 => ⟨_, rfl, _, rfl, n, a, cl, rfl, hn48, by omega, hc.same s2, fun e he => (hcp e he).1, fun H3 l s3 hl => ?_⟩⟩
    obtain ⟨J, F⟩ := rsF (n := n) (m := cl.length) (indC_le cl) (by omega)
    have ck := pinv_clrOk F.I (indC_le cl) (by omega) (Nat.le_refl _) (Nat.le_refl _) (Nat.lt_succ_self _)
    refine ⟨b, l, _, _, rfl, s3 _ _ h2, by rw [crow_len]; omega, hl, ck, fun H4 c s4 h4 => ?_⟩
    have hvl := F.C.len
    have h4' : H4 c = some (.lst ((rst n cl.length (indC cl)).map V.int)) := h4
    clear h4
    have hs14 := s1.trans (s2.trans (s3.trans s4))
    have hc4 := hc.same (s2.trans (s3.trans s4))
    have hw : wtsV n cl = (List.range cl.length).map fun j => red (-(Pm.gd (rst n cl.length (indC cl)) (n + j))) (Pm.gd (rst n cl.length (indC cl)) (n + cl.length) * ((cl[j]?.getD (1, 0)).1 : Nat)) := rfl
    have bp := F.bp
    have b49 := bn49
    have sc0 := F.C.pos
    generalize rst n cl.length (indC cl) = v at hvl h4' q' hw bp sc0
    generalize wtsV n cl = W at q' hw
    dsimp only [gName, tSeq, tAsg]
    refine ⟨_, rfl, ?_⟩
    dsimp only [tNoPart]
    refine ⟨_, rfl, _, rfl, c, _, rfl, .inl (.inl h4'), fun p np => ?_⟩
    rw [cutV_to, ← List.map_take]
    have sp := same_put (o := .lst ((v.take n).map V.int)) np
    refine ⟨p, v.take n, rfl, .inl (.inl upd_same), _, rfl, ?_⟩
    rw [any_fst0]
    cases hf : fst0 (v.take n) with
    | some k => exact iteT (q' _ .non (hs14.trans sp) (fun _ => rfl) fun z => by rw [hf] at z; cases z)
    | none =>
      refine iteF ?_
      dsimp only [tNext]
      have h5 := sp _ _ h4'
      refine ⟨_, rfl, _, rfl, _, rfl, _, rfl, _, rfl, c, _, rfl, .inl (.inl h5), fun p2 np2 => ?_⟩
      rw [cutV_end (n := n) (m := cl.length) (by rw [List.length_map]; omega)]
      have s6 := same_put (o := .lst (((v.map V.int).drop n).take cl.length)) np2
      refine ⟨_, rfl, _, rfl, c, _, _, _, rfl, rfl, .inl (.inl (s6 _ _ h5)), atI_end (k := n + cl.length) (by omega), (by show 2 ≤ sizeLine; decide), fun t nt => ⟨t, _, rfl, .inl (.inl upd_same), rfl, _, _, rfl, _, _, rfl, rfl, ?_⟩⟩
      have st := same_put (o := .tup [.ref p2, .int (Pm.gd v (n + cl.length))]) nt
      have s16 := hs14.trans (sp.trans (s6.trans st))
      obtain ⟨us, hu, hd⟩ := hc4.same (sp.trans (s6.trans st))
      have hul := daAll_len hd
      rw [List.length_map] at hul
      have hp2 : upd (upd (upd H4 p (.lst ((v.take n).map V.int))) p2 (.lst (((v.map V.int).drop n).take cl.length))) t (.tup [.ref p2, .int (Pm.gd v (n + cl.length))]) p2 = some (.lst (((v.map V.int).drop n).take cl.length)) := st _ _ upd_same
      have hpl : (((v.map V.int).drop n).take cl.length).length = cl.length := by
        rw [List.length_take, List.length_drop, List.length_map]
        omega
      generalize upd (upd (upd H4 p (.lst ((v.take n).map V.int))) p2 (.lst (((v.map V.int).drop n).take cl.length))) t (.tup [.ref p2, .int (Pm.gd v (n + cl.length))]) = H7 at s16 hu hd hp2 ⊢
      dsimp only
      refine ret_cbB (lcD_zip (a := p2) (b := a) (xs := ((v.map V.int).drop n).take cl.length) (ws := us) (ds := W.map frD) (by rw [hw, List.length_map, List.length_map, List.length_range, hpl]) (by rw [hpl, hul]) (tup_fr _) (fun Q hq => ⟨_, rfl, _, rfl, hq⟩) (.inl (.inl hp2)) hu (by omega) (fun k x y d hxk hyk hdk H' T R s' nT hR => ?_) (fun H8 D8 ws s8 nD8 eD8 hus => ?_))
      · have hk : k < cl.length := by
          have := (List.getElem?_eq_some_iff.mp hxk).1
          rw [hpl] at this
          exact this
        have ex : x = .int (Pm.gd v (n + k)) := by
          rw [List.getElem?_take_of_lt hk, List.getElem?_drop] at hxk
          exact (map_int_at hxk).2
        subst ex
        have sT := same_put (o := .tup [.int (Pm.gd v (n + k)), y]) nT
        obtain ⟨dd, hdd, hvd⟩ := daAll_at (hd.mono (s'.trans sT)) hyk
        rw [List.getElem?_map, List.getElem?_eq_getElem hk] at hdd
        cases hdd
        obtain ⟨b, rfl, hb⟩ := da_cDq hvd
        have e0 := (hcp _ (List.getElem_mem hk)).1
        have e48 := (hcp _ (List.getElem_mem hk)).2.2
        have ed : d = frD (red (-(Pm.gd v (n + k))) (Pm.gd v (n + cl.length) * (cl[k].1 : Nat))) := by
          rw [hw, List.getElem?_map, List.getElem?_map, List.getElem?_range hk] at hdk
          have hdk := Option.some.inj hdk
          rw [← hdk]
          dsimp only
          rw [List.getElem?_eq_getElem hk]
          rfl
        subst ed
        have bs := bp cl.length (by omega)
        have b13 : 13 * BN < 2 ^ 49 := bn49
        have prod0 : 0 < Pm.gd v (n + cl.length) * (cl[k].1 : Nat) := Int.mul_pos sc0 (by omega)
        have prodb : (Pm.gd v (n + cl.length) * (cl[k].1 : Nat)).natAbs < 2 ^ 8800 := by
          rw [Int.natAbs_mul, Int.natAbs_natCast]
          have := Nat.mul_le_mul bs (show cl[k].1 ≤ 48 by omega)
          have b3 : BN * 48 < 2 ^ 60 := by decide +kernel
          exact Nat.lt_trans (show _ < 2 ^ 60 by omega) (Nat.pow_lt_pow_right (by decide) (by decide))
        refine ⟨T, _, rfl, .inl (.inl upd_same), rfl, _, _, rfl, _, _, rfl, b, _, rfl, hb, rfl, _, _, rfl, _, _, rfl, rfl, rfl, rfl, ?_⟩
        refine ⟨_, rfl, _, rfl, _, rfl, _, rfl, _, _, rfl, rfl, wide_mul (a := 60) (b := 60) (Nat.lt_of_le_of_lt bs (by decide +kernel)) (by rw [Int.natAbs_natCast]; exact Nat.lt_of_le_of_lt (Nat.le_trans e48 hn48) (by decide)) (by decide) (by decide) (by decide), _, _, rfl, prod0, prodb, fun H'' u s'' hu => hR _ u s'' hu⟩
      · refine ⟨D8, ws, rfl, .inl ⟨.inl (.inl eD8), fun t8 nt8 => ?_⟩⟩
        have s9 := same_put (o := .tup ws) nt8
        exact q' _ _ (s16.trans (s8.trans s9)) (fun z => absurd hf z) fun _ => .tup (.inl (.inl upd_same)) (hus.mono s9)
end
end Ev

/-! ## is_whole -/
namespace Ev
open PySem PySem.Spec PyProof.Rows L2 Pm
def spWhQ (K : PySem.W.Frag) : Sp := fun vs H Q _ => ∃ (x : V) (d : PyData), vs = [x] ∧ Da K H x d ∧ Q (.bl (intB d)) H
theorem scWhQ : FnScope ["value"] ["value"] (defScope (topS 1)) := ⟨rfl, rfl, rfl, by decide +kernel, rfl, by decide +kernel, by decide +kernel⟩
section
variable {P : Program} {w : World} {K : PySem.W.Frag} {mg : Str → Option Value} {base : Heap}
theorem ok_whQ (D : Def K mg "is_whole" (topS 1) ["value"]) (nb : NB mg) : Cal P w K mg base 1 "is_whole" ["value"] (spWhQ K) := by
  refine D.ok scWhQ (fun vs H Q E h => ?_) (fun fa cdv A outer sh H vs Q E hr gd h => ?_)
  · obtain ⟨x, d, rfl, _⟩ := h
    rfl
  · obtain ⟨x, d, rfl, hd, q⟩ := h
    refine ⟨_, (pss_one (ps_ret (pe_and (pe_isT (.inl rfl) nb.at (fun _ => pv 0) (fun _ => ty_of rfl nb.at (by decide +kernel))) (pe_one (pe_not (pe_isT (.inr (.inl rfl)) nb.at (fun _ => pv 0) (fun _ => ty_of rfl nb.at (by decide +kernel)))))))), ?_⟩
    refine ⟨x, d, rfl, hd, _, rfl, ite2 (fun e => ?_) (fun e => ?_)⟩
    · refine ⟨x, d, rfl, hd, _, rfl, ?_⟩
      have z : (!isD "bool" d) = intB d := by
        rw [isD_int] at e
        rw [isD_bool]
        cases d <;> first | rfl | simp at e
      rw [z]
      exact q
    · have z : intB d = false := by
        rw [isD_int] at e
        cases d <;> first | rfl | simp at e
      rw [z] at q
      exact q
end
end Ev

/-! ## is_whole, is_fraction, is_weighed_once, shows_weights -/
namespace Ev
open PySem PySem.Spec PyProof.Rows L2 Pm
def spIfP (K : PySem.W.Frag) : Sp := fun vs H Q _ => ∃ (v : V) (d : PyData), vs = [v] ∧ Da K H v d ∧ ∀ H', Same H H' → Q (.bl (isFr d)) H'
def spW1 (K : PySem.W.Frag) : Sp := fun vs H Q _ => ∃ (t : Nat) (a b : Addr) (cl : List (Nat × Nat)) (ds : List PyData) (us xs : List V), vs = [.int (t : Nat), .ref a, .ref b] ∧ SqL K H a us ∧ DaAll K H us (cl.map cDq) ∧ SqT K H b xs ∧ DaAll K H xs ds ∧ cl.length = ds.length ∧ cl.length ≤ 12 ∧ (∀ e ∈ cl, 0 < e.1 ∧ e.1 ≤ 48) ∧ ds.all isFr = true ∧ (∀ e ∈ ds, (toFr e).1.natAbs < 2 ^ 600 ∧ (toFr e).2.natAbs < 2 ^ 600) ∧ ∀ H', Same H H' → Q (.bl (onceW cl (ds.map toFr) t)) H'
def SmP (d : PyData) : Prop := ∀ ds, d = .tuple ds → ∀ e ∈ ds, isFr e = true → (toFr e).1.natAbs < 2 ^ 600 ∧ (toFr e).2.natAbs < 2 ^ 600
def spSwP (K : PySem.W.Frag) : Sp := fun vs H Q _ => ∃ (n : Nat) (x v : V) (S : List (Nat × Nat)) (d : PyData), vs = [.int (n : Nat), x, v] ∧ 1 ≤ n ∧ n ≤ 48 ∧ S.length ≤ 12 ∧ Da K H x (.tuple (S.map cDq)) ∧ Da K H v d ∧ SmP d ∧ ∀ H', Same H H' → Q (.bl (isWt n (clsOf n S) d)) H'
theorem scIfP : FnScope ["value", "numerator", "denominator"] ["value"] (defScope (topS 10)) := ⟨rfl, rfl, rfl, by decide +kernel, rfl, by decide +kernel, by decide +kernel⟩
theorem scW1 : FnScope ["tick", "classes", "fractions", "numerator", "denominator", "modulus", "place", "above", "below"] ["tick", "classes", "fractions"] (defScope (topS 11)) := ⟨rfl, rfl, rfl, by decide +kernel, rfl, by decide +kernel, by decide +kernel⟩
theorem scSwP : FnScope ["length", "samplers", "value", "weight", "classes", "tick"] ["length", "samplers", "value"] (defScope (topS 6)) := ⟨rfl, rfl, rfl, by decide +kernel, rfl, by decide +kernel, by decide +kernel⟩
section
variable {P : Program} {w : World} {K : PySem.W.Frag} {mg : Str → Option Value} {base : Heap}
theorem ok_ifP (D : Def K mg "is_fraction" (topS 10) ["value"]) (C_is_whole : Cal P w K mg base 1 "is_whole" ["value"] (spWhQ K)) (C_common_divisor : Cal P w K mg base 1 "common_divisor" ["one", "other"] spGcd) (nb : NB mg) : Cal P w K mg base 2 "is_fraction" ["value"] (spIfP K) := by
  refine D.ok scIfP (fun vs H Q E h => ?_) (fun fa cdv A outer sh H vs Q E hr gd h => ?_)
  · obtain ⟨v, d, rfl, _⟩ := h
    rfl
  · obtain ⟨v, d, rfl, hd, q⟩ := h
    refine ⟨_, (pss_cons (ps_if (PW.pt (pw_or (pt_not (pt_val (pe_isT (.inr (.inr (.inl rfl))) nb.at (fun _ => pv 0) (fun _ => ty_of rfl nb.at (by decide +kernel))))) (pw_or1 (pt_cmpR op_ne (pe_callB call_len_seq (by rfl) nb.at PySem.boot_len (pa_cons (pv 0) pa_nil)) pe_int (nomark _)))))
        (pss_one (ps_ret pe_bl))
        pss_nil)
      (pss_cons (ps_asg (pv 0) (pg_tup rfl (pgs_cons (pg_name (i := 1) scIfP.nd rfl (Or.inl rfl)) (pgs_cons (pg_name (i := 2) scIfP.nd rfl (Or.inl rfl)) pgs_nil))))
      (pss_cons (ps_if (PW.pt (pw_or (pt_not (pt_val (pcall C_is_whole (hr.mono (by omega)) gd (by rfl) (pa_cons (pv 1) pa_nil)))) (pw_or (pt_not (pt_val (pcall C_is_whole (hr.mono (by omega)) gd (by rfl) (pa_cons (pv 2) pa_nil)))) (pw_or1 (pt_cmpR op_lt (pv 2) pe_int (nomark _))))))
        (pss_one (ps_ret pe_bl))
        pss_nil)
      (pss_one (ps_ret (pe_cmpR op_eq (pcall C_common_divisor (hr.mono (by omega)) gd (by rfl) (pa_cons (pv 2) (pa_cons (pe_callB call_abs (by rfl) nb.at (by decide +kernel) (pa_cons (pv 1) pa_nil)) pa_nil))) pe_int (nomark _))))))), ?_⟩
    have sl := sizeLine_eq
    by_cases hT : ∃ ds, d = .tuple ds
    · obtain ⟨ds, rfl⟩ := hT
      obtain ⟨a, xs, rfl, ht, hall⟩ : ∃ a xs, v = .ref a ∧ SqT K H a xs ∧ DaAll K H xs ds := by
        cases hd with
        | @tup a xs _ ht hall => exact ⟨a, xs, rfl, ht, hall⟩
      have hxl := daAll_len hall
      by_cases h2 : ds.length = 2
      · obtain ⟨p, r, rfl⟩ : ∃ p r, ds = [p, r] := by
          match ds, h2 with
          | [p, r], _ => exact ⟨p, r, rfl⟩
        obtain ⟨x1, x2, rfl⟩ : ∃ p r, xs = [p, r] := by
          match xs, hxl with
          | [p, r], _ => exact ⟨p, r, rfl⟩
        cases hall with
        | cons q1 q2 =>
        cases q2 with
        | cons q2 q3 =>
        cases q3
        refine ⟨_, _, rfl, hd, true, by rw [isD_tuple], iteF ⟨_, rfl, a, _, rfl, .inr ht, rfl, false, by rw [show (([x1, x2].length : Nat) : Int) = 2 from rfl, decide_eq_true rfl]; rfl, iteF ?_⟩⟩
        refine ⟨_, rfl, a, _, rfl, ht, rfl, _, _, rfl, _, _, rfl, rfl, _, rfl, x1, p, rfl, q1, _, rfl, ?_⟩
        have nope : isFr (.tuple [p, r]) = false → Q (.bl false) H := fun z => by
          have := q H Same.rfl'
          rw [z] at this
          exact this
        by_cases hp : ∃ u, p = .int u
        · obtain ⟨u, rfl⟩ := hp
          refine iteF ⟨_, rfl, x2, r, rfl, q2, _, rfl, ?_⟩
          by_cases hr2 : ∃ u, r = .int u
          · obtain ⟨w', rfl⟩ := hr2
            cases q1
            cases q2
            refine iteF ⟨_, rfl, _, _, rfl, rfl, _, rfl, ite2 (fun e => ?_) (fun e => ?_)⟩
            · have e := of_decide_eq_true e
              refine nope ?_
              show (decide (0 < w') && decide (Nat.gcd u.natAbs w'.natAbs = 1)) = false
              rw [decide_eq_false (by omega), Bool.false_and]
            · have e : ¬ w' < 1 := fun h => e (decide_eq_true h)
              have ea : (if u < 0 then -u else u) = ((u.natAbs : Nat) : Int) := by split <;> omega
              have eb : w' = ((w'.natAbs : Nat) : Int) := by omega
              refine ⟨_, rfl, _, rfl, _, rfl, w'.natAbs, u.natAbs, by rw [ea, ← eb]; rfl, rfl, ?_⟩
              have z : decide (V.int ((Nat.gcd w'.natAbs u.natAbs : Nat) : Int) = V.int 1) = isFr (.tuple [.int u, .int w']) := by
                show _ = (decide (0 < w') && decide (Nat.gcd u.natAbs w'.natAbs = 1))
                rw [decide_eq_true (show 0 < w' by omega), Bool.true_and, Nat.gcd_comm]
                exact decide_eq_decide.mpr ⟨fun h => by have := V.int.inj h; omega, fun h => by rw [h]; rfl⟩
              rw [z]
              exact q H Same.rfl'
          · have z : intB r = false := by
              cases r <;> first | rfl | exact absurd ⟨_, rfl⟩ hr2
            rw [z]
            refine iteT (iteT (nope ?_))
            unfold isFr
            split
            · rename_i h
              cases h
              exact absurd ⟨_, rfl⟩ hr2
            · rfl
        · have z : intB p = false := by
            cases p <;> first | rfl | exact absurd ⟨_, rfl⟩ hp
          rw [z]
          refine iteT (iteT (nope ?_))
          unfold isFr
          split
          · rename_i h
            cases h
            exact absurd ⟨_, rfl⟩ hp
          · rfl
      · have z : isFr (.tuple ds) = false := by
          unfold isFr
          split
          · rename_i h
            cases h
            exact absurd rfl h2
          · rfl
        rw [z] at q
        refine ⟨_, _, rfl, hd, true, by rw [isD_tuple], iteF ⟨_, rfl, a, xs, rfl, .inr ht, rfl, true, by rw [decide_eq_false fun h => h2 (by have := V.int.inj h; omega)]; rfl, iteT (q H Same.rfl')⟩⟩
    · have z : isFr d = false := by
        cases d <;> first | rfl | exact absurd ⟨_, rfl⟩ hT
      rw [z] at q
      have zt : isD "tuple" d = false := by
        rw [isD_tuple]
        cases d <;> first | rfl | exact absurd ⟨_, rfl⟩ hT
      refine ⟨_, _, rfl, hd, false, by rw [zt], iteT (iteT (q H Same.rfl'))⟩
theorem ok_w1 (D : Def K mg "is_weighed_once" (topS 11) ["tick", "classes", "fractions"]) (C_reduced : Cal P w K mg base 2 "reduced" ["numerator", "denominator"] (spRq K)) (nb : NB mg) : Cal P w K mg base 3 "is_weighed_once" ["tick", "classes", "fractions"] (spW1 K) := by
  refine D.ok scW1 (fun vs H Q E h => ?_) (fun fa cdv A outer sh H vs Q E hr gd h => ?_)
  · obtain ⟨t, a, b, cl, ds, us, xs, rfl, _⟩ := h
    rfl
  · obtain ⟨t, a, b, cl, ds, us, xs, rfl, ha, had, hb, hbd, hl, h12, hcp, hfr, hsm, q⟩ := h
    refine ⟨_, (pss_cons (ps_asg (pe_tup (pa_cons pe_int (pa_cons pe_int pa_nil))) (pg_tup rfl (pgs_cons (pg_name (i := 3) scW1.nd rfl (Or.inl rfl)) (pgs_cons (pg_name (i := 4) scW1.nd rfl (Or.inl rfl)) pgs_nil))))
      (pss_cons (ps_for PassesOwn.never rfl (pi_zipU rfl nb.at (pa_cons (pv 1) (pa_cons (pv 2) pa_nil))) (pg_tup rfl (pgs_cons (pg_tup rfl (pgs_cons (pg_name (i := 5) scW1.nd rfl (Or.inl rfl)) (pgs_cons (pg_name (i := 6) scW1.nd rfl (Or.inl rfl)) pgs_nil))) (pgs_cons (pg_tup rfl (pgs_cons (pg_name (i := 7) scW1.nd rfl (Or.inl rfl)) (pgs_cons (pg_name (i := 8) scW1.nd rfl (Or.inl rfl)) pgs_nil))) pgs_nil)))
        (pss_one (ps_if (pt_cmpR op_eq (pe_op op_mod (pv 0) (pv 5)) (pv 6) (nomark _))
          (pss_one (ps_asg (pcall C_reduced (hr.mono (by omega)) gd (by rfl) (pa_cons (pe_op op_add (pe_op op_mulW (pv 3) (pv 8)) (pe_op op_mulW (pe_op op_mulW (pv 7) (pv 5)) (pv 4))) (pa_cons (pe_op op_mulW (pv 4) (pv 8)) pa_nil))) (pg_tup rfl (pgs_cons (pg_name (i := 3) scW1.nd rfl (Or.inl rfl)) (pgs_cons (pg_name (i := 4) scW1.nd rfl (Or.inl rfl)) pgs_nil)))))
          pss_nil)))
      (pss_one (ps_ret (pe_cmpR op_eq (pv 3) (pv 4) (nomark _)))))), ?_⟩
    have sl := sizeLine_eq
    have hul := daAll_len had
    rw [List.length_map] at hul
    have hxl := daAll_len hbd
    have hzl : (cl.zip (ds.map toFr)).length = cl.length := by rw [List.length_zip, List.length_map]; omega
    refine ⟨(by show 2 ≤ sizeLine; decide), fun t0 nt => ⟨t0, _, rfl, .inl (.inl upd_same), rfl, _, _, rfl, _, _, rfl, rfl, ?_⟩⟩
    have st := same_put (o := .tup [.int 0, .int 1]) nt
    generalize upd H t0 (.tup [.int 0, .int 1]) = H1 at st ⊢
    refine ⟨_, rfl, _, rfl, a, b, _, _, rfl, st.seq ha, seqT_mono st hb, for_it (walk_zu (K := K) (a := a) (b := b) (xs := us) (ys := xs) (by omega)) (fun k σ' H' => ∃ (N D : Int) (y5 y6 y7 y8 : Option V), σ' = [some (.int (t : Nat)), some (.ref a), some (.ref b), some (.int N), some (.int D), y5, y6, y7, y8] ∧ Same H1 H' ∧ N * (accW t ((cl.zip (ds.map toFr)).take k) (0, 1)).2 = (accW t ((cl.zip (ds.map toFr)).take k) (0, 1)).1 * D ∧ 0 < D ∧ 0 < (accW t ((cl.zip (ds.map toFr)).take k) (0, 1)).2 ∧ N.natAbs < 2 ^ (700 * k + 2) ∧ D.natAbs < 2 ^ (700 * k + 2)) ⟨0, 1, _, _, _, _, rfl, Same.rfl', by rw [List.take_zero]; rfl, by decide, by rw [List.take_zero]; show (0 : Int) < 1; decide, by decide, by decide⟩ (fun k σ' H' _ ⟨_, _, _, _, _, _, _, s', _⟩ => ⟨(st.trans s').seq ha, seqT_mono (st.trans s') hb⟩) ?_ ?_⟩
    · rintro k v σ' H2 H3 hk ⟨N, D, y5, y6, y7, y8, rfl, s2, hND, hD0, hB0, hN, hD⟩ ⟨T, x, y, rfl, nT, rfl, ex, ey⟩
      have hkc : k < cl.length := by omega
      have hkd : k < ds.length := by omega
      have sT := same_put (o := .tup [x, y]) nT
      obtain ⟨d1, e1, v1⟩ := daAll_at (had.mono (st.trans (s2.trans sT))) ex
      rw [List.getElem?_map, List.getElem?_eq_getElem hkc] at e1
      cases e1
      obtain ⟨b1, rfl, hb1⟩ := da_cDq v1
      obtain ⟨d2, e2, v2⟩ := daAll_at (hbd.mono (st.trans (s2.trans sT))) ey
      rw [List.getElem?_eq_getElem hkd] at e2
      cases e2
      obtain ⟨c, c1, c2, c3, _⟩ := isFr_is (List.all_eq_true.mp hfr _ (List.getElem_mem hkd))
      have cs := hsm _ (List.getElem_mem hkd)
      rw [c2] at cs
      rw [c1] at v2
      obtain ⟨b2, rfl, hb2⟩ := da_fr v2
      have cp := hcp _ (List.getElem_mem hkc)
      have ez : (cl.zip (ds.map toFr)).take (k + 1) = (cl.zip (ds.map toFr)).take k ++ [(cl[k], c)] := by
        rw [List.take_succ_eq_append_getElem (by omega), List.getElem_zip, List.getElem_map, c2]
      rw [ez, accW_app]
      generalize accW t ((cl.zip (ds.map toFr)).take k) (0, 1) = AB at hND hB0 ⊢
      have e700 : 700 * (k + 1) + 2 = 700 * k + 2 + 700 := by omega
      rw [e700]
      refine ⟨T, _, rfl, .inl (.inl upd_same), rfl, _, _, rfl, b1, _, rfl, hb1, rfl, _, _, rfl, _, _, rfl, rfl, _, _, rfl, b2, _, rfl, hb2, rfl, _, _, rfl, _, _, rfl, rfl, rfl, ?_⟩
      refine ⟨_, rfl, _, rfl, _, _, rfl, rfl, (by show (0 : Int) < ((cl[k].1 : Nat) : Int); omega), _, rfl, rfl, _, rfl, ?_⟩
      have e : decide (V.int (((t : Nat) : Int) % (cl[k].1 : Nat)) = V.int (cl[k].2 : Nat)) = decide (t % cl[k].1 = cl[k].2) := decide_eq_decide.mpr ⟨fun h => by
        have := V.int.inj h
        omega, fun h => by
        rw [← h]
        rfl⟩
      rw [e]
      by_cases z : t % cl[k].1 = cl[k].2
      · rw [decide_eq_true z, if_pos z]
        obtain ⟨r1, r2, r3, r4⟩ := red_step (m := cl[k].1) hND hD0 hB0 c3 hN hD cs.1 cs.2 cp.2
        have hk9 : 700 * k + 2 ≤ 8000 := by omega
        have k9 : ∀ {x : Nat}, x < 2 ^ (700 * k + 2) → x < 2 ^ 8000 := fun h => Nat.lt_of_lt_of_le h (Nat.pow_le_pow_right (by decide) hk9)
        have pm : (c.1 * ((cl[k].1 : Nat) : Int)).natAbs < 2 ^ 700 := by
          rw [Int.natAbs_mul, Int.natAbs_natCast]
          have := Nat.mul_lt_mul'' cs.1 (show cl[k].1 < 2 ^ 100 from Nat.lt_of_le_of_lt cp.2 (by decide +kernel))
          rwa [← Nat.pow_add] at this
        have dm : (D * c.2).natAbs < 2 ^ 8800 := by
          rw [Int.natAbs_mul]
          have := Nat.mul_lt_mul'' (k9 hD) cs.2
          rw [← Nat.pow_add] at this
          exact Nat.lt_of_lt_of_le this (Nat.pow_le_pow_right (by decide) (by decide))
        refine iteT ⟨_, rfl, _, rfl, _, _, rfl, rfl, wide_mul (k9 hN) cs.2 (by decide) (by decide) (by decide), _, rfl, _, rfl, _, _, rfl, rfl, wide_mul (b := 60) cs.1 (by rw [Int.natAbs_natCast]; exact Nat.lt_of_le_of_lt cp.2 (by decide)) (by decide) (by decide) (by decide), _, rfl, _, _, rfl, rfl, wide_mul pm (k9 hD) (by decide) (by decide) (by decide), _, _, rfl, rfl, _, rfl, _, rfl, _, _, rfl, rfl, wide_mul (k9 hD) cs.2 (by decide) (by decide) (by decide), _, _, rfl, Int.mul_pos hD0 c3, dm, fun H4 u s4 hu => ?_⟩
        obtain ⟨b3, rfl, hb3⟩ := da_fr hu
        exact ⟨b3, _, rfl, hb3, rfl, _, _, rfl, _, _, rfl, rfl, _, _, _, _, _, _, rfl, s2.trans (sT.trans s4), r1, r2, Int.mul_pos hB0 c3, r3, r4⟩
      · rw [decide_eq_false z, if_neg z]
        have up : (2 : Nat) ^ (700 * k + 2) ≤ 2 ^ (700 * k + 2 + 700) := Nat.pow_le_pow_right (by decide) (by omega)
        exact iteF ⟨_, _, _, _, _, _, rfl, s2.trans sT, hND, hD0, hB0, Nat.lt_of_lt_of_le hN up, Nat.lt_of_lt_of_le hD up⟩
    · rintro σ' H2 ⟨N, D, y5, y6, y7, y8, rfl, s2, hND, hD0, hB0, hN, hD⟩
      have et : (cl.zip (ds.map toFr)).take us.length = cl.zip (ds.map toFr) := List.take_of_length_le (by omega)
      rw [et] at hND hB0
      refine ⟨_, rfl, _, rfl, rfl, ?_⟩
      have z : decide (V.int N = V.int D) = onceW cl (ds.map toFr) t := by
        unfold onceW
        generalize accW t (cl.zip (ds.map toFr)) (0, 1) = AB at hND hB0 ⊢
        refine decide_eq_decide.mpr ⟨fun h => ?_, fun h => ?_⟩
        · have h := V.int.inj h
          rw [h, Int.mul_comm] at hND
          exact (Int.eq_of_mul_eq_mul_right (show D ≠ 0 by omega) hND).symm
        · rw [h, Int.mul_comm AB.2 D] at hND
          rw [Int.eq_of_mul_eq_mul_right (show AB.2 ≠ 0 by omega) hND]
      rw [z]
      exact q H2 (st.trans s2)
theorem ok_swP (D : Def K mg "shows_weights" (topS 6) ["length", "samplers", "value"]) (C_is_fraction : Cal P w K mg base 2 "is_fraction" ["value"] (spIfP K)) (C_classes_of : Cal P w K mg base 2 "classes_of" ["length", "samplers"] (spCo K)) (C_is_weighed_once : Cal P w K mg base 3 "is_weighed_once" ["tick", "classes", "fractions"] (spW1 K)) (nb : NB mg) : Cal P w K mg base 4 "shows_weights" ["length", "samplers", "value"] (spSwP K) := by
  refine D.ok scSwP (fun vs H Q E h => ?_) (fun fa cdv A outer sh H vs Q E hr gd h => ?_)
  · obtain ⟨n, x, v, S, d, rfl, _⟩ := h
    rfl
  · obtain ⟨n, x, v, S, d, rfl, hn, hn48, hS, hx, hv, hsm, q⟩ := h
    refine ⟨_, (pss_cons (ps_if (PW.pt (pw_or (pt_not (pt_val (pe_isT (.inr (.inr (.inl rfl))) nb.at (fun _ => pv 2) (fun _ => ty_of rfl nb.at (by decide +kernel))))) (pw_or1 (pt_cmpR op_ne (pe_callB call_len_seq (by rfl) nb.at PySem.boot_len (pa_cons (pv 2) pa_nil)) (pe_callB call_len_seq (by rfl) nb.at PySem.boot_len (pa_cons (pv 1) pa_nil)) (nomark _)))))
        (pss_one (ps_ret pe_bl))
        pss_nil)
      (pss_cons (ps_if (pt_not (pt_val (pe_callB (cr_all rfl) (by rfl) nb.at (by decide +kernel) (pa_cons (pe_lc (own := [("weight", 3)]) (g := (gName 3)) (tt := tYes) (te := (tCall (spIfP K) [] E0 (tCons (tVar 3) tNil))) rfl scSwP.nd (pi_tup (pv 2)) (blkOk_by (N := ["length", "samplers", "value", "weight", "classes", "tick"]) (sc := defScope (topS 6)) (by decide +kernel)) (fun _ _ _ _ _ => (pg_name (i := 3) scSwP.nd rfl (Or.inl rfl))) (fun _ _ _ _ _ => pts_nil) (fun _ _ _ _ _ => (pcall C_is_fraction (hr.mono (by omega)) gd (by rfl) (pa_cons (pv 3) pa_nil)))) pa_nil))))
        (pss_one (ps_ret pe_bl))
        pss_nil)
      (pss_cons (ps_set (i := 4) scSwP.nd rfl (.inr rfl) (pcall C_classes_of (hr.mono (by omega)) gd (by rfl) (pa_cons (pv 0) (pa_cons (pv 1) pa_nil))))
      (pss_one (ps_ret (pe_callB (cr_all rfl) (by rfl) nb.at (by decide +kernel) (pa_cons (pe_lc (own := [("tick", 5)]) (g := (gName 5)) (tt := tYes) (te := (tCall (spW1 K) [] E0 (tCons (tVar 5) (tCons (tVar 4) (tCons (tVar 2) tNil))))) rfl scSwP.nd (pi_range1 rfl nb.at (pa_cons (pv 0) pa_nil)) (blkOk_by (N := ["length", "samplers", "value", "weight", "classes", "tick"]) (sc := defScope (topS 6)) (by decide +kernel)) (fun _ _ _ _ _ => (pg_name (i := 5) scSwP.nd rfl (Or.inl rfl))) (fun _ _ _ _ _ => pts_nil) (fun _ _ _ _ _ => (pcall C_is_weighed_once (hr.mono (by omega)) gd (by rfl) (pa_cons (pv 5) (pa_cons (pv 4) (pa_cons (pv 2) pa_nil)))))) pa_nil))))))), ?_⟩
    have sl := sizeLine_eq
    by_cases hT : ∃ ds, d = .tuple ds
    · obtain ⟨ds, rfl⟩ := hT
      obtain ⟨a, xs, rfl, ht, hall⟩ : ∃ a xs, v = .ref a ∧ SqT K H a xs ∧ DaAll K H xs ds := by
        cases hv with
        | @tup a xs _ ht hall => exact ⟨a, xs, rfl, ht, hall⟩
      have hxl := daAll_len hall
      obtain ⟨b, ys, rfl, hb, hball⟩ : ∃ a xs, x = .ref a ∧ SqT K H a xs ∧ DaAll K H xs (S.map cDq) := by
        cases hx with
        | @tup a xs _ ht hall => exact ⟨a, xs, rfl, ht, hall⟩
      have hyl := daAll_len hball
      rw [List.length_map] at hyl
      have hcl : (clsOf n S).length = S.length := clsOf_len
      have hwt : isWt n (clsOf n S) (.tuple ds) = (decide (ds.length = (clsOf n S).length) && (ds.all isFr && (List.range n).all (onceW (clsOf n S) (ds.map toFr)))) := rfl
      by_cases h2 : ds.length = S.length
      · refine ⟨_, _, rfl, hv, true, by rw [isD_tuple], iteF ⟨_, rfl, a, _, rfl, .inr ht, _, rfl, b, _, rfl, .inr hb, rfl, false, by rw [hxl, hyl, h2, decide_eq_true rfl]; rfl, iteF ?_⟩⟩
        rw [decide_eq_true (show ds.length = (clsOf n S).length by rw [hcl]; exact h2), Bool.true_and] at hwt
        rw [hwt] at q
        dsimp only [tNext, tSeq, tIfS, tNot, tB, tCB, tCons]
        refine lcI_tup (a := a) (xs := xs) (ys := ds.map fun d => .bl (isFr d)) (by rw [List.length_map, hxl]) (fun Q hq => ⟨_, rfl, hq⟩) ht (by omega) (fun k x y hx hy H' R s' hR => ?_) (fun H1 D s1 nD eD => ?_)
        · obtain ⟨d, hd1, hd2⟩ := daAll_at (hall.mono s') hx
          rw [List.getElem?_map, hd1] at hy
          cases hy
          exact ⟨rfl, _, rfl, x, d, rfl, hd2, fun H2 s2 => hR _ s2⟩
        · refine ⟨D, ds.map isFr, rfl, .inl (.inl (by rw [eD, List.map_map]; rfl)), _, rfl, ?_⟩
          rw [List.all_map]
          by_cases hf : ds.all isFr = true
          · have e : (ds.all (id ∘ isFr)) = true := hf
            rw [e]
            rw [hf] at q
            refine iteF ?_
            refine ⟨_, rfl, _, rfl, n, .ref b, S, rfl, hn, by omega, hx.mono s1, fun H2 c s2 ⟨us, hus, hud⟩ => ?_⟩
            have hcp := clsOf_pos (S := S) hn
            dsimp only [gName, tRet, tCB, tCons]
            refine lc_rng (n := n) (ys := (List.range n).map fun t => .bl (onceW (clsOf n S) (ds.map toFr) t)) (fun Q hq => ⟨_, rfl, hq⟩) (by omega) (by rw [List.length_map, List.length_range]) (fun t y hy H' R s' hR => ?_) (fun H3 D3 s3 nD3 eD3 => ?_)
            · rw [List.getElem?_map] at hy
              obtain ⟨t', ht', rfl⟩ := Option.map_eq_some_iff.mp hy
              obtain ⟨htn, ht2⟩ := List.getElem?_eq_some_iff.mp ht'
              rw [List.getElem_range] at ht2
              subst ht2
              have s02 := s1.trans s2
              refine ⟨rfl, _, rfl, _, rfl, _, rfl, t, c, a, clsOf n S, ds, us, xs, by rw [Int.zero_add]; rfl, s'.seq hus, hud.mono s', seqT_mono (s02.trans s') ht, hall.mono (s02.trans s'), by omega, by omega, fun e he => ⟨(hcp e he).1, Nat.le_trans (hcp e he).2.2 hn48⟩, hf, fun e he => hsm ds rfl e he (List.all_eq_true.mp hf e he), fun H4 s4 => hR _ s4⟩
            · refine ⟨D3, (List.range n).map (onceW (clsOf n S) (ds.map toFr)), rfl, .inl (.inl (by rw [eD3, List.map_map]; rfl)), ?_⟩
              rw [List.all_map]
              exact q H3 (s1.trans (s2.trans s3))
          · have e : (ds.all (id ∘ isFr)) = false := Bool.eq_false_iff.mpr hf
            have := q H1 s1
            rw [Bool.eq_false_iff.mpr hf, Bool.false_and] at this
            rw [e]
            exact iteT this
      · rw [decide_eq_false (show ¬ ds.length = (clsOf n S).length by rw [hcl]; exact h2), Bool.false_and] at hwt
        rw [hwt] at q
        refine ⟨_, _, rfl, hv, true, by rw [isD_tuple], iteF ⟨_, rfl, a, _, rfl, .inr ht, _, rfl, b, _, rfl, .inr hb, rfl, true, by rw [hxl, hyl, decide_eq_false fun h => h2 (by have := V.int.inj h; omega)]; rfl, iteT (q H Same.rfl')⟩⟩
    · have z : isWt n (clsOf n S) d = false := by
        cases d <;> first | rfl | exact absurd ⟨_, rfl⟩ hT
      rw [z] at q
      have zt : isD "tuple" d = false := by
        rw [isD_tuple]
        cases d <;> first | rfl | exact absurd ⟨_, rfl⟩ hT
      refine ⟨_, _, rfl, hv, false, by rw [zt], iteT (iteT (q H Same.rfl'))⟩
end
end Ev

/-! ## unseen_values, blind_pair -/
namespace Ev
open PySem PySem.Spec PyProof.Rows L2 Pm
def spUv (K : PySem.W.Frag) : Sp := fun vs H Q _ => ∃ (n fr : Nat) (l : Addr) (qs : List (Nat × List Int)), vs = [.int (n : Nat), .ref l, .int (fr : Nat)] ∧ n ≤ 1000 ∧ fr < n ∧ qs.length ≤ 12 ∧ PvL H l qs ∧ (∀ q ∈ qs, q.1 < n ∧ n ≤ q.2.length ∧ 0 < Pm.gd q.2 q.1 ∧ ∀ i, (Pm.gd q.2 i).natAbs ≤ 13 * BN) ∧ ∀ H' p, Same H H' → H' p = some (.lst ((bvals n qs fr).map V.int)) → Q (.ref p) H'
def spBp (K : PySem.W.Frag) : Sp := fun vs H Q _ => ∃ (n : Nat) (x : V) (S : List (Nat × Nat)), vs = [.int (n : Nat), x] ∧ 1 ≤ n ∧ n ≤ 48 ∧ S.length ≤ 12 ∧ Da K H x (.tuple (S.map cDq)) ∧ ∀ H' u, Same H H' →
  (fst0 ((rst n S.length (indC (clsOf n S))).take n) = none → u = .non) → (∀ fr, fst0 ((rst n S.length (indC (clsOf n S))).take n) = some fr → Da K H' u (blD (bvals n (pvs n (S.length + 1) (indC (clsOf n S)) S.length) fr))) → Q u H'
theorem scUv : FnScope ["length", "pivots", "free", "whole", "place", "row", "values"] ["length", "pivots", "free"] (defScope (topS 19)) := ⟨rfl, rfl, rfl, by decide +kernel, rfl, by decide +kernel, by decide +kernel⟩
theorem scBp : FnScope ["length", "samplers", "classes", "pivots", "free", "values", "one"] ["length", "samplers"] (defScope (topS 7)) := ⟨rfl, rfl, rfl, by decide +kernel, rfl, by decide +kernel, by decide +kernel⟩
section
variable {P : Program} {w : World} {K : PySem.W.Frag} {mg : Str → Option Value} {base : Heap}
theorem ok_uv (D : Def K mg "unseen_values" (topS 19) ["length", "pivots", "free"]) (C_common_divisor : Cal P w K mg base 1 "common_divisor" ["one", "other"] spGcd) (nb : NB mg) : Cal P w K mg base 2 "unseen_values" ["length", "pivots", "free"] (spUv K) := by
  refine D.ok scUv (fun vs H Q E h => ?_) (fun fa cdv A outer sh H vs Q E hr gd h => ?_)
  · obtain ⟨n, fr, l, qs, rfl, _⟩ := h
    rfl
  · obtain ⟨n, fr, l, qs, rfl, hn, hfr, hq12, ⟨us, hu, hpu⟩, hq, q⟩ := h
    refine ⟨_, (pss_cons (ps_set (i := 3) scUv.nd rfl (.inl rfl) pe_int)
      (pss_cons (ps_for PassesOwn.never rfl (pi_list (pv 1)) (pg_tup rfl (pgs_cons (pg_name (i := 4) scUv.nd rfl (Or.inl rfl)) (pgs_cons (pg_name (i := 5) scUv.nd rfl (Or.inl rfl)) pgs_nil)))
        (pss_one (ps_set (i := 3) scUv.nd rfl (.inl rfl) (pe_op op_fdivW (pe_op op_mulW (pv 3) (pe_ix ix_list (pv 5) (pv 4) (fun _ _ => rfl))) (pcall C_common_divisor (hr.mono (by omega)) gd (by rfl) (pa_cons (pv 3) (pa_cons (pe_ix ix_list (pv 5) (pv 4) (fun _ _ => rfl)) pa_nil)))))))
      (pss_cons (ps_set (i := 6) scUv.nd rfl (.inl rfl) (pe_op op_rep (pe_lst (pa_cons pe_int pa_nil)) (pv 0)))
      (pss_cons (ps_asg (pv 3) (pg_sub (pv 6) (pv 2) set_list))
      (pss_cons (ps_for PassesOwn.never rfl (pi_list (pv 1)) (pg_tup rfl (pgs_cons (pg_name (i := 4) scUv.nd rfl (Or.inl rfl)) (pgs_cons (pg_name (i := 5) scUv.nd rfl (Or.inl rfl)) pgs_nil)))
        (pss_one (ps_asg (pe_op op_mulW (pe_un un_neg (pe_ix ix_list (pv 5) (pv 2) (fun _ _ => rfl))) (pe_op op_fdivW (pv 3) (pe_ix ix_list (pv 5) (pv 4) (fun _ _ => rfl)))) (pg_sub (pv 6) (pv 4) set_list))))
      (pss_one (ps_ret (pv 6)))))))), ?_⟩
    have sl := sizeLine_eq
    have b49 := bn49
    have hql := hpu.len
    refine ⟨_, rfl, l, rfl, ⟨_, .inl (.inl hu)⟩, for_list (K := K) (a := l) (xs := us) (fun i σ' H' => ∃ (W : Int) (y4 y5 y6 : Option V), σ' = [some (.int (n : Nat)), some (.ref l), some (.int (fr : Nat)), some (.int W), y4, y5, y6] ∧ Same H H' ∧ 0 < W ∧ W.natAbs ≤ (2 ^ 49) ^ i ∧ whl (qs.drop i) W = whl qs 1) ⟨1, _, _, _, rfl, Same.rfl', by decide, by decide, rfl⟩ (fun i σ' H' _ ⟨_, _, _, _, _, s', _⟩ => .inl (.inl (s' _ _ hu))) ?_ ?_⟩
    · rintro i x σ' H1 hi ⟨W, y4, y5, y6, rfl, s1, w0, wb, wq⟩
      obtain ⟨hiq, t, b, rfl, ht, hb⟩ := (hpu.same s1).at hi
      obtain ⟨q1, q2, q3, q4⟩ := hq _ (List.getElem_mem hiq)
      rw [List.drop_eq_getElem_cons hiq, whl] at wq
      have hd := q4 qs[i].1
      have pw : (2 ^ 49) ^ i < 2 ^ 800 := by
        rw [← Nat.pow_mul]
        exact Nat.pow_lt_pow_right (by decide) (by omega)
      obtain ⟨a1, _, _, a4, _⟩ := whl1 w0 q3
      have hg0 : 0 < Nat.gcd W.natAbs (Pm.gd qs[i].2 qs[i].1).natAbs := Nat.gcd_pos_of_pos_left _ (by omega)
      have hgl : Nat.gcd W.natAbs (Pm.gd qs[i].2 qs[i].1).natAbs ≤ W.natAbs := Nat.gcd_le_left _ (by omega)
      have sq : SqL K H1 b (qs[i].2.map V.int) := .inl (.inl hb)
      refine ⟨t, _, rfl, .inl (.inl ht), rfl, _, _, rfl, _, _, rfl, rfl, ?_⟩
      refine ⟨_, rfl, _, rfl, _, rfl, b, _, _, _, rfl, rfl, sq, atI_gd (by omega), _, _, rfl, rfl, wide_mul (a := 800) (b := 60) (by omega) (Nat.lt_of_le_of_lt hd (Nat.lt_trans b49 (by decide))) (by decide) (by decide) (by decide), _, rfl, _, rfl, _, rfl, b, _, _, _, rfl, rfl, sq, atI_gd (by omega), W.natAbs, (Pm.gd qs[i].2 qs[i].1).natAbs, ?_, ?_⟩
      · rw [show W = ((W.natAbs : Nat) : Int) by omega, show Pm.gd qs[i].2 qs[i].1 = (((Pm.gd qs[i].2 qs[i].1).natAbs : Nat) : Int) by omega]
        rfl
      · refine ⟨_, _, rfl, rfl, wide_div (b := 800) (by omega) (by rw [Int.natAbs_natCast]; omega) (by decide) (by decide), _, _, _, _, rfl, s1, a1, ?_, wq⟩
        have c1 : (W * Pm.gd qs[i].2 qs[i].1).natAbs ≤ (2 ^ 49) ^ i * 2 ^ 49 := by
          rw [Int.natAbs_mul]
          exact Nat.mul_le_mul wb (by omega)
        rw [Nat.pow_succ]
        omega
    · rintro σ' H1 ⟨W, y4, y5, y6, rfl, s1, w0, wb, wq⟩
      rw [hql, List.drop_length, whl] at wq
      subst wq
      have pw : (2 ^ 49) ^ us.length < 2 ^ 800 := by
        rw [← Nat.pow_mul]
        exact Nat.pow_lt_pow_right (by decide) (by omega)
      dsimp only
      refine ⟨(by show 1 ≤ sizeLine; decide), fun l1 n1 => ⟨_, rfl, l1, _, _, rfl, rfl, upd_same, by omega, by omega, (by rw [Int.toNat_natCast]; show 1 * n ≤ _; omega), fun l2 n2 => ?_⟩⟩
      have t1 := same_put (o := .lst [V.int 0]) n1
      have t2 := same_put (o := .lst (List.replicate ((n : Nat) : Int).toNat [V.int 0]).flatten) n2
      have er : (List.replicate ((n : Nat) : Int).toNat [V.int 0]).flatten = (List.replicate n (0 : Int)).map V.int := by
        rw [Int.toNat_natCast, flat_one, List.map_replicate]
      rw [er] at t2 ⊢
      have s3 := s1.trans (t1.trans t2)
      have e2 : upd (upd H1 l1 (.lst [V.int 0])) l2 (.lst ((List.replicate n (0 : Int)).map V.int)) l2 = some (.lst ((List.replicate n (0 : Int)).map V.int)) := upd_same
      have n2' : H l2 = none := back_none (s1.trans t1) n2
      generalize upd (upd H1 l1 (.lst [V.int 0])) l2 (.lst ((List.replicate n (0 : Int)).map V.int)) = H3 at s3 e2 ⊢
      dsimp only [gName]
      have W0 := w0
      have hbv : bvals n qs fr = bvl (whl qs 1) fr qs ((List.replicate n 0).set fr (whl qs 1)) := rfl
      generalize whl qs 1 = W at w0 wb hbv W0 ⊢
      refine ⟨_, rfl, _, rfl, _, rfl, l2, _, _, fr, rfl, rfl, e2, ixN_at (by rw [List.length_map, List.length_replicate]; exact hfr), ?_⟩
      rw [set_map_int]
      have s4 : Same H (upd H3 l2 (.lst (((List.replicate n (0 : Int)).set fr W).map V.int))) := fun b o e => by
        rw [upd_ne (ne_of_none e n2')]
        exact s3 _ _ e
      have e4 : upd H3 l2 (.lst (((List.replicate n (0 : Int)).set fr W).map V.int)) l2 = some (.lst (((List.replicate n (0 : Int)).set fr W).map V.int)) := upd_same
      have lX : ((List.replicate n (0 : Int)).set fr W).length = n := by rw [List.length_set, List.length_replicate]
      generalize upd H3 l2 (.lst (((List.replicate n (0 : Int)).set fr W).map V.int)) = H4 at s4 e4 ⊢
      generalize (List.replicate n (0 : Int)).set fr W = X0 at e4 hbv lX
      refine ⟨_, rfl, l, rfl, ⟨_, .inl (.inl (s4 _ _ hu))⟩, for_list (K := K) (a := l) (xs := us) (fun i σ' H' => ∃ (X : List Int) (y4 y5 : Option V), σ' = [some (.int (n : Nat)), some (.ref l), some (.int (fr : Nat)), some (.int W), y4, y5, some (.ref l2)] ∧ Same H H' ∧ H' l2 = some (.lst (X.map V.int)) ∧ X.length = n ∧ bvl W fr (qs.drop i) X = bvals n qs fr) ⟨X0, _, _, rfl, s4, e4, lX, hbv.symm⟩ (fun i σ' H' _ ⟨_, _, _, _, s', _⟩ => .inl (.inl (s' _ _ hu))) ?_ ?_⟩
      · rintro i x σ' H5 hi ⟨X, y4, y5, rfl, s5, e5, l5, hX⟩
        obtain ⟨hiq, t, b, rfl, ht, hb⟩ := (hpu.same s5).at hi
        obtain ⟨q1, q2, q3, q4⟩ := hq _ (List.getElem_mem hiq)
        rw [List.drop_eq_getElem_cons hiq, bvl] at hX
        have sq : SqL K H5 b (qs[i].2.map V.int) := .inl (.inl hb)
        have d1 := q4 qs[i].1
        have d2 := q4 fr
        refine ⟨t, _, rfl, .inl (.inl ht), rfl, _, _, rfl, _, _, rfl, rfl, ?_⟩
        refine ⟨_, rfl, _, rfl, b, _, _, _, rfl, rfl, sq, atI_gd (by omega), _, rfl, _, rfl, _, rfl, _, rfl, b, _, _, _, rfl, rfl, sq, atI_gd (by omega), _, _, rfl, rfl, wide_div (b := 60) q3 (Nat.lt_of_le_of_lt d1 (Nat.lt_trans b49 (by decide))) (by decide) (by decide), _, _, rfl, rfl, wide_mul (a := 60) (b := 800) ?_ ?_ (by decide) (by decide) (by decide), _, rfl, _, rfl, l2, _, _, qs[i].1, rfl, rfl, e5, ixN_at (by rw [List.length_map]; omega), ?_⟩
        · rw [Int.natAbs_neg]
          exact Nat.lt_of_le_of_lt d2 (Nat.lt_trans b49 (by decide))
        · have := Int.natAbs_ediv_le_natAbs W (Pm.gd qs[i].2 qs[i].1)
          omega
        · rw [set_map_int]
          exact ⟨_, _, _, rfl, fun b o e => by
            rw [upd_ne (ne_of_none e n2')]
            exact s5 _ _ e, upd_same, by rw [List.length_set]; exact l5, hX⟩
      · rintro σ' H5 ⟨X, y4, y5, rfl, s5, e5, l5, hX⟩
        rw [hql, List.drop_length, bvl] at hX
        subst hX
        exact ⟨_, rfl, q H5 l2 s5 e5⟩
theorem ok_bp (D : Def K mg "blind_pair" (topS 7) ["length", "samplers"]) (C_classes_of : Cal P w K mg base 2 "classes_of" ["length", "samplers"] (spCo K)) (C_cleared : Cal P w K mg base 3 "cleared" ["row", "pivots"] (spCl K)) (C_row_of_ones : Cal P w K mg base 1 "row_of_ones" ["length", "classes"] (spRo K)) (C_pivots_of : Cal P w K mg base 4 "pivots_of" ["length", "classes"] (spPv K)) (C_first_used : Cal P w K mg base 1 "first_used" ["row"] (spFu K)) (C_unseen_values : Cal P w K mg base 2 "unseen_values" ["length", "pivots", "free"] (spUv K)) (nb : NB mg) : Cal P w K mg base 5 "blind_pair" ["length", "samplers"] (spBp K) := by
  refine D.ok scBp (fun vs H Q E h => ?_) (fun fa cdv A outer sh H vs Q E hr gd h => ?_)
  · obtain ⟨n, x, S, rfl, _⟩ := h
    rfl
  · obtain ⟨n, x, S, rfl, hn, hn48, hS, hx, q⟩ := h
    refine ⟨_, (pss_cons (ps_set (i := 2) scBp.nd rfl (.inl rfl) (pcall C_classes_of (hr.mono (by omega)) gd (by rfl) (pa_cons (pv 0) (pa_cons (pv 1) pa_nil))))
      (pss_cons (ps_set (i := 3) scBp.nd rfl (.inl rfl) (pcall C_pivots_of (hr.mono (by omega)) gd (by rfl) (pa_cons (pv 0) (pa_cons (pv 2) pa_nil))))
      (pss_cons (ps_set (i := 4) scBp.nd rfl (.inl rfl) (pcall C_first_used (hr.mono (by omega)) gd (by rfl) (pa_cons (pe_slice sl_list (pcall C_cleared (hr.mono (by omega)) gd (by rfl) (pa_cons (pcall C_row_of_ones (hr.mono (by omega)) gd (by rfl) (pa_cons (pv 0) (pa_cons (pv 2) pa_nil))) (pa_cons (pv 3) pa_nil))) po_none (po_some (pv 0))) pa_nil)))
      (pss_cons (ps_if (pt_cmp (pc_isN (pv 4)) rfl)
        (pss_one (ps_ret pe_non))
        pss_nil)
      (pss_cons (ps_set (i := 5) scBp.nd rfl (.inl rfl) (pcall C_unseen_values (hr.mono (by omega)) gd (by rfl) (pa_cons (pv 0) (pa_cons (pv 3) (pa_cons (pv 4) pa_nil)))))
      (pss_one (ps_ret (pe_tup (pa_cons (pe_callTy call_tuple_of (by rfl) nb.at (by decide +kernel) (pa_cons (pe_lc (own := [("one", 6)]) (g := (gName 6)) (tt := tYes) (te := (tCB _ (tCons (tVar 6) (tCons (tC (.int 0)) tNil)))) rfl scBp.nd (pi_list (pv 5)) (blkOk_by (N := ["length", "samplers", "classes", "pivots", "free", "values", "one"]) (sc := defScope (topS 7)) (by decide +kernel)) (fun _ _ _ _ _ => (pg_name (i := 6) scBp.nd rfl (Or.inl rfl))) (fun _ _ _ _ _ => pts_nil) (fun _ _ _ _ _ => (pe_callB (call_max2 rfl) (by rfl) nb.at (by decide +kernel) (pa_cons (pv 6) (pa_cons pe_int pa_nil))))) pa_nil)) (pa_cons (pe_callTy call_tuple_of (by rfl) nb.at (by decide +kernel) (pa_cons (pe_lc (own := [("one", 6)]) (g := (gName 6)) (tt := tYes) (te := (tCB _ (tCons (tUn (rU fun i => .int (-i)) (tVar 6)) (tCons (tC (.int 0)) tNil)))) rfl scBp.nd (pi_list (pv 5)) (blkOk_by (N := ["length", "samplers", "classes", "pivots", "free", "values", "one"]) (sc := defScope (topS 7)) (by decide +kernel)) (fun _ _ _ _ _ => (pg_name (i := 6) scBp.nd rfl (Or.inl rfl))) (fun _ _ _ _ _ => pts_nil) (fun _ _ _ _ _ => (pe_callB (call_max2 rfl) (by rfl) nb.at (by decide +kernel) (pa_cons (pe_un un_neg (pv 6)) (pa_cons pe_int pa_nil))))) pa_nil)) pa_nil)))))))))), ?_⟩
    have sl := sizeLine_eq
    refine ⟨_, rfl, _, rfl, n, x, S, rfl, hn, by omega, hx, fun H1 a s1 hc => ?_⟩
    have hcl : (clsOf n S).length = S.length := clsOf_len
    have hcp := clsOf_pos (S := S) hn
    have q' := q
    rw [← hcl] at q'
    generalize clsOf n S = cl at hc hcl hcp q'
    clear q
    refine ⟨_, rfl, _, rfl, n, a, cl, rfl, hn48, by omega, hc, fun e he => (hcp e he).1, fun H2 l s2 hl => ?_⟩
    refine ⟨_, rfl, _, rfl, n, a, cl, rfl, by omega, by omega, hc.same s2, fun H3 b s3 h3 => ?_⟩
    obtain ⟨J, F⟩ := rsF (n := n) (m := cl.length) (indC_le cl) (by omega)
    have ck := pinv_clrOk F.I (indC_le cl) (by omega) (Nat.le_refl _) (Nat.le_refl _) (Nat.lt_succ_self _)
    refine ⟨_, rfl, b, l, _, _, rfl, h3, by rw [crow_len]; omega, hl.same s3, ck, fun H4 c s4 h4 => ?_⟩
    have h4' : H4 c = some (.lst ((rst n cl.length (indC cl)).map V.int)) := h4
    clear h4
    have hs14 := s1.trans (s2.trans (s3.trans s4))
    have hl4 := hl.same (s3.trans s4)
    have hF := fun fr h => F.frX (fr := fr) h
    have hrow := F.I.row
    have hbv := F.bv
    have hJl := F.I.len
    have hJk := F.I.len_k
    have hln := F.C.len
    generalize rst n cl.length (indC cl) = v at h4' q' hF hln
    generalize pvs n (cl.length + 1) (indC cl) cl.length = qs at q' hF hl4 hrow hbv hJl
    dsimp only [tNoPart]
    refine ⟨_, rfl, _, rfl, c, _, rfl, .inl (.inl h4'), fun p np => ?_⟩
    rw [cutV_to, ← List.map_take]
    have sp := same_put (o := .lst ((v.take n).map V.int)) np
    refine ⟨p, v.take n, rfl, .inl (.inl upd_same), fun H5 s5 => ?_⟩
    have s45 := sp.trans s5
    dsimp only [gName]
    refine ⟨_, rfl, _, rfl, ?_⟩
    cases hf : fst0 (v.take n) with
    | none => exact iteT (q' _ .non (hs14.trans s45) (fun _ => rfl) fun fr z => by rw [hf] at z; cases z)
    | some fr =>
      obtain ⟨f1, f2, f3⟩ := hF fr hf
      refine iteF ⟨_, rfl, _, rfl, _, rfl, n, fr, l, qs, rfl, by omega, f1, by omega, hl4.same s45, fun q hq => ⟨(hrow q hq).pl, by have := (hrow q hq).len; omega, (hrow q hq).pos, hbv q hq⟩, fun H6 d s6 h6 => ?_⟩
      have qq : ∀ H' u, Same H H' → Da K H' u (blD (bvals n qs fr)) → Q u H' := fun H' u s h => q' H' u s (fun z => by rw [hf] at z; cases z) fun fr' e => by rw [hf] at e; cases e; exact h
      have hXl : (bvals n qs fr).length = n := by
        unfold bvals
        rw [bvl_len, List.length_set, List.length_replicate]
      generalize bvals n qs fr = X at h6 hXl qq
      dsimp only [gName, tRet, tTup, tCons, tCB]
      refine lcI_list (a := d) (xs := X.map V.int) (ys := X.map fun i => .int (if (0 : Int) > i then 0 else i)) (by rw [List.length_map, List.length_map]) (fun Q hq => ⟨_, rfl, hq⟩) (.inl (.inl h6)) (by rw [List.length_map]; omega) (fun k x y hx hy H' R s' hR => ?_) (fun H7 D7 s7 nD7 eD7 => ?_)
      · obtain ⟨i, rfl, rfl⟩ := ints_at (f := fun i => if (0 : Int) > i then 0 else i) hx hy
        exact ⟨rfl, _, rfl, i, 0, rfl, hR _ Same.rfl'⟩
      · refine ⟨D7, _, rfl, .inl ⟨.inl (.inl eD7), fun t7 nt7 => ?_⟩⟩
        have u7 := same_put (o := .tup (X.map fun i => V.int (if (0 : Int) > i then 0 else i))) nt7
        have h8 := (s7.trans u7) _ _ h6
        refine lcI_list (a := d) (xs := X.map V.int) (ys := X.map fun i => .int (if (0 : Int) > -i then 0 else -i)) (by rw [List.length_map, List.length_map]) (fun Q hq => ⟨_, rfl, hq⟩) (.inl (.inl h8)) (by rw [List.length_map]; omega) (fun k x y hx hy H' R s' hR => ?_) (fun H9 D9 s9 nD9 eD9 => ?_)
        · obtain ⟨i, rfl, rfl⟩ := ints_at (f := fun i => if (0 : Int) > -i then 0 else -i) hx hy
          exact ⟨rfl, _, rfl, _, rfl, -i, 0, rfl, hR _ Same.rfl'⟩
        · refine ⟨D9, _, rfl, .inl ⟨.inl (.inl eD9), fun t9 nt9 => ⟨(by show 2 ≤ sizeLine; decide), fun t nt => ?_⟩⟩⟩
          have u9 := same_put (o := .tup (X.map fun i => V.int (if (0 : Int) > -i then 0 else -i))) nt9
          have ut := same_put (o := .tup [.ref t7, .ref t9]) nt
          refine qq _ _ (hs14.trans (s45.trans (s6.trans (s7.trans (u7.trans (s9.trans (u9.trans ut))))))) ?_
          refine .tup (.inl (.inl upd_same)) (.cons ?_ (.cons ?_ .nil))
          · exact .tup (.inl (.inl (ut _ _ (u9 _ _ (s9 _ _ upd_same))))) (da_intsQ (fun i => if (0 : Int) > i then 0 else i) X)
          · exact .tup (.inl (.inl (ut _ _ upd_same))) (da_intsQ (fun i => if (0 : Int) > -i then 0 else -i) X)
end
end Ev

/-! ## Slices with steps; sorted lists of texts -/
namespace Ev
open PySem PySem.Spec PyProof.Rows L2
/-- sorted(xs), texts, any number of them -/
def rSortedSA (K : PySem.W.Frag) : List V → Hp → VK → Prop := fun vs H Q => ∃ (a : Addr) (xs : List Str), vs = [V.ref a] ∧ SqL K H a (xs.map V.str) ∧ ∀ p, H p = none → Q (.ref p) (upd H p (.lst ((srtS xs).map V.str)))
section
variable {X : Cx}
theorem cr_sortedSA : CallR X (.builtin "sorted") (rSortedSA X.K) := by
  intro pins s σ H vs us Q I r h
  obtain ⟨a, xs, rfl, hs, q⟩ := h
  obtain ⟨its, rv, hl, hz⟩ := I.list hs
  rw [Vals.ref1 r]
  have hlen0 := rv.length
  rw [List.length_map] at hlen0 hz
  refine PyProof.Rows.sorted_strsAny hl.isList rv.strs (by omega) fun out ys h1 h2 h3 => ?_
  obtain ⟨ep, he'⟩ := PyProof.Rows.sortedAll_at s.heap its out
  have hlen : (ys.map V.str).length ≤ sizeLine := by rw [List.length_map, h2.length_eq]; exact hz
  rw [← srt_is h2 h3] at q
  exact ⟨.ref _, upd H (s.heap.objs.size + 1) (.lst (ys.map V.str)), I.laid (t' := s.toks) (fun _ _ => PyProof.Rows.sortedAll_old) (Nat.le_succ _) ⟨hlen, out.toList, ep, vals_of_strs h1, he'⟩, rfl, q _ (I.hok.fresh (Nat.le_succ _))⟩
end
/-! ### xs[a:b:c] -/
def pickX {α : Type} (xs : List α) (lo hi st : Option Int) : List α := (sliceRange (sliceBounds lo hi st xs.length).1 (sliceBounds lo hi st xs.length).2.1 (sliceBounds lo hi st xs.length).2.2).filterMap (xs[·]?)
theorem vals_pick {xs : List V} {us : List Value} (r : Vals xs us) : ∀ l : List Nat, Vals (l.filterMap (xs[·]?)) (l.filterMap (us[·]?))
  | [] => .nil
  | i :: l => by
    have ih := vals_pick r l
    have hl := r.length
    by_cases h : i < xs.length
    · have e1 := List.getElem?_eq_getElem h
      obtain ⟨u, hu, ru⟩ := r.get e1
      rw [List.filterMap_cons_some (f := (xs[·]?)) e1, List.filterMap_cons_some (f := (us[·]?)) hu]
      exact .cons ru ih
    · rw [List.filterMap_cons_none (f := (xs[·]?)) (List.getElem?_eq_none (by omega)), List.filterMap_cons_none (f := (us[·]?)) (List.getElem?_eq_none (by omega))]
      exact ih
def tSl3 (K : PySem.W.Frag) (te : TE) (tl tu ts : TO) : TE := fun σ H Q => te σ H fun x H1 => tl σ H1 fun lo H2 => tu σ H2 fun hi H3 => ts σ H3 fun st H4 => ∃ a xs, x = .ref a ∧ SqL K H4 a xs ∧ st ≠ some 0 ∧
  ∀ p, H4 p = none → Q (.ref p) (upd H4 p (.lst (pickX xs lo hi st)))
section
variable {X : Cx}
theorem pe_slice3 {e : Expr} {ol ou os : Option Expr} {te : TE} {tl tu ts : TO} {p3 pos : Pos} (he : PE X e te) (hl : PO X ol tl) (hu : PO X ou tu) (hs : PO X os ts)
    (ht : ∀ (a : Addr) (b : Addr) , subscripted (.Slice ol ou os p3) false (.ref a) (.ref b) = operate [.ref a, .ref b] (getItem (.ref a) (.ref b)) := by intros; with_unfolding_all rfl) : PE X (.Subscript e (.Slice ol ou os p3) pos) (tSl3 X.K te tl tu ts) := by
  refine ⟨fun pins s σ H Q I h => ?_⟩
  refine Subscript_ (thn (he.run pins s σ H _ I h) fun v s1 ⟨x, H1, I1, r1, q1⟩ => ?_)
  refine wpAny_Slice (thn (hl.run pins s1 σ H1 _ I1 q1) fun vl s2 ⟨l, H2, I2, pl, q2⟩ => ?_)
  refine thn (hu.run pins s2 σ H2 _ I2 q2) fun vu s3 ⟨u, H3, I3, pu, q3⟩ => ?_
  refine thn (hs.run pins s3 σ H3 _ I3 q3) fun vs s4 ⟨o, H4, I4, ps, q4⟩ => ?_
  obtain ⟨a, xs, ex, hx, h0, q⟩ := q4
  subst ex
  cases r1
  have I5 : Inv X pins σ H4 { s4 with heap := s4.heap.push { cls := .type "slice", data := .fields #[vl, vu, vs] } } := I4.kept (t' := s4.toks) fun b ob q => Heap.get?_push_of_some _ q
  obtain ⟨its, r, hT, hz⟩ := I5.list hx
  have hlen := r.length
  show wpAny (model X.prog X.w) X.A (subscriptTail e (.Slice ol ou os p3) (.ref a) (.ref s4.heap.objs.size)) (EP X pins σ Q) X.xe { s4 with heap := s4.heap.push { cls := .type "slice", data := .fields #[vl, vu, vs] } }
  refine tail_any (ops := [.ref a, .ref s4.heap.objs.size]) hT.isList.typeIs (PySem.slot_list_getitem.lookup) ?_ (ht _ _)
  refine wpAny_getItem_list_slice hT.isList (Heap.IsSliceOf.new _ vl vu vs) pl pu ps h0 ?_ (by rw [List.size_toArray]; omega)
  have ep : slicePick its.toArray l u o = (pickX its l u o).toArray := by
    unfold slicePick pickX
    rw [List.size_toArray]
    simp only [List.getElem?_toArray]
  rw [ep]
  have hv : Vals (pickX xs l u o) (pickX its l u o) := by
    unfold pickX
    rw [← hlen]
    exact vals_pick r _
  have hpl : (pickX xs l u o).length ≤ sizeLine := by
    have z := slicePick_size_le its.toArray l u o
    rw [ep, List.size_toArray, List.size_toArray] at z
    have := hv.length
    omega
  refine ⟨.ref _, _, I5.laid (t' := s4.toks) (o := .lst (pickX xs l u o)) (fun b ob q => Heap.get?_push_of_some _ q) (Nat.le_refl _) ?_, rfl, q _ (I5.hok.fresh (Nat.le_refl _))⟩
  exact ⟨hpl, _, 0, hv, Heap.get?_push_size _ rfl⟩
end
/-! ### classes of a row -/
def clsL (m c k : Nat) : List Nat := (List.range k).filter fun i => decide (i % m = c)
theorem cls_count {n : Str} {m c : Nat} (w : List Str) : ∀ k, k ≤ w.length → (((clsL m c k).filterMap (w[·]?)).count n : Int) = cf n m c (w.take k) 0
  | 0, _ => by
    rw [List.take_zero]
    rfl
  | k + 1, h => by
    have ih := cls_count (n := n) (m := m) (c := c) w k (by omega)
    have e := List.getElem?_eq_getElem (show k < w.length by omega)
    have e1 : clsL m c (k + 1) = clsL m c k ++ if k % m = c then [k] else [] := by
      unfold clsL
      rw [List.range_succ, List.filter_append]
      congr 1
      by_cases h' : k % m = c
      · rw [if_pos h']
        exact List.filter_cons_of_pos (p := fun i => decide (i % m = c)) (decide_eq_true h')
      · rw [if_neg h']
        exact List.filter_cons_of_neg (p := fun i => decide (i % m = c)) (by rw [decide_eq_false h']; exact Bool.false_ne_true)
    rw [e1, List.filterMap_append, List.count_append, List.take_add_one, e, cf_app, List.length_take, Nat.min_eq_left (by omega), ← ih]
    show _ = _ + ((if w[k] = n ∧ (0 + k) % m = c then 1 else 0) + 0)
    rw [Nat.zero_add]
    by_cases h' : k % m = c
    · rw [if_pos h', List.filterMap_cons_some (f := (w[·]?)) e, List.filterMap_nil, List.count_singleton]
      by_cases h2 : w[k] = n
      · rw [if_pos (beq_iff_eq.mpr h2), if_pos ⟨h2, h'⟩]
        omega
      · rw [if_neg (fun z => h2 (beq_iff_eq.mp z)), if_neg (fun z => h2 z.1)]
        omega
    · rw [if_neg h', if_neg (fun z => h' z.2), List.filterMap_nil, List.count_nil]
      omega
theorem range_cls {m c N : Nat} (hm : 0 < m) (hc : c < m) : (sliceRange (max 0 (min (c : Int) N)) N m).Perm (clsL m c N) := by
  by_cases hN : c < N
  · have ea : max 0 (min (c : Int) N) = (c : Int) := by omega
    have eq : sliceRange (max 0 (min (c : Int) N)) N m = (List.range ((N - c + m - 1) / m)).map fun k => c + m * k := by
      rw [ea]
      unfold sliceRange
      dsimp only
      rw [if_pos (show (m : Int) > 0 by omega), if_pos (show (c : Int) < N by omega)]
      have e1 : ((N : Int) - c + m - 1) / m = (((N - c + m - 1) / m : Nat) : Int) := by
        rw [Int.natCast_ediv]
        congr 1
        omega
      rw [e1, Int.toNat_natCast]
      refine List.map_congr_left fun k _ => ?_
      rw [show (c : Int) + (m : Int) * (k : Int) = ((c + m * k : Nat) : Int) by rw [Int.natCast_add, Int.natCast_mul], Int.toNat_natCast]
    rw [eq]
    refine (List.perm_ext_iff_of_nodup ?_ ?_).mpr fun x => ?_
    · refine List.Pairwise.map _ ?_ (List.nodup_range (n := (N - c + m - 1) / m))
      intro a b hab e
      exact hab (Nat.eq_of_mul_eq_mul_left hm (by omega))
    · exact List.Pairwise.filter _ (List.nodup_range (n := N))
    · rw [List.mem_map]
      unfold clsL
      rw [List.mem_filter, List.mem_range, decide_eq_true_iff]
      constructor
      · rintro ⟨k, hk, rfl⟩
        have hk := (Nat.lt_div_iff_mul_lt hm).mp (List.mem_range.mp hk)
        rw [Nat.mul_comm] at hk
        exact ⟨by omega, by rw [Nat.add_mul_mod_self_left, Nat.mod_eq_of_lt hc]⟩
      · rintro ⟨h1, h2⟩
        have e := Nat.div_add_mod x m
        refine ⟨x / m, List.mem_range.mpr ((Nat.lt_div_iff_mul_lt hm).mpr ?_), by omega⟩
        rw [Nat.mul_comm]
        omega
  · have ea : max 0 (min (c : Int) N) = (N : Int) := by omega
    have e1 : sliceRange (max 0 (min (c : Int) N)) N m = [] := by
      rw [ea]
      unfold sliceRange
      dsimp only
      rw [if_pos (show (m : Int) > 0 by omega), if_neg (show ¬ (N : Int) < N by omega)]
      rfl
    have e2 : clsL m c N = [] := by
      unfold clsL
      rw [List.filter_eq_nil_iff]
      intro i hi h
      have h := of_decide_eq_true h
      have hi := List.mem_range.mp hi
      have := Nat.mod_le i m
      omega
    rw [e1, e2]
/-- xs[c::m] is the class of c -/
theorem pick_cls {w : List Str} {m c : Nat} (hm : 0 < m) (hc : c < m) : (pickX w (some (c : Nat)) none (some (m : Nat))).Perm ((clsL m c w.length).filterMap (w[·]?)) := by
  unfold pickX
  have e : sliceBounds (some ((c : Nat) : Int)) none (some ((m : Nat) : Int)) w.length = (max 0 (min (c : Int) w.length), (w.length : Int), (m : Int)) := by
    unfold sliceBounds
    dsimp only
    rw [Option.getD_some, if_pos (show (m : Int) > 0 by omega), if_pos (show (m : Int) > 0 by omega), if_neg (show ¬ (c : Int) < 0 by omega)]
  rw [e]
  exact (range_cls hm hc).filterMap _
theorem pick_count {w : List Str} {n : Str} {m c : Nat} (hm : 0 < m) (hc : c < m) : ((pickX w (some (c : Nat)) none (some (m : Nat))).count n : Int) = cf n m c w 0 := by
  rw [(pick_cls hm hc).count_eq, cls_count w w.length (Nat.le_refl _), List.take_length]
theorem pick_map (w : List Str) (lo hi st : Option Int) : pickX (w.map V.str) lo hi st = (pickX w lo hi st).map V.str := by
  unfold pickX
  rw [List.length_map, List.map_filterMap]
  congr 1
  funext i
  exact List.getElem?_map
/-! ### lists of texts as data -/
theorem eqv_strs : ∀ xs ys : List Str, PyData.eqvAll (xs.map PyData.str) (ys.map PyData.str) = decide (xs = ys)
  | [], [] => by
    rw [List.map_nil, PyData.eqvAll]
    rfl
  | [], _ :: _ => by
    rw [List.map_nil, List.map_cons, PyData.eqvAll]
    · rfl
    all_goals (intros; contradiction)
  | _ :: _, [] => by
    rw [List.map_nil, List.map_cons, PyData.eqvAll]
    · rfl
    all_goals (intros; contradiction)
  | x :: xs, y :: ys => by
    rw [List.map_cons, List.map_cons, PyData.eqvAll, eqv_strs xs ys, PyData.eqv]
    by_cases h1 : x = y
    · by_cases h2 : xs = ys
      · rw [decide_eq_true h2, h1, h2]
        simp
      · rw [decide_eq_false h2, decide_eq_false (fun z => h2 (List.cons.inj z).2), Bool.and_false]
    · rw [decide_eq_false (fun z => h1 (List.cons.inj z).1)]
      simp [h1]
theorem eqv_lstr (xs ys : List Str) : PyData.eqv (.list (xs.map PyData.str)) (.list (ys.map PyData.str)) = decide (xs = ys) := by
  rw [PyData.eqv, eqv_strs]
theorem lay_strs {w : List Str} (h : ∀ x ∈ w, PyData.strOk x = true) : SeqAt.shaped (.list (w.map PyData.str)) = true := by
  have h1 : PyData.canLayAll0 (w.map PyData.str) = true ∧ PyData.depthAll (w.map PyData.str) = 0 := by
    induction w with
    | nil => exact ⟨by rw [List.map_nil, PyData.canLayAll0], by rw [List.map_nil, PyData.depthAll]⟩
    | cons x w ih =>
      obtain ⟨i1, i2⟩ := ih fun z hz => h z (List.mem_cons_of_mem _ hz)
      refine ⟨?_, ?_⟩
      · rw [List.map_cons, PyData.canLayAll0, i1, PyData.canLay0, h x (List.mem_cons_self ..)]
        rfl
      · rw [List.map_cons, PyData.depthAll, i2, PyData.depth]
        rfl
  unfold SeqAt.shaped
  rw [PyData.canLay0, h1.1, PyData.depth, h1.2]
  rfl
theorem dpl_strs {K : PySem.W.Frag} {H : Hp} {a : Addr} {w : List Str} (h : SqL K H a (w.map V.str)) : Dp K H (.ref a) (.list (w.map PyData.str)) := by
  refine .lst h ?_
  clear h
  induction w with
  | nil => exact .nil
  | cons x w ih => exact .cons (.str x) ih
theorem srt_perm_iff {l m : List Str} : srtS l = srtS m ↔ l.Perm m := by
  constructor
  · intro e
    exact (srt_perm l).symm.trans (e ▸ srt_perm m)
  · intro h
    exact pw_same (srt_pw l) (srt_pw m) ((srt_perm l).trans (h.trans (srt_perm m).symm))
end Ev

/-! ## t[a:b:c] of a tuple, the step written -/
namespace Ev
open PySem PySem.Spec PyProof.Rows L2
/-- the items at the places of a slice, as the model counts them -/
def stepX {α : Type} (xs : List α) (lo hi : Option Int) (st : Int) : List α :=
  (List.range (Builtin.Slice.slicePlaces (Builtin.Slice.sliceAdjust lo hi st (xs.length : Int)).1 (Builtin.Slice.sliceAdjust lo hi st (xs.length : Int)).2 st)).filterMap fun k : Nat => xs[((Builtin.Slice.sliceAdjust lo hi st (xs.length : Int)).1 + (k : Int) * st).toNat]?
theorem tup_step (t sl : Addr) (xs : List Value) (vl vu vs : Value) (lo hi : Option Int) (st : Int) (h0 : st ≠ 0) (h1 : st ≠ 1) (pl : IsPart vl lo) (pu : IsPart vu hi) (ps : IsPart vs (some st)) :
    Meets (Builtin.«tuple.__getitem__» ⟨[.ref t, .ref sl], []⟩) (fun _ R s => IsTup s.heap t xs.toArray ∧ s.heap.IsSliceOf sl vl vu vs ∧ (stepX xs lo hi st).length ≤ sizeLine ∧
      R (.ok (.ret (Value.ref s.heap.objs.size))) { s with heap := s.heap.push { cls := Value.type "tuple", data := Data.seq (stepX xs lo hi st).toArray } }) :=
  .of_wp fun prog w A R s h => by
    obtain ⟨ht, hs, hz, h⟩ := h
    obtain ⟨os, hos, hcs, hds⟩ := id hs
    have ty : s.TypeIs (.ref sl) "slice" := ⟨os, hos, hcs⟩
    wp_walk using (tupleItemsOf_ ht), (wpAny_typeOf ty), (wpAny_field (i := 0) (x := vl) hos hds rfl), (wpAny_field (i := 1) (x := vu) hos hds rfl), (wpAny_field (i := 2) (x := vs) hos hds rfl), (HT.slicePart_ pl), (HT.slicePart_ pu), (HT.slicePart_ ps)
    simp only [Option.getD_some, List.getElem?_toArray, List.size_toArray]
    show wpAny _ _ (if (stepX xs lo hi st).length > sizeLine then _ else _) _ _ _
    rw [if_neg (by omega)]
    wp_walk
    exact ⟨_, rfl, h⟩
theorem getItem_step {prog : Program} {w : World} {A : Around} {E : Value → Shared → Prop} {s : Shared} {t sl : Addr} {xs : List Value} {vl vu vs : Value} {lo hi : Option Int} {st : Int} {Q : Value → Shared → Prop} (ht : IsTup s.heap t xs.toArray) (hs : s.heap.IsSliceOf sl vl vu vs)
    (pl : IsPart vl lo) (pu : IsPart vu hi) (ps : IsPart vs (some st)) (h0 : st ≠ 0) (h1 : st ≠ 1) (hz : (stepX xs lo hi st).length ≤ sizeLine)
    (h : Q (.ref s.heap.objs.size) { s with heap := s.heap.push { cls := Value.type "tuple", data := Data.seq (stepX xs lo hi st).toArray } }) : wpAny (model prog w) A (getItem (.ref t) (.ref sl)) Q E s := by
  exact PySem.getItem_meets ht.typeIs (by decide) PyProof.Rows.slot_tuple_getitem PyProof.Rows.entry_tuple_getitem (PyProof.Rows.args_tuple_getitem _ _) (tup_step t sl xs vl vu vs lo hi st h0 h1 pl pu ps) ⟨ht, hs, hz, h⟩
def tSt3 (K : PySem.W.Frag) (te : TE) (tl tu ts : TO) : TE := fun σ H Q => te σ H fun x H1 => tl σ H1 fun lo H2 => tu σ H2 fun hi H3 => ts σ H3 fun o H4 => ∃ a xs st, x = .ref a ∧ SqT K H4 a xs ∧ o = some st ∧ st ≠ 0 ∧ st ≠ 1 ∧ (stepX xs lo hi st).length ≤ sizeLine ∧
  ∀ p, H4 p = none → Q (.ref p) (upd H4 p (.tup (stepX xs lo hi st)))
theorem vals_step {xs : List V} {us : List Value} (r : Vals xs us) (lo hi : Option Int) (st : Int) : Vals (stepX xs lo hi st) (stepX us lo hi st) := by
  unfold stepX
  rw [r.length]
  generalize (Builtin.Slice.sliceAdjust lo hi st (us.length : Int)).1 = a
  generalize Builtin.Slice.slicePlaces _ _ _ = n
  have go : ∀ l : List Nat, Vals (l.filterMap fun k : Nat => xs[(a + (k : Int) * st).toNat]?) (l.filterMap fun k : Nat => us[(a + (k : Int) * st).toNat]?) := fun l => by
    have z := vals_pick r (l.map fun k : Nat => (a + (k : Int) * st).toNat)
    rw [List.filterMap_map, List.filterMap_map] at z
    exact z
  exact go _
section
variable {X : Cx}
theorem pe_step3 {e : Expr} {ol ou os : Option Expr} {te : TE} {tl tu ts : TO} {p3 pos : Pos} (he : PE X e te) (hl : PO X ol tl) (hu : PO X ou tu) (hs : PO X os ts)
    (ht : ∀ (a : Addr) (b : Addr) , subscripted (.Slice ol ou os p3) false (.ref a) (.ref b) = operate [.ref a, .ref b] (getItem (.ref a) (.ref b)) := by intros; with_unfolding_all rfl) : PE X (.Subscript e (.Slice ol ou os p3) pos) (tSt3 X.K te tl tu ts) := by
  refine ⟨fun pins s σ H Q I h => Subscript_ (thn (he.run pins s σ H _ I h) fun v s1 ⟨x, H1, I1, r1, q1⟩ => ?_)⟩
  refine wpAny_Slice (thn (hl.run pins s1 σ H1 _ I1 q1) fun vl s2 ⟨l, H2, I2, pl, q2⟩ => thn (hu.run pins s2 σ H2 _ I2 q2) fun vu s3 ⟨u, H3, I3, pu, q3⟩ => thn (hs.run pins s3 σ H3 _ I3 q3) fun vs s4 ⟨o, H4, I4, ps, q4⟩ => ?_)
  obtain ⟨a, xs, st, rfl, hx, rfl, h0, h1, hz, q⟩ := q4
  cases r1
  let s5 : Shared := { s4 with heap := s4.heap.push { cls := .type "slice", data := .fields #[vl, vu, vs] } }
  have I5 : Inv X pins σ H4 s5 := I4.kept (t' := s4.toks) fun b ob q => Heap.get?_push_of_some _ q
  obtain ⟨its, r, hT, hzz⟩ := I5.tuple hx
  have rv := vals_step r l u st
  show wpAny (model X.prog X.w) X.A (subscriptTail e (.Slice ol ou os p3) (.ref a) (.ref s4.heap.objs.size)) (EP X pins σ Q) X.xe s5
  refine tail_any (ops := [.ref a, .ref s4.heap.objs.size]) hT.typeIs (PyProof.Rows.slot_tuple_getitem.lookup) (getItem_step hT (Heap.IsSliceOf.new _ vl vu vs) pl pu ps h0 h1 (by rw [← rv.length]; exact hz) ?_) (ht _ _)
  exact ⟨.ref _, _, I5.laid (t' := s4.toks) (o := .tup (stepX xs l u st)) (fun b ob q => Heap.get?_push_of_some _ q) (Nat.le_refl _) ⟨hz, _, rv, IsTup.new _ _⟩, rfl, q _ (I5.hok.fresh (Nat.le_refl _))⟩
end
/-! ### backwards -/
theorem step_back {α : Type} (xs : List α) : stepX xs none none (-1) = xs.reverse := by
  have e1 : Builtin.Slice.sliceAdjust none none (-1) (xs.length : Int) = ((xs.length : Int) - 1, -1) := by
    unfold Builtin.Slice.sliceAdjust
    simp
  have e2 : Builtin.Slice.slicePlaces ((xs.length : Int) - 1) (-1) (-1) = xs.length := by
    unfold Builtin.Slice.slicePlaces
    simp
    split <;> omega
  unfold stepX
  rw [e1]
  dsimp only
  rw [e2]
  apply List.ext_getElem?
  have go : ∀ n, n ≤ xs.length → (List.range n).filterMap (fun k : Nat => xs[((xs.length : Int) - 1 + (k : Int) * (-1)).toNat]?) = xs.reverse.take n := fun n => by
    induction n with
    | zero => intro _; rfl
    | succ n ih =>
      intro h
      have en : ((xs.length : Int) - 1 + (n : Int) * (-1)).toNat = xs.length - 1 - n := by omega
      have ex := List.getElem?_eq_getElem (show xs.length - 1 - n < xs.length by omega)
      rw [List.range_succ, List.filterMap_append, ih (by omega), List.take_add_one, List.getElem?_reverse (by omega), ex]
      congr 1
      rw [List.filterMap_cons_some (f := fun k : Nat => xs[((xs.length : Int) - 1 + (k : Int) * (-1)).toNat]?) (by rw [en]; exact ex)]
      rfl
  intro i
  rw [go _ (Nat.le_refl _), ← List.length_reverse, List.take_length]
end Ev

/-! ## t[a:b:c] of a tuple, the step 1 among them if it is the whole -/
namespace Ev
open PySem PySem.Spec PyProof.Rows L2
def wholeX (n : Nat) (lo hi : Option Int) : Prop := (Builtin.Slice.sliceAdjust lo hi 1 (n : Int)).1 = 0 ∧ Builtin.Slice.slicePlaces (Builtin.Slice.sliceAdjust lo hi 1 (n : Int)).1 (Builtin.Slice.sliceAdjust lo hi 1 (n : Int)).2 1 = n
theorem tup_whole (t sl : Addr) (xs : List Value) (vl vu vs : Value) (lo hi : Option Int) (hw : wholeX xs.length lo hi) (pl : IsPart vl lo) (pu : IsPart vu hi) (ps : IsPart vs (some 1)) :
    Meets (Builtin.«tuple.__getitem__» ⟨[.ref t, .ref sl], []⟩) (fun _ R s => IsTup s.heap t xs.toArray ∧ s.heap.IsSliceOf sl vl vu vs ∧ R (.ok (.ret (Value.ref t))) s) :=
  .of_wp fun prog w A R s h => by
    obtain ⟨ht, hs, h⟩ := h
    obtain ⟨os, hos, hcs, hds⟩ := id hs
    have ty : s.TypeIs (.ref sl) "slice" := ⟨os, hos, hcs⟩
    have ty2 := ht.typeIs
    obtain ⟨w1, w2⟩ := hw
    rw [w1] at w2
    have cnd : ((Builtin.Slice.sliceAdjust lo hi ((some (1 : Int)).getD 1) ↑xs.toArray.size).fst == 0 && ((some (1 : Int)).getD 1) == 1 && Builtin.Slice.slicePlaces (Builtin.Slice.sliceAdjust lo hi ((some (1 : Int)).getD 1) ↑xs.toArray.size).fst (Builtin.Slice.sliceAdjust lo hi ((some (1 : Int)).getD 1) ↑xs.toArray.size).snd ((some (1 : Int)).getD 1) == xs.toArray.size) = true := by
      simp only [Option.getD_some, List.size_toArray]
      rw [w1, w2]
      simp
    wp_walk using (tupleItemsOf_ ht), (wpAny_typeOf ty), (wpAny_typeOf ty2), (wpAny_field (i := 0) (x := vl) hos hds rfl), (wpAny_field (i := 1) (x := vu) hos hds rfl), (wpAny_field (i := 2) (x := vs) hos hds rfl), (HT.slicePart_ pl), (HT.slicePart_ pu), (HT.slicePart_ ps)
    exact ⟨_, rfl, h⟩
def tStW (K : PySem.W.Frag) (te : TE) (tl tu ts : TO) : TE := fun σ H Q => te σ H fun x H1 => tl σ H1 fun lo H2 => tu σ H2 fun hi H3 => ts σ H3 fun o H4 => ∃ a xs st, x = .ref a ∧ SqT K H4 a xs ∧ o = some st ∧
  ((st ≠ 0 ∧ st ≠ 1 ∧ (stepX xs lo hi st).length ≤ sizeLine ∧ ∀ p, H4 p = none → Q (.ref p) (upd H4 p (.tup (stepX xs lo hi st)))) ∨ (st = 1 ∧ wholeX xs.length lo hi ∧ Q (.ref a) H4))
section
variable {X : Cx}
theorem pe_stepW {e : Expr} {ol ou os : Option Expr} {te : TE} {tl tu ts : TO} {p3 pos : Pos} (he : PE X e te) (hl : PO X ol tl) (hu : PO X ou tu) (hs : PO X os ts)
    (ht : ∀ (a : Addr) (b : Addr) , subscripted (.Slice ol ou os p3) false (.ref a) (.ref b) = operate [.ref a, .ref b] (getItem (.ref a) (.ref b)) := by intros; with_unfolding_all rfl) : PE X (.Subscript e (.Slice ol ou os p3) pos) (tStW X.K te tl tu ts) := by
  refine ⟨fun pins s σ H Q I h => Subscript_ (thn (he.run pins s σ H _ I h) fun v s1 ⟨x, H1, I1, r1, q1⟩ => ?_)⟩
  refine wpAny_Slice (thn (hl.run pins s1 σ H1 _ I1 q1) fun vl s2 ⟨l, H2, I2, pl, q2⟩ => thn (hu.run pins s2 σ H2 _ I2 q2) fun vu s3 ⟨u, H3, I3, pu, q3⟩ => thn (hs.run pins s3 σ H3 _ I3 q3) fun vs s4 ⟨o, H4, I4, ps, q4⟩ => ?_)
  obtain ⟨a, xs, st, rfl, hx, rfl, q⟩ := q4
  cases r1
  let s5 : Shared := { s4 with heap := s4.heap.push { cls := .type "slice", data := .fields #[vl, vu, vs] } }
  have I5 : Inv X pins σ H4 s5 := I4.kept (t' := s4.toks) fun b ob q => Heap.get?_push_of_some _ q
  obtain ⟨its, r, hT, hzz⟩ := I5.tuple hx
  have rv := vals_step r l u st
  show wpAny (model X.prog X.w) X.A (subscriptTail e (.Slice ol ou os p3) (.ref a) (.ref s4.heap.objs.size)) (EP X pins σ Q) X.xe s5
  rcases q with ⟨h0, h1, hz, q⟩ | ⟨rfl, hw, q⟩
  · refine tail_any (ops := [.ref a, .ref s4.heap.objs.size]) hT.typeIs (PyProof.Rows.slot_tuple_getitem.lookup) (getItem_step hT (Heap.IsSliceOf.new _ vl vu vs) pl pu ps h0 h1 (by rw [← rv.length]; exact hz) ?_) (ht _ _)
    exact ⟨.ref _, _, I5.laid (t' := s4.toks) (o := .tup (stepX xs l u st)) (fun b ob q => Heap.get?_push_of_some _ q) (Nat.le_refl _) ⟨hz, _, rv, IsTup.new _ _⟩, rfl, q _ (I5.hok.fresh (Nat.le_refl _))⟩
  · refine tail_any (ops := [.ref a, .ref s4.heap.objs.size]) hT.typeIs (PyProof.Rows.slot_tuple_getitem.lookup) (PySem.getItem_meets hT.typeIs (by decide) PyProof.Rows.slot_tuple_getitem PyProof.Rows.entry_tuple_getitem (PyProof.Rows.args_tuple_getitem _ _) (tup_whole a s4.heap.objs.size its vl vu vs l u (by rw [← r.length]; exact hw) pl pu ps) ⟨hT, Heap.IsSliceOf.new _ vl vu vs, ?_⟩) (ht _ _)
    exact ⟨.ref a, H4, I5, rfl, q⟩
end
/-- t[c::m], the length a multiple of m -/
theorem step_class {α : Type} {xs : List α} {m k c : Nat} (hm : 0 < m) (hc : c < m) (hl : xs.length = m * k) : stepX xs (some (c : Nat)) none (m : Nat) = (List.range k).filterMap fun j => xs[c + j * m]? := by
  have e1 : Builtin.Slice.sliceAdjust (some ((c : Nat) : Int)) none ((m : Nat) : Int) (xs.length : Int) = (min (c : Int) xs.length, (xs.length : Int)) := by
    unfold Builtin.Slice.sliceAdjust
    have h1 : ¬ ((m : Nat) : Int) < 0 := by omega
    have h2 : ¬ ((c : Nat) : Int) < 0 := by omega
    simp only [h1, h2, if_false]
  have hmin : min (c : Int) xs.length = if k = 0 then 0 else (c : Int) := by
    by_cases hk : k = 0
    · rw [if_pos hk, hl, hk, Nat.mul_zero]
      omega
    · rw [if_neg hk, hl]
      have : m ≤ m * k := Nat.le_mul_of_pos_right _ (by omega)
      omega
  have e2 : Builtin.Slice.slicePlaces (min (c : Int) xs.length) (xs.length : Int) ((m : Nat) : Int) = k := by
    unfold Builtin.Slice.slicePlaces
    rw [if_pos (show ((m : Nat) : Int) > 0 by omega), hmin]
    by_cases hk : k = 0
    · rw [if_pos hk, hl, hk, Nat.mul_zero]
      rfl
    · rw [if_neg hk]
      have h1 : m ≤ m * k := Nat.le_mul_of_pos_right _ (by omega)
      rw [if_pos (by omega), hl]
      have h2 : (((m * k : Nat) : Int) - (c : Int) - 1) = (((k - 1) * m + (m - 1 - c) : Nat) : Int) := by
        obtain ⟨k', rfl⟩ : ∃ k', k = k' + 1 := ⟨k - 1, by omega⟩
        rw [Nat.add_sub_cancel, Nat.mul_succ, Nat.mul_comm k' m]
        omega
      rw [h2, ← Int.natCast_ediv, Nat.mul_comm (k - 1) m, Nat.mul_add_div hm, Nat.div_eq_of_lt (by omega)]
      omega
  unfold stepX
  rw [e1]
  dsimp only
  rw [e2]
  by_cases hk : k = 0
  · subst hk
    rfl
  · rw [hmin, if_neg hk]
    rfl
theorem whole_one (n : Nat) : wholeX n (some 0) none := by
  unfold wholeX Builtin.Slice.sliceAdjust Builtin.Slice.slicePlaces
  have h : min (0 : Int) (n : Int) = 0 := by omega
  simp
  refine ⟨by omega, ?_⟩
  rw [h]
  split <;> omega
end Ev

/-! ## [elt for x in a tuple if test], told place by place -/
namespace Ev
open PySem PySem.Spec PyProof.Rows L2
theorem lcO_tup {K : PySem.W.Frag} {σ : L2.St} {H : Hp} {Q : VK} {tt : TT} {te ti : TE} {a : Addr} {xs : List V} {g : TG} {vs : List Nat} (zs : List (Option V)) (hl : zs.length = xs.length) (hi : ∀ Q : VK, Q (.ref a) H → ti σ H Q) (hx : SqT K H a xs) (hz : xs.length ≤ 1000000)
    (he : ∀ (j : Nat) (x : V) (z : Option V), xs[j]? = some x → zs[j]? = some z → ∀ (H' : Hp) (N : Hp → Prop) (R : VK), Same H H' → (z = none → ∀ H'', Same H' H'' → N H'') → (∀ y, z = some y → ∀ H'', Same H' H'' → R y H'') →
      g x (wipe σ vs) H' fun σ2 H2 => wipe σ2 vs = wipe σ vs ∧ tt σ2 H2 fun b H3 => if b = true then te σ2 H3 R else N H3)
    (q : ∀ H' D, Same H H' → H D = none → H' D = some (.lst (zs.filterMap id)) → Q (.ref D) H') : tLc (iTup K ti) g tt te vs σ H Q := by
  refine hi _ ⟨a, rfl, ⟨xs, hx⟩, fun D nD => ?_⟩
  have y := sizeLine_eq
  refine lc_tup (K := K) (a := a) (xs := xs) (fun k H' => Same H H' ∧ H' D = some (.lst ((zs.take k).filterMap id))) ⟨same_put nD, by rw [List.take_zero]; exact upd_same⟩ (fun k H' _ ⟨s', _⟩ => seqT_mono s' hx) ?_ ?_
  · rintro k x H' hk ⟨s', eD⟩
    have hk' : k < zs.length := by
      have := (List.getElem?_eq_some_iff.mp hk).1
      omega
    have hzk := List.getElem?_eq_getElem hk'
    have hb := List.length_filterMap_le id (zs.take k)
    rw [List.length_take] at hb
    refine he k x _ hk hzk H' _ _ s' (fun hn H'' s'' => ⟨s'.trans s'', ?_⟩) fun v hv H'' s'' => ⟨_, s'' _ _ eD, by omega, fun b o e => ?_, ?_⟩
    · rw [s'' _ _ eD, List.take_add_one, hzk, hn]
      simp
    · rw [upd_ne (ne_of_none e nD)]
      exact s'' _ _ (s' _ _ e)
    · rw [upd_same, List.take_add_one, hzk, hv]
      simp
  · rintro H' ⟨s', eD⟩
    rw [← hl, List.take_length] at eD
    exact q H' D s' nD eD
end Ev

/-! ## a comprehension over a tuple, told place by place; one over range(f(..)) -/
namespace Ev
open PySem PySem.Spec PyProof.Rows L2
theorem fm_id {α : Type} (l : List α) : (l.map some).filterMap id = l := by
  induction l with
  | nil => rfl
  | cons a l ih =>
    rw [List.map_cons, List.filterMap_cons]
    show a :: (l.map some).filterMap id = a :: l
    rw [ih]
/-- [elt for x in a tuple], told place by place -/
theorem lcY_tup {K : PySem.W.Frag} {σ : L2.St} {H : Hp} {Q : VK} {te ti : TE} {a : Addr} {xs : List V} {g : TG} {vs : List Nat} (ys : List V) (hl : ys.length = xs.length) (hi : ∀ Q : VK, Q (.ref a) H → ti σ H Q) (hx : SqT K H a xs) (hz : xs.length ≤ 1000000)
    (he : ∀ (j : Nat) (x y : V), xs[j]? = some x → ys[j]? = some y → ∀ (H' : Hp) (R : VK), Same H H' → (∀ H'', Same H' H'' → R y H'') → g x (wipe σ vs) H' fun σ2 H2 => wipe σ2 vs = wipe σ vs ∧ te σ2 H2 R)
    (q : ∀ H' D, Same H H' → H D = none → H' D = some (.lst ys) → Q (.ref D) H') : tLc (iTup K ti) g tYes te vs σ H Q := by
  refine lcO_tup (K := K) (xs := xs) (ys.map some) (by rw [List.length_map]; exact hl) hi hx hz (fun j x z hx' hz' H' N R s' _ hR => ?_) fun H' D s' nD hD => q H' D s' nD (by rw [hD, fm_id])
  rw [List.getElem?_map] at hz'
  obtain ⟨y, hy, rfl⟩ := Option.map_eq_some_iff.mp hz'
  exact he j x y hx' hy H' R s' (fun H'' s'' => hR y rfl H'' s'')
theorem lc_rthen {ta : TA} {te : TE} {g : TG} {tt : TT} {vs : List Nat} {σ : L2.St} {H : Hp} {Q : VK} (h : ta σ H fun us H1 => tLc (iRng1 (fun _ H Q => Q us H)) g tt te vs σ H1 Q) : tLc (iRng1 ta) g tt te vs σ H Q := h
theorem lc_lthen {K : PySem.W.Frag} {ti te : TE} {g : TG} {tt : TT} {vs : List Nat} {σ : L2.St} {H : Hp} {Q : VK} (h : ti σ H fun x H1 => tLc (iList K (fun _ H Q => Q x H1)) g tt te vs σ H1 Q) : tLc (iList K ti) g tt te vs σ H Q := h
/-- [a new list for x in a list] -/
theorem lc_lstLL {K : PySem.W.Frag} {σ : L2.St} {H : Hp} {Q : VK} {te ti : TE} {rows : Nat → List V} {a : Addr} {xs : List V} {g : TG} {vs : List Nat} (hi : ∀ Q : VK, Q (.ref a) H → ti σ H Q) (hx : SqL K H a xs) (hz : xs.length ≤ 1000000)
    (he : ∀ (j : Nat) (x : V), xs[j]? = some x → ∀ (H' : Hp) (R : VK), Same H H' → (∀ H'' l, Same H' H'' → H' l = none → H'' l = some (.lst (rows j)) → R (.ref l) H'') → g x (wipe σ vs) H' fun σ2 H2 => wipe σ2 vs = wipe σ vs ∧ te σ2 H2 R)
    (q : ∀ H' D (ps : List Addr), Same H H' → H' D = some (.lst (ps.map V.ref)) → ps.length = xs.length → (∀ (j : Nat) p, ps[j]? = some p → H' p = some (.lst (rows j))) → Q (.ref D) H') : tLc (iList K ti) g tYes te vs σ H Q := by
  refine hi _ ⟨a, rfl, ⟨_, hx⟩, fun D nD => ?_⟩
  have y := sizeLine_eq
  refine lc_list (K := K) (a := a) (xs := xs) (fun k H' => Same H H' ∧ ∃ ps : List Addr, H' D = some (.lst (ps.map V.ref)) ∧ ps.length = k ∧ ∀ (j : Nat) p, ps[j]? = some p → p ≠ D ∧ H' p = some (.lst (rows j)))
    ⟨same_put nD, [], upd_same, rfl, fun j p h => by simp at h⟩ (fun k H' _ ⟨s', _⟩ => s'.seq hx) ?_ ?_
  · rintro k x H' hk ⟨s', ps, eD, hl, hp⟩
    have hkl : k < xs.length := (List.getElem?_eq_some_iff.mp hk).1
    refine cast ?_ (he k x hk H' (fun y H4 => ∃ acc, H4 D = some (.lst acc) ∧ acc.length < sizeLine ∧ (Same H (upd H4 D (.lst (acc ++ [y]))) ∧ ∃ ps : List Addr, upd H4 D (.lst (acc ++ [y])) D = some (.lst (ps.map V.ref)) ∧ ps.length = k + 1 ∧ ∀ (j : Nat) p, ps[j]? = some p → p ≠ D ∧ upd H4 D (.lst (acc ++ [y])) p = some (.lst (rows j)))) s' fun H4 t s4 nt h4 => ⟨_, s4 _ _ eD, ?_, ?_, ps ++ [t], ?_, ?_, ?_⟩)
    · rfl
    · rw [List.length_map]
      omega
    · intro b o h
      rw [upd_ne (ne_of_none h nD)]
      exact s4 _ _ (s' _ _ h)
    · rw [upd_same, List.map_append]
      rfl
    · rw [List.length_append, hl]
      rfl
    · intro j u hj
      have htD : t ≠ D := fun e => by
        rw [e, eD] at nt
        cases nt
      by_cases hjk : j < k
      · rw [List.getElem?_append_left (by omega)] at hj
        obtain ⟨g1, g2⟩ := hp j u hj
        refine ⟨g1, ?_⟩
        rw [upd_ne g1]
        exact s4 _ _ g2
      · have hjk : j = k := by
          obtain ⟨h1, _⟩ := List.getElem?_eq_some_iff.mp hj
          rw [List.length_append, hl] at h1
          have h1 : j < k + 1 := h1
          omega
        subst hjk
        rw [List.getElem?_append_right (by omega), hl, Nat.sub_self] at hj
        obtain rfl : t = u := Option.some.inj hj
        refine ⟨htD, ?_⟩
        rw [upd_ne htD]
        exact h4
  · rintro H' ⟨s', ps, eD, hl, hp⟩
    exact q H' D ps s' eD hl fun j p h => (hp j p h).2
end Ev

/-! ## The blind pairs are right -/
namespace Ev
open PySem PySem.Spec PyProof.Rows L2 Pm
theorem div_at {c q s k : Nat} (hc : 0 < c) (h1 : k * c ≤ s) (h2 : s < k * c + c) : (c * q + s) / c = q + k := by
  rw [Nat.mul_add_div hc]
  congr 1
  exact Nat.div_eq_of_lt_le h1 (by rw [Nat.succ_mul]; exact h2)
theorem ticks_sum {a c : Nat} (hc : a < c) (f : Nat → Int) : ∀ n : Nat, ((List.range ((n - a + c - 1) / c)).map fun i => f (a + i * c)).sum = Pm.sumN n fun t => if t % c = a then f t else 0
  | 0 => by
    rw [Nat.zero_sub, Nat.zero_add, Nat.div_eq_of_lt (by omega)]
    rfl
  | n + 1 => by
    have ih := ticks_sum hc f n
    have c0 : 0 < c := by omega
    have hn := Nat.div_add_mod n c
    have hr := Nat.mod_lt n c0
    rw [Pm.sumN, ← ih]
    generalize hQ : n / c = q at hn
    generalize hR : n % c = r at hn hr
    by_cases h : r = a
    · rw [if_pos h]
      have e1 : (n - a + c - 1) / c = q := by
        rw [show n - a + c - 1 = c * (q) + (c - 1) by omega, div_at (k := 0) c0 (by omega) (by omega), Nat.add_zero]
      have e2 : (n + 1 - a + c - 1) / c = q + 1 := by
        rw [show n + 1 - a + c - 1 = c * (q) + c by omega, div_at (k := 1) c0 (by omega) (by omega)]
      rw [e1, e2, List.range_succ, List.map_append, List.sum_append]
      have e3 : a + q * c = n := by rw [Nat.mul_comm]; omega
      show _ + (f (a + q * c) + 0) = _
      rw [e3, Int.add_zero]
    · rw [if_neg h, Int.add_zero]
      have e : (n + 1 - a + c - 1) / c = (n - a + c - 1) / c := by
        by_cases g : a < r
        · rw [show n + 1 - a + c - 1 = c * (q) + (r - a + c) by omega, show n - a + c - 1 = c * (q) + (r - a + c - 1) by omega, div_at (k := 1) c0 (by omega) (by omega), div_at (k := 1) c0 (by omega) (by omega)]
        · by_cases z : q = 0
          · have hnr : r = n := by
              rw [z, Nat.mul_zero, Nat.zero_add] at hn
              exact hn
            have hna : n < a := by
              rw [hnr] at g h
              omega
            rw [Nat.div_eq_of_lt (show n + 1 - a + c - 1 < c by omega), Nat.div_eq_of_lt (show n - a + c - 1 < c by omega)]
          · have z1 : c * (q) = c * (q - 1) + c := by
              have : q = (q - 1) + 1 := by omega
              rw [this, Nat.mul_succ]
              simp
            rw [show n + 1 - a + c - 1 = c * (q - 1) + (c + r - a + c) by omega, show n - a + c - 1 = c * (q - 1) + (c + r - a + c - 1) by omega, div_at (k := 1) c0 (by omega) (by omega), div_at (k := 1) c0 (by omega) (by omega)]
      rw [e]
theorem sumC_sum {n : Nat} {e : Nat × Nat} (h : e.2 < e.1) (x : List Int) : sumC n e x = Pm.sumN n fun t => if t % e.1 = e.2 then gd x t else 0 := by
  rw [← ticks_sum h (fun t => gd x t) n]
  unfold sumC ticksC
  rw [List.map_map]
  rfl
theorem sumN_all (x : List Int) : ∀ n : Nat, n = x.length → Pm.sumN n (fun t => gd x t) = x.sum := by
  have go : ∀ n, n ≤ x.length → Pm.sumN n (fun t => gd x t) = (x.take n).sum := by
    intro n
    induction n with
    | zero => intro _; rfl
    | succ n ih =>
      intro h
      rw [Pm.sumN, ih (by omega), List.take_succ_eq_append_getElem (show n < x.length by omega), List.sum_append, gd_eq (show n < x.length by omega)]
      simp
  intro n h
  rw [go n (by omega), List.take_of_length_le (by omega)]
theorem gd_pos (x : List Int) (t : Nat) : gd (x.map fun i => if (0 : Int) > i then 0 else i) t - gd (x.map fun i => if (0 : Int) > -i then 0 else -i) t = gd x t := by
  rw [gd_map (fun i => if (0 : Int) > i then 0 else i) rfl, gd_map (fun i => if (0 : Int) > -i then 0 else -i) rfl]
  split <;> split <;> omega
theorem bl_ok {n : Nat} {cl : List (Nat × Nat)} {fr : Nat} (hm : cl.length ≤ 12) (hp : ∀ e ∈ cl, 0 < e.1 ∧ e.2 < e.1 ∧ e.1 ≤ n) (hf : fst0 ((rst n cl.length (indC cl)).take n) = some fr) : isBl n cl (blD (bvals n (pvs n (cl.length + 1) (indC cl) cl.length) fr)) = true := by
  obtain ⟨J, F⟩ := rsF (n := n) (m := cl.length) (indC_le cl) hm
  obtain ⟨b1, b2, b3⟩ := F.blind hf
  generalize bvals n (pvs n (cl.length + 1) (indC cl) cl.length) fr = X at b1 b2 b3
  have hv : ∀ f : Int → Int, (∀ i, 0 ≤ f i) → isVals n (.tuple (X.map fun i => .int (f i))) = true ∧ valsOf (.tuple (X.map fun i => .int (f i))) = X.map f := fun f hf => by
    refine ⟨?_, ?_⟩
    · show (decide ((X.map fun i => PyData.int (f i)).length = n) && (X.map fun i => PyData.int (f i)).all isNat) = true
      rw [decide_eq_true (by rw [List.length_map]; exact b1), Bool.true_and]
      refine List.all_eq_true.mpr fun d hd => ?_
      obtain ⟨i, _, rfl⟩ := List.mem_map.mp hd
      exact decide_eq_true (hf i)
    · show (X.map fun i => PyData.int (f i)).map toI = _
      rw [List.map_map]
      rfl
  obtain ⟨p1, p2⟩ := hv (fun i => if (0 : Int) > i then 0 else i) fun i => by split <;> omega
  obtain ⟨m1, m2⟩ := hv (fun i => if (0 : Int) > -i then 0 else -i) fun i => by split <;> omega
  show (isVals n _ && (isVals n _ && (cl.all (fun e => decide (sumC n e (valsOf _) = sumC n e (valsOf _))) && !decide ((valsOf _).sum = (valsOf _).sum)))) = true
  rw [p1, m1, p2, m2, Bool.true_and, Bool.true_and, Bool.and_eq_true]
  refine ⟨List.all_eq_true.mpr fun e he => decide_eq_true ?_, ?_⟩
  · obtain ⟨h1, h2, h3⟩ := hp e he
    obtain ⟨j, hj⟩ := List.mem_iff_getElem?.mp he
    have hjl := (List.getElem?_eq_some_iff.mp hj).1
    have z := b2 j hjl
    have ej : cl[j] = e := by
      rw [List.getElem?_eq_getElem hjl] at hj
      exact Option.some.inj hj
    have e0 : ∀ x : List Int, sumC n e x = Pm.sumN n fun t => (indC cl j t : Int) * gd x t := fun x => by
      rw [sumC_sum h2]
      refine sumN_congr fun t _ => ?_
      rw [indC_at hjl, ej]
      split
      · exact (Int.one_mul _).symm
      · exact (Int.zero_mul _).symm
    have d := sumN_lin 1 1 (fun t => (indC cl j t : Int) * gd (X.map fun i => if (0 : Int) > i then 0 else i) t) (fun t => (indC cl j t : Int) * gd (X.map fun i => if (0 : Int) > -i then 0 else -i) t) n
    rw [Int.one_mul, Int.one_mul, ← e0, ← e0] at d
    have d2 : (Pm.sumN n fun i => 1 * ((indC cl j i : Int) * gd (X.map fun i => if (0 : Int) > i then 0 else i) i) - 1 * ((indC cl j i : Int) * gd (X.map fun i => if (0 : Int) > -i then 0 else -i) i)) = 0 := by
      refine Eq.trans (sumN_congr fun t _ => ?_) z
      rw [Int.one_mul, Int.one_mul, ← Int.mul_sub, gd_pos]
    rw [d2] at d
    omega
  · have ne : ¬ (X.map fun i => if (0 : Int) > i then 0 else i).sum = (X.map fun i => if (0 : Int) > -i then 0 else -i).sum := fun h => by
      rw [← sumN_all _ n (by rw [List.length_map]; exact b1.symm), ← sumN_all _ n (by rw [List.length_map]; exact b1.symm)] at h
      refine b3 ⟨0, ?_⟩
      rw [Int.mul_zero]
      have d := sumN_lin 1 1 (fun t => gd (X.map fun i => if (0 : Int) > i then 0 else i) t) (fun t => gd (X.map fun i => if (0 : Int) > -i then 0 else -i) t) n
      rw [Int.one_mul, Int.one_mul, h, Int.sub_self] at d
      rw [← d]
      refine sumN_congr fun t _ => ?_
      have := gd_pos X t
      rw [indC_out (Nat.le_refl _)]
      omega
    rw [decide_eq_false ne]
    rfl
theorem bvals_small {n : Nat} {cl : List (Nat × Nat)} {fr : Nat} (hm : cl.length ≤ 12) (hf : fst0 ((rst n cl.length (indC cl)).take n) = some fr) : ∀ t, (gd (bvals n (pvs n (cl.length + 1) (indC cl) cl.length) fr) t).natAbs < 2 ^ 700 := fun t => by
  obtain ⟨J, F⟩ := rsF (n := n) (m := cl.length) (indC_le cl) hm
  have := F.vals_bound hm hf t
  have b : (13 * BN) ^ 13 < 2 ^ 700 := by decide +kernel
  exact Nat.lt_of_le_of_lt this b
theorem szb_vals {n : Nat} {X : List Int} (hn : X.length = n) (f : Int → Int) (hf : ∀ i, (f i).natAbs ≤ i.natAbs) (h : ∀ t, (gd X t).natAbs < 2 ^ 700) : Szb 1 n (.tuple (X.map fun i => .int (f i))) := by
  have := szb_tup (e := 0) (w := 0) (ds := X.map fun i => PyData.int (f i)) fun d hd => by
    obtain ⟨i, hi, rfl⟩ := List.mem_map.mp hd
    obtain ⟨t, _, rfl⟩ := mem_gd hi
    exact szb_int (k := 700) (Nat.lt_of_le_of_lt (hf _) (h t)) (by decide) (by decide)
  rwa [List.length_map, hn, Nat.mul_one] at this
theorem szb_bl {n : Nat} {X : List Int} (hn : X.length = n) (h : ∀ t, (gd X t).natAbs < 2 ^ 700) : Szb 2 (2 * (n + 1)) (blD X) := by
  refine szb_tup (e := 1) (w := n) (ds := [_, _]) fun d hd => ?_
  rcases List.mem_cons.mp hd with rfl | hd
  · exact szb_vals hn _ (fun i => by split <;> omega) h
  · rw [List.mem_singleton.mp hd]
    exact szb_vals hn _ (fun i => by split <;> omega) h
theorem bvals_len {n : Nat} {qs : List (Nat × List Int)} {fr : Nat} : (bvals n qs fr).length = n := by
  unfold bvals
  rw [bvl_len, List.length_set, List.length_replicate]
end Ev

/-! ## is_values, shows_blind -/
namespace Ev
open PySem PySem.Spec PyProof.Rows L2 Pm
def spVl (K : PySem.W.Frag) : Sp := fun vs H Q _ => ∃ (n : Nat) (v : V) (d : PyData), vs = [.int (n : Nat), v] ∧ n ≤ 1000 ∧ Da K H v d ∧ ∀ H', Same H H' → Q (.bl (isVals n d)) H'
def spSbP (K : PySem.W.Frag) : Sp := fun vs H Q _ => ∃ (n : Nat) (x v : V) (S : List (Nat × Nat)) (d : PyData), vs = [.int (n : Nat), x, v] ∧ 1 ≤ n ∧ n ≤ 48 ∧ S.length ≤ 12 ∧ Da K H x (.tuple (S.map cDq)) ∧ Da K H v d ∧ ∀ H', Same H H' → Q (.bl (isBl n (clsOf n S) d)) H'
theorem scVl : FnScope ["length", "value", "one"] ["length", "value"] (defScope (topS 12)) := ⟨rfl, rfl, rfl, by decide +kernel, rfl, by decide +kernel, by decide +kernel⟩
theorem scSbP : FnScope ["length", "samplers", "value", "one", "other", "modulus", "place"] ["length", "samplers", "value"] (defScope (topS 8)) := ⟨rfl, rfl, rfl, by decide +kernel, rfl, by decide +kernel, by decide +kernel⟩
section
variable {P : Program} {w : World} {K : PySem.W.Frag} {mg : Str → Option Value} {base : Heap}
theorem ok_vl (D : Def K mg "is_values" (topS 12) ["length", "value"]) (C_is_whole : Cal P w K mg base 1 "is_whole" ["value"] (spWhQ K)) (nb : NB mg) : Cal P w K mg base 2 "is_values" ["length", "value"] (spVl K) := by
  refine D.ok scVl (fun vs H Q E h => ?_) (fun fa cdv A outer sh H vs Q E hr gd h => ?_)
  · obtain ⟨n, v, d, rfl, _⟩ := h
    rfl
  · obtain ⟨n, v, d, rfl, hn, hd, q⟩ := h
    refine ⟨_, (pss_cons (ps_if (PW.pt (pw_or (pt_not (pt_val (pe_isT (.inr (.inr (.inl rfl))) nb.at (fun _ => pv 1) (fun _ => ty_of rfl nb.at (by decide +kernel))))) (pw_or1 (pt_cmpR op_ne (pe_callB call_len_seq (by rfl) nb.at PySem.boot_len (pa_cons (pv 1) pa_nil)) (pv 0) (nomark _)))))
        (pss_one (ps_ret pe_bl))
        pss_nil)
      (pss_one (ps_ret (pe_callB (cr_all rfl) (by rfl) nb.at (by decide +kernel) (pa_cons (pe_lc (own := [("one", 2)]) (g := (gName 2)) (tt := tYes) (te := (tAndV (tCall (spWhQ K) [] E0 (tCons (tVar 2) tNil)) (tOp (rI0 fun i j => .bl (decide (j ≤ i))) (tVar 2) (tC (.int 0))))) rfl scVl.nd (pi_tup (pv 1)) (blkOk_by (N := ["length", "value", "one"]) (sc := defScope (topS 12)) (by decide +kernel)) (fun _ _ _ _ _ => (pg_name (i := 2) scVl.nd rfl (Or.inl rfl))) (fun _ _ _ _ _ => pts_nil) (fun _ _ _ _ _ => (pe_and (pcall C_is_whole (hr.mono (by omega)) gd (by rfl) (pa_cons (pv 2) pa_nil)) (pe_one (pe_cmpR op_ge (pv 2) pe_int (nomark _)))))) pa_nil))))), ?_⟩
    have sl := sizeLine_eq
    by_cases hT : ∃ ds, d = .tuple ds
    · obtain ⟨es, rfl⟩ := hT
      obtain ⟨c, zs, rfl, hc, hcall⟩ : ∃ a xs, v = .ref a ∧ SqT K H a xs ∧ DaAll K H xs es := by
        cases hd with
        | @tup a xs _ ht hall => exact ⟨a, xs, rfl, ht, hall⟩
      have hzl := daAll_len hcall
      by_cases hen : es.length = n
      · refine ⟨_, _, rfl, hd, true, by rw [isD_tuple], iteF ⟨_, rfl, c, _, rfl, .inr hc, _, rfl, rfl, false, by rw [hzl, hen, decide_eq_true rfl]; rfl, iteF ?_⟩⟩
        dsimp only [tNext, tSeq, tRet, tCB, tCons]
        refine lcI_tup (a := c) (xs := zs) (ys := es.map fun d => .bl (isNat d)) (by rw [List.length_map, hzl]) (fun Q hq => ⟨_, rfl, hq⟩) hc (by omega) (fun k x y hx hy H' R s' hR => ?_) (fun H2 D s2 nD eD => ?_)
        · obtain ⟨d, hd1, hd2⟩ := daAll_at (hcall.mono s') hx
          rw [List.getElem?_map, hd1] at hy
          cases hy
          refine ⟨rfl, _, rfl, x, d, rfl, hd2, _, rfl, ?_⟩
          by_cases hi : ∃ u, d = .int u
          · obtain ⟨u, rfl⟩ := hi
            cases hd2
            exact iteT ⟨_, rfl, _, _, rfl, rfl, hR _ Same.rfl'⟩
          · have z1 : intB d = false := by
              cases d <;> first | rfl | exact absurd ⟨_, rfl⟩ hi
            have z2 : isNat d = false := by
              cases d <;> first | rfl | exact absurd ⟨_, rfl⟩ hi
            have hR : ∀ (H'' : Hp), Same H' H'' → R (.bl (isNat d)) H'' := hR
            rw [z2] at hR
            rw [z1]
            exact iteF (hR _ Same.rfl')
        · refine ⟨D, es.map isNat, rfl, .inl (.inl (by rw [eD, List.map_map]; rfl)), ?_⟩
          rw [List.all_map]
          have hv' : isVals n (.tuple es) = es.all isNat := by
            show (decide (es.length = n) && es.all isNat) = _
            rw [decide_eq_true hen, Bool.true_and]
          rw [hv'] at q
          exact q H2 s2
      · have z : isVals n (.tuple es) = false := by
          show (decide (es.length = n) && es.all isNat) = false
          rw [decide_eq_false hen, Bool.false_and]
        rw [z] at q
        exact ⟨_, _, rfl, hd, true, by rw [isD_tuple], iteF ⟨_, rfl, c, _, rfl, .inr hc, _, rfl, rfl, true, by rw [hzl, decide_eq_false fun h => hen (by have := V.int.inj h; omega)]; rfl, iteT (q H Same.rfl')⟩⟩
    · have z : isVals n d = false := by
        cases d <;> first | rfl | exact absurd ⟨_, rfl⟩ hT
      rw [z] at q
      have zt : isD "tuple" d = false := by
        rw [isD_tuple]
        cases d <;> first | rfl | exact absurd ⟨_, rfl⟩ hT
      refine ⟨_, _, rfl, hd, false, by rw [zt], iteT (iteT (q H Same.rfl'))⟩
theorem ticks_dv {m k c : Nat} (hc : c < m) (hk : 0 < k) : ticksC (m * k) (m, c) = (List.range k).map fun i => c + i * m := by
  unfold ticksC
  have e : (m * k - c + m - 1) / m = k := by
    have : m * k = m * (k - 1) + m := by
      obtain ⟨j, rfl⟩ : ∃ j, k = j + 1 := ⟨k - 1, by omega⟩
      rw [Nat.mul_succ]
      rfl
    rw [show m * k - c + m - 1 = m * (k - 1) + (m + (m - 1 - c)) by omega, div_at (k := 1) (by omega) (by omega) (by omega)]
    omega
  show (List.range ((m * k - c + m - 1) / m)).map _ = _
  rw [e]
theorem step_vals {X : List Int} {m k c : Nat} (hc : c < m) (hk : 0 < k) (hl : X.length = m * k) : stepX (X.map V.int) (some (c : Nat)) none (m : Nat) = ((ticksC (m * k) (m, c)).map fun t => Pm.gd X t).map V.int := by
  rw [step_class (by omega) hc (by rw [List.length_map]; exact hl), ticks_dv hc hk, List.map_map, List.map_map]
  have go : ∀ l : List Nat, (∀ j ∈ l, j < k) → (l.filterMap fun j => (X.map V.int)[c + j * m]?) = l.map (V.int ∘ (fun t => Pm.gd X t) ∘ fun i => c + i * m) := fun l => by
    induction l with
    | nil => intro _; rfl
    | cons j l ih =>
      intro h
      have hj := h j (List.mem_cons_self ..)
      have lt : c + j * m < X.length := by
        have : (j + 1) * m ≤ k * m := Nat.mul_le_mul_right _ hj
        rw [hl, Nat.mul_comm m k]
        rw [Nat.succ_mul] at this
        omega
      rw [List.filterMap_cons, at_map_int lt, List.map_cons, ih fun i hi => h i (List.mem_cons_of_mem _ hi)]
      rfl
  exact go _ fun j hj => List.mem_range.mp hj
theorem sum_ones {X : List Int} {n : Nat} (hl : X.length = n) : sumC n (1, 0) X = X.sum := by
  rw [sumC_sum (by decide), ← sumN_all X n hl.symm]
  refine sumN_congr fun t _ => ?_
  rw [if_pos (Nat.mod_one t)]
theorem stw_sum {σ : L2.St} {H : Hp} {Q : VK} {i j l n m a : Nat} {c : Addr} {X : List Int} (hi : σ[i]? = some (some (.ref c))) (hj : σ[j]? = some (some (.int (a : Nat)))) (hl : σ[l]? = some (some (.int (m : Nat)))) (hc : SqT K H c (X.map V.int)) (hX : X.length = n) (hm : a < m) (hd : m ∣ n) (hn : 1 ≤ n) (hz : n ≤ 1000)
    (q : ∀ H', Same H H' → Q (.int (sumC n (m, a) X)) H') : tCB (rSumT K) (tCons (tStW K (tVar i) (tPart (tVar j)) tNoPart (tPart (tVar l))) tNil) σ H Q := by
  have sl := sizeLine_eq
  refine ⟨_, hi, _, hj, _, rfl, ?_⟩
  dsimp only [tNoPart]
  refine ⟨_, hl, _, rfl, c, _, (m : Nat), rfl, hc, rfl, ?_⟩
  obtain ⟨k, rfl⟩ := hd
  have hk : 0 < k := Nat.pos_of_ne_zero fun z => by rw [z, Nat.mul_zero] at hn; omega
  by_cases h1 : m = 1
  · subst h1
    obtain rfl : a = 0 := by omega
    refine .inr ⟨rfl, ?_, c, X, rfl, hc, ?_⟩
    · exact whole_one _
    · have := q H Same.rfl'
      rw [sum_ones hX] at this
      exact this
  · refine .inl ⟨by omega, by omega, ?_, fun p np => ?_⟩
    · rw [step_vals hm hk hX, ticks_dv hm hk, List.length_map, List.length_map, List.length_map, List.length_range]
      have : 1 * k ≤ m * k := Nat.mul_le_mul_right _ (by omega)
      omega
    · rw [step_vals hm hk hX]
      exact ⟨p, _, rfl, .inl (.inl upd_same), q _ (same_put np)⟩
theorem clsOf_dvd {n : Nat} {S : List (Nat × Nat)} : ∀ e ∈ clsOf n S, e.1 ∣ n := fun e he => by
  obtain ⟨s, _, rfl⟩ := List.mem_map.mp he
  exact Nat.gcd_dvd_right ..
theorem ok_sbP (D : Def K mg "shows_blind" (topS 8) ["length", "samplers", "value"]) (C_is_values : Cal P w K mg base 2 "is_values" ["length", "value"] (spVl K)) (C_classes_of : Cal P w K mg base 2 "classes_of" ["length", "samplers"] (spCo K)) (nb : NB mg) : Cal P w K mg base 3 "shows_blind" ["length", "samplers", "value"] (spSbP K) := by
  refine D.ok scSbP (fun vs H Q E h => ?_) (fun fa cdv A outer sh H vs Q E hr gd h => ?_)
  · obtain ⟨n, x, v, S, d, rfl, _⟩ := h
    rfl
  · obtain ⟨n, x, v, S, d, rfl, hn, hn48, hS, hx, hv, q⟩ := h
    refine ⟨_, (pss_cons (ps_if (PW.pt (pw_or (pt_not (pt_val (pe_isT (.inr (.inr (.inl rfl))) nb.at (fun _ => pv 2) (fun _ => ty_of rfl nb.at (by decide +kernel))))) (pw_or1 (pt_cmpR op_ne (pe_callB call_len_seq (by rfl) nb.at PySem.boot_len (pa_cons (pv 2) pa_nil)) pe_int (nomark _)))))
        (pss_one (ps_ret pe_bl))
        pss_nil)
      (pss_cons (ps_asg (pv 2) (pg_tup rfl (pgs_cons (pg_name (i := 3) scSbP.nd rfl (.inr rfl)) (pgs_cons (pg_name (i := 4) scSbP.nd rfl (.inr rfl)) pgs_nil))))
      (pss_cons (ps_if (PW.pt (pw_or (pt_not (pt_val (pcall C_is_values (hr.mono (by omega)) gd (by rfl) (pa_cons (pv 0) (pa_cons (pv 3) pa_nil))))) (pw_or (pt_not (pt_val (pcall C_is_values (hr.mono (by omega)) gd (by rfl) (pa_cons (pv 0) (pa_cons (pv 4) pa_nil))))) (pw_or1 (pt_cmpR op_eq (pe_callB (cr_sumT rfl) (by rfl) nb.at (by decide +kernel) (pa_cons (pv 3) pa_nil)) (pe_callB (cr_sumT rfl) (by rfl) nb.at (by decide +kernel) (pa_cons (pv 4) pa_nil)) (nomark _))))))
        (pss_one (ps_ret pe_bl))
        pss_nil)
      (pss_one (ps_ret (pe_callB (cr_all rfl) (by rfl) nb.at (by decide +kernel) (pa_cons (pe_lc (own := [("modulus", 5), ("place", 6)]) (g := (gTup K 2 (gCons (gName 5) (gCons (gName 6) gNil)))) (tt := tYes) (te := (tOp rEq (tCB (rSumT K) (tCons (tStW K (tVar 3) (tPart (tVar 6)) tNoPart (tPart (tVar 5))) tNil)) (tCB (rSumT K) (tCons (tStW K (tVar 4) (tPart (tVar 6)) tNoPart (tPart (tVar 5))) tNil)))) rfl scSbP.nd (pi_list (pcall C_classes_of (hr.mono (by omega)) gd (by rfl) (pa_cons (pv 0) (pa_cons (pv 1) pa_nil)))) (blkOk_by (N := ["length", "samplers", "value", "one", "other", "modulus", "place"]) (sc := defScope (topS 8)) (by decide +kernel)) (fun _ _ _ _ _ => (pg_tup rfl (pgs_cons (pg_name (i := 5) scSbP.nd rfl (Or.inl rfl)) (pgs_cons (pg_name (i := 6) scSbP.nd rfl (Or.inl rfl)) pgs_nil)))) (fun _ _ _ _ _ => pts_nil) (fun _ _ _ _ _ => (pe_cmpR op_eq (pe_callB (cr_sumT rfl) (by rfl) nb.at (by decide +kernel) (pa_cons (pe_stepW (pv 3) (po_some (pv 6)) po_none (po_some (pv 5))) pa_nil)) (pe_callB (cr_sumT rfl) (by rfl) nb.at (by decide +kernel) (pa_cons (pe_stepW (pv 4) (po_some (pv 6)) po_none (po_some (pv 5))) pa_nil)) (nomark _)))) pa_nil))))))), ?_⟩
    have sl := sizeLine_eq
    by_cases hT : ∃ ds, d = .tuple ds
    · obtain ⟨ds, rfl⟩ := hT
      obtain ⟨a, xs, rfl, ht, hall⟩ : ∃ a xs, v = .ref a ∧ SqT K H a xs ∧ DaAll K H xs ds := by
        cases hv with
        | @tup a xs _ ht hall => exact ⟨a, xs, rfl, ht, hall⟩
      have hxl := daAll_len hall
      by_cases h2 : ds.length = 2
      · obtain ⟨p, r, rfl⟩ : ∃ p r, ds = [p, r] := by
          match ds, h2 with
          | [p, r], _ => exact ⟨p, r, rfl⟩
        obtain ⟨x1, x2, rfl⟩ : ∃ p r, xs = [p, r] := by
          match xs, hxl with
          | [p, r], _ => exact ⟨p, r, rfl⟩
        cases hall with
        | cons q1 q2 =>
        cases q2 with
        | cons q2 q3 =>
        cases q3
        have hbl : isBl n (clsOf n S) (.tuple [p, r]) = (isVals n p && (isVals n r && ((clsOf n S).all (fun e => decide (sumC n e (valsOf p) = sumC n e (valsOf r))) && !decide ((valsOf p).sum = (valsOf r).sum)))) := rfl
        rw [hbl] at q
        refine ⟨_, _, rfl, hv, true, by rw [isD_tuple], iteF ⟨_, rfl, a, _, rfl, .inr ht, rfl, false, by rw [show (([x1, x2].length : Nat) : Int) = 2 from rfl, decide_eq_true rfl]; rfl, iteF ?_⟩⟩
        refine ⟨_, rfl, a, _, rfl, ht, rfl, _, _, rfl, _, _, rfl, rfl, _, rfl, _, rfl, n, x1, p, rfl, by omega, q1, fun H1 s1 => ⟨_, rfl, ?_⟩⟩
        by_cases hp : isVals n p = true
        · rw [hp] at q ⊢
          refine iteF ⟨_, rfl, _, rfl, n, x2, r, rfl, by omega, q2.mono s1, fun H2 s2 => ⟨_, rfl, ?_⟩⟩
          by_cases hr2 : isVals n r = true
          · rw [hr2] at q ⊢
            obtain ⟨X1, rfl, v1, l1⟩ := isVals_is hp
            obtain ⟨X2, rfl, v2, l2⟩ := isVals_is hr2
            rw [v1, v2, Bool.true_and, Bool.true_and] at q
            have s12 := s1.trans s2
            obtain ⟨c1, rfl, hc1⟩ := da_vals (q1.mono s12)
            obtain ⟨c2, rfl, hc2⟩ := da_vals (q2.mono s12)
            refine iteF ⟨_, rfl, c1, X1, rfl, hc1, _, rfl, c2, X2, rfl, hc2, rfl, _, rfl, ?_⟩
            have e : decide (V.int X1.sum = V.int X2.sum) = decide (X1.sum = X2.sum) := decide_eq_decide.mpr ⟨fun h => V.int.inj h, fun h => by rw [h]⟩
            rw [e]
            by_cases hs : X1.sum = X2.sum
            · rw [decide_eq_true hs] at q ⊢
              have := q H2 s12
              rw [Bool.not_true, Bool.and_false] at this
              exact iteT this
            · rw [decide_eq_false hs] at q ⊢
              rw [Bool.not_false, Bool.and_true] at q
              have hcp := clsOf_pos (S := S) hn
              have hdv := clsOf_dvd (n := n) (S := S)
              refine iteF ?_
              dsimp only [tNext, tRet, tCB, tCons]
              refine lc_lthen ⟨_, rfl, _, rfl, n, x, S, rfl, hn, by omega, hx.mono s12, fun H3 cc s3 ⟨us, hus, hud⟩ => ?_⟩
              have hcl : (clsOf n S).length = S.length := clsOf_len
              have hul := daAll_len hud
              rw [List.length_map] at hul
              generalize clsOf n S = cl at q hcp hdv hud hul hcl
              have s13 := s12.trans s3
              refine lcI_list (a := cc) (xs := us) (ys := cl.map fun e => .bl (decide (sumC n e X1 = sumC n e X2))) (by rw [List.length_map, hul]) (fun Q hq => hq) hus (by omega) (fun k z y hz hy H' R s' hR => ?_) (fun H4 D4 s4 nD4 eD4 => ?_)
              · obtain ⟨d, hd1, hvd⟩ := daAll_at (hud.mono s') hz
                have hk : k < cl.length := by
                  have := (List.getElem?_eq_some_iff.mp hz).1
                  omega
                rw [List.getElem?_map, List.getElem?_eq_getElem hk] at hd1
                cases hd1
                rw [List.getElem?_map, List.getElem?_eq_getElem hk] at hy
                cases hy
                obtain ⟨b, rfl, hb⟩ := da_cDq hvd
                obtain ⟨g0, glt, gle⟩ := hcp _ (List.getElem_mem hk)
                have gd1 := hdv _ (List.getElem_mem hk)
                have hc1' := seqT_mono (s3.trans s') hc1
                have hc2' := seqT_mono (s3.trans s') hc2
                refine ⟨b, _, rfl, hb, rfl, _, _, rfl, _, _, rfl, rfl, rfl, ?_⟩
                refine stw_sum (i := 3) (j := 6) (l := 5) rfl rfl rfl hc1' l1 glt gd1 hn (by omega) fun H5 s5 => ?_
                refine stw_sum (i := 4) (j := 6) (l := 5) rfl rfl rfl (seqT_mono s5 hc2') l2 glt gd1 hn (by omega) fun H6 s6 => ⟨rfl, ?_⟩
                have e : decide (V.int (sumC n (cl[k].1, cl[k].2) X1) = V.int (sumC n (cl[k].1, cl[k].2) X2)) = decide (sumC n cl[k] X1 = sumC n cl[k] X2) := decide_eq_decide.mpr ⟨fun h => V.int.inj h, fun h => congrArg V.int h⟩
                rw [e]
                exact hR _ (s5.trans s6)
              · refine ⟨D4, cl.map fun e => decide (sumC n e X1 = sumC n e X2), rfl, .inl (.inl (by rw [eD4, List.map_map]; rfl)), ?_⟩
                rw [List.all_map]
                exact q H4 (s13.trans s4)
          · rw [Bool.eq_false_iff.mpr hr2] at q ⊢
            have := q H2 (s1.trans s2)
            rw [Bool.false_and, Bool.and_false] at this
            exact iteT (iteT this)
        · rw [Bool.eq_false_iff.mpr hp] at q ⊢
          have := q H1 s1
          rw [Bool.false_and] at this
          exact iteT (iteT this)
      · have z : isBl n (clsOf n S) (.tuple ds) = false := by
          unfold isBl
          split
          · rename_i h
            cases h
            exact absurd rfl h2
          · rfl
        rw [z] at q
        refine ⟨_, _, rfl, hv, true, by rw [isD_tuple], iteF ⟨_, rfl, a, xs, rfl, .inr ht, rfl, true, by rw [decide_eq_false fun h => h2 (by have := V.int.inj h; omega)]; rfl, iteT (q H Same.rfl')⟩⟩
    · have z : isBl n (clsOf n S) d = false := by
        cases d <;> first | rfl | exact absurd ⟨_, rfl⟩ hT
      rw [z] at q
      have zt : isD "tuple" d = false := by
        rw [isD_tuple]
        cases d <;> first | rfl | exact absurd ⟨_, rfl⟩ hT
      refine ⟨_, _, rfl, hv, false, by rw [zt], iteT (iteT (q H Same.rfl'))⟩
end
end Ev

/-! ## Weights or a blind pair, never both -/
namespace Ev
open PySem PySem.Spec PyProof.Rows L2 Pm
/-- whole weights: sums of classes that count each tick alike -/
def Wex (n : Nat) (cl : List (Nat × Nat)) : Prop := ∃ (P : Int) (c : Nat → Int), 0 < P ∧ ∀ t, t < n → Pm.sumN cl.length (fun j => c j * (indC cl j t : Int)) = P
theorem wex_dot {n : Nat} {cl : List (Nat × Nat)} {P : Int} {c : Nat → Int} (h : ∀ t, t < n → Pm.sumN cl.length (fun j => c j * (indC cl j t : Int)) = P) (x : Nat → Int) : P * Pm.sumN n x = Pm.sumN cl.length fun j => c j * Pm.sumN n fun t => (indC cl j t : Int) * x t := by
  rw [← sumN_mul]
  have e : ∀ t, t < n → P * x t = Pm.sumN cl.length fun j => c j * ((indC cl j t : Int) * x t) := fun t ht => by
    rw [← h t ht, Int.mul_comm, ← sumN_mul]
    exact sumN_congr fun j _ => by grind
  rw [sumN_congr e, sumN_swap]
  exact sumN_congr fun j _ => sumN_mul ..
theorem wex_none {n : Nat} {cl : List (Nat × Nat)} (hm : cl.length ≤ 12) (h : Wex n cl) : fst0 ((rst n cl.length (indC cl)).take n) = none := by
  obtain ⟨P, c, hP, h⟩ := h
  cases hf : fst0 ((rst n cl.length (indC cl)).take n) with
  | none => rfl
  | some fr =>
    obtain ⟨J, F⟩ := rsF (n := n) (m := cl.length) (indC_le cl) hm
    obtain ⟨b1, b2, b3⟩ := F.blind hf
    refine absurd ?_ b3
    have e := wex_dot h fun t => gd (bvals n (pvs n (cl.length + 1) (indC cl) cl.length) fr) t
    have z0 : (Pm.sumN cl.length fun j => c j * Pm.sumN n fun t => (indC cl j t : Int) * gd (bvals n (pvs n (cl.length + 1) (indC cl) cl.length) fr) t) = 0 := sumN_zero fun j hj => by rw [b2 j hj, Int.mul_zero]
    rw [z0] at e
    have z := (Int.mul_eq_zero.mp e).resolve_left (by omega)
    refine ⟨0, ?_⟩
    rw [Int.mul_zero, ← z]
    exact sumN_congr fun t _ => by rw [indC_out (Nat.le_refl _)]; exact Int.one_mul _
theorem none_wex {n : Nat} {cl : List (Nat × Nat)} (hm : cl.length ≤ 12) (hf : fst0 ((rst n cl.length (indC cl)).take n) = none) : Wex n cl := by
  obtain ⟨J, F⟩ := rsF (n := n) (m := cl.length) (indC_le cl) hm
  refine ⟨_, fun j => -(gd (rst n cl.length (indC cl)) (n + j)), F.C.pos, fun t ht => ?_⟩
  have so := F.once hf t ht
  rw [indC_out (Nat.le_refl _)] at so
  have e := sumN_mul (-1) (fun j => gd (rst n cl.length (indC cl)) (n + j) * (indC cl j t : Int)) cl.length
  rw [so] at e
  rw [show gd (rst n cl.length (indC cl)) (n + cl.length) = -1 * -(gd (rst n cl.length (indC cl)) (n + cl.length) * ((1 : Nat) : Int)) by omega, ← e]
  exact sumN_congr fun j _ => by grind
theorem sumC_ind {n : Nat} {cl : List (Nat × Nat)} {j : Nat} (hj : j < cl.length) (h : cl[j].2 < cl[j].1) (x : List Int) : sumC n cl[j] x = Pm.sumN n fun t => (indC cl j t : Int) * gd x t := by
  rw [sumC_sum h]
  refine sumN_congr fun t _ => ?_
  rw [indC_at hj]
  split
  · exact (Int.one_mul _).symm
  · exact (Int.zero_mul _).symm
theorem wex_noBl {n : Nat} {cl : List (Nat × Nat)} (hp : ∀ e ∈ cl, 0 < e.1 ∧ e.2 < e.1 ∧ e.1 ≤ n) (h : Wex n cl) (d : PyData) : isBl n cl d = false := by
  obtain ⟨P, c, hP, h⟩ := h
  refine Bool.eq_false_iff.mpr fun hb => ?_
  unfold isBl at hb
  split at hb
  · rename_i p r
    rw [Bool.and_eq_true, Bool.and_eq_true, Bool.and_eq_true, List.all_eq_true] at hb
    obtain ⟨h1, h2, h3, h4⟩ := hb
    obtain ⟨X1, _, v1, l1⟩ := isVals_is h1
    obtain ⟨X2, _, v2, l2⟩ := isVals_is h2
    rw [v1, v2] at h3 h4
    have e1 := wex_dot h fun t => gd X1 t
    have e2 := wex_dot h fun t => gd X2 t
    have e : (Pm.sumN cl.length fun j => c j * Pm.sumN n fun t => (indC cl j t : Int) * gd X1 t) = Pm.sumN cl.length fun j => c j * Pm.sumN n fun t => (indC cl j t : Int) * gd X2 t := sumN_congr fun j hj => by
      have hm := List.getElem_mem hj
      have := of_decide_eq_true (h3 _ hm)
      rw [sumC_ind hj (hp _ hm).2.1, sumC_ind hj (hp _ hm).2.1] at this
      rw [this]
    rw [e, ← e2, sumN_all X1 n l1.symm, sumN_all X2 n l2.symm] at e1
    have := Int.eq_of_mul_eq_mul_left (show P ≠ 0 by omega) e1
    rw [decide_eq_true this] at h4
    cases h4
  · cases hb
theorem sumN_first (f : Nat → Int) : ∀ k : Nat, Pm.sumN (k + 1) f = f 0 + Pm.sumN k fun i => f (i + 1)
  | 0 => by rw [Pm.sumN, Pm.sumN, Pm.sumN]; omega
  | k + 1 => by
    rw [Pm.sumN, sumN_first f k, Pm.sumN]
    omega
theorem wex_snoc {n : Nat} {cl : List (Nat × Nat)} {e : Nat × Nat} (h : Wex n cl) : Wex n (cl ++ [e]) := by
  obtain ⟨P, c, hP, h⟩ := h
  refine ⟨P, fun j => if j < cl.length then c j else 0, hP, fun t ht => ?_⟩
  rw [List.length_append, List.length_singleton, Pm.sumN]
  dsimp only
  rw [if_neg (Nat.lt_irrefl _), Int.zero_mul, Int.add_zero, ← h t ht]
  refine sumN_congr fun j hj => ?_
  rw [if_pos hj]
  congr 2
  unfold indC
  rw [List.getElem?_append_left hj]
theorem wex_cons {n : Nat} {cl : List (Nat × Nat)} {e : Nat × Nat} (h : Wex n cl) : Wex n (e :: cl) := by
  obtain ⟨P, c, hP, h⟩ := h
  refine ⟨P, fun j => match j with | 0 => 0 | j + 1 => c j, hP, fun t ht => ?_⟩
  rw [List.length_cons, sumN_first]
  show 0 * _ + _ = _
  rw [Int.zero_mul, Int.zero_add, ← h t ht]
  rfl
/-- the product of the lower numbers -/
def prD : List (Int × Int) → Int
  | [] => 1
  | e :: l => e.2 * prD l
theorem prD_pos : ∀ {l : List (Int × Int)}, (∀ e ∈ l, 0 < e.2) → 0 < prD l
  | [], _ => by decide
  | e :: l, h => Int.mul_pos (h e (List.mem_cons_self ..)) (prD_pos fun x hx => h x (List.mem_cons_of_mem _ hx))
theorem prD_dvd : ∀ {l : List (Int × Int)} {e : Int × Int}, e ∈ l → e.2 ∣ prD l
  | x :: l, e, h => by
    rcases List.mem_cons.mp h with rfl | h
    · exact Int.dvd_mul_right ..
    · exact Int.dvd_trans (prD_dvd h) (Int.dvd_mul_left ..)
/-- what weights come to -/
theorem wt_ex {n : Nat} {cl : List (Nat × Nat)} {ds : List PyData} (h : isWt n cl (.tuple ds) = true) : ∃ (P : Int) (c : Nat → Int), 0 < P ∧ (∀ t, t < n → Pm.sumN cl.length (fun j => c j * (indC cl j t : Int)) = P) ∧ ∀ (j : Nat) e f, cl[j]? = some e → (ds.map toFr)[j]? = some f → c j * f.2 = f.1 * (e.1 : Nat) * P := by
  have h : (decide (ds.length = cl.length) && (ds.all isFr && (List.range n).all (onceW cl (ds.map toFr)))) = true := h
  rw [Bool.and_eq_true, Bool.and_eq_true, decide_eq_true_eq, List.all_eq_true, List.all_eq_true] at h
  obtain ⟨h1, h2, h3⟩ := h
  have fp : ∀ f ∈ ds.map toFr, 0 < f.2 := fun f hf => by
    obtain ⟨d, hd, rfl⟩ := List.mem_map.mp hf
    obtain ⟨e, _, e2, e3, _⟩ := isFr_is (h2 d hd)
    rw [e2]
    exact e3
  have fl : (ds.map toFr).length = cl.length := by rw [List.length_map, h1]
  generalize ds.map toFr = fs at h3 fp fl
  have hP := prD_pos fp
  have rel : ∀ (j : Nat) e f, cl[j]? = some e → fs[j]? = some f → (f.1 * (e.1 : Nat) * (prD fs / f.2)) * f.2 = f.1 * (e.1 : Nat) * prD fs := fun j e f _ hf => by
    rw [Int.mul_assoc, Int.ediv_mul_cancel (prD_dvd (List.mem_of_getElem? hf))]
  refine ⟨prD fs, fun j => (fs.getD j (0, 1)).1 * ((cl.getD j (1, 0)).1 : Nat) * (prD fs / (fs.getD j (0, 1)).2), hP, fun t ht => ?_, fun j e f he hf => ?_⟩
  · have hzl : (cl.zip fs).length = cl.length := by rw [List.length_zip, fl, Nat.min_self]
    have key : ∀ k, k ≤ cl.length → (accW t ((cl.zip fs).take k) (0, 1)).1 * prD fs = (accW t ((cl.zip fs).take k) (0, 1)).2 * Pm.sumN k (fun j => ((fs.getD j (0, 1)).1 * ((cl.getD j (1, 0)).1 : Nat) * (prD fs / (fs.getD j (0, 1)).2)) * (indC cl j t : Int)) ∧ 0 < (accW t ((cl.zip fs).take k) (0, 1)).2 := by
      intro k
      induction k with
      | zero => exact fun _ => ⟨by rw [List.take_zero, Pm.sumN]; show (0 : Int) * _ = 1 * 0; omega, by rw [List.take_zero]; show (0 : Int) < 1; decide⟩
      | succ k ih =>
        intro hk
        obtain ⟨i1, i2⟩ := ih (by omega)
        have ez : (cl.zip fs).take (k + 1) = (cl.zip fs).take k ++ [(cl[k], fs[k])] := by rw [List.take_succ_eq_append_getElem (by omega), List.getElem_zip]
        have g1 : fs.getD k (0, 1) = fs[k] := by rw [List.getD_eq_getElem?_getD, List.getElem?_eq_getElem (by omega)]; rfl
        have g2 : cl.getD k (1, 0) = cl[k] := by rw [List.getD_eq_getElem?_getD, List.getElem?_eq_getElem (by omega)]; rfl
        have r := rel k cl[k] fs[k] (List.getElem?_eq_getElem (by omega)) (List.getElem?_eq_getElem (by omega))
        have p := fp _ (List.getElem_mem (show k < fs.length by omega))
        rw [ez, accW_app, Pm.sumN, indC_at (show k < cl.length by omega), g1, g2]
        generalize accW t ((cl.zip fs).take k) (0, 1) = AB at i1 i2
        generalize Pm.sumN k _ = s at i1
        generalize fs[k].1 * ((cl[k].1 : Nat) : Int) * (prD fs / fs[k].2) = c at r
        by_cases z : t % cl[k].1 = cl[k].2
        · rw [if_pos z, if_pos z]
          refine ⟨?_, Int.mul_pos i2 p⟩
          show (AB.1 * fs[k].2 + fs[k].1 * (cl[k].1 : Int) * AB.2) * _ = AB.2 * fs[k].2 * (s + c * ((1 : Nat) : Int))
          grind
        · rw [if_neg z, if_neg z]
          refine ⟨?_, i2⟩
          rw [i1]
          show AB.2 * s = AB.2 * (s + c * ((0 : Nat) : Int))
          grind
    obtain ⟨k1, k2⟩ := key cl.length (Nat.le_refl _)
    rw [List.take_of_length_le (by omega)] at k1 k2
    have on := of_decide_eq_true (h3 t (List.mem_range.mpr ht))
    rw [on] at k1
    exact (Int.eq_of_mul_eq_mul_left (by omega) k1).symm
  · have g1 : fs.getD j (0, 1) = f := by rw [List.getD_eq_getElem?_getD, hf]; rfl
    have g2 : cl.getD j (1, 0) = e := by rw [List.getD_eq_getElem?_getD, he]; rfl
    show ((fs.getD j (0, 1)).1 * ((cl.getD j (1, 0)).1 : Nat) * (prD fs / (fs.getD j (0, 1)).2)) * f.2 = _
    rw [g1, g2]
    exact rel j e f he hf
theorem wt_wex {n : Nat} {cl : List (Nat × Nat)} {d : PyData} (h : isWt n cl d = true) : Wex n cl := by
  cases d with
  | tuple ds =>
    obtain ⟨P, c, hP, h, _⟩ := wt_ex h
    exact ⟨P, c, hP, h⟩
  | _ => cases h
/-- no value is weights where there are none -/
theorem some_noWt {n : Nat} {cl : List (Nat × Nat)} {fr : Nat} (hm : cl.length ≤ 12) (hf : fst0 ((rst n cl.length (indC cl)).take n) = some fr) (d : PyData) : isWt n cl d = false := Bool.eq_false_iff.mpr fun h => by
  rw [wex_none hm (wt_wex h)] at hf
  cases hf
end Ev
namespace Ev
open PySem PySem.Spec PyProof.Rows L2 Pm
theorem sum_abs {B : Nat} : ∀ {l : List Int}, (∀ x ∈ l, x.natAbs ≤ B) → l.sum.natAbs ≤ l.length * B
  | [], _ => Nat.zero_le _
  | x :: l, h => by
    have a := h x (List.mem_cons_self ..)
    have b := sum_abs fun y hy => h y (List.mem_cons_of_mem _ hy)
    have c := Int.natAbs_add_le x l.sum
    rw [List.sum_cons, List.length_cons, Nat.succ_mul]
    omega
theorem ticksC_len {n : Nat} {e : Nat × Nat} (h : e.2 < e.1) (hd : e.1 ∣ n) (hn : 1 ≤ n) : (ticksC n e).length * e.1 = n ∧ (ticksC n e).length ≤ n := by
  obtain ⟨k, rfl⟩ := hd
  have hk : 0 < k := Nat.pos_of_ne_zero fun z => by rw [z, Nat.mul_zero] at hn; omega
  have e1 : (e.1 * k - e.2 + e.1 - 1) / e.1 = k := by
    have : e.1 * k = e.1 * (k - 1) + e.1 := by
      obtain ⟨j, rfl⟩ : ∃ j, k = j + 1 := ⟨k - 1, by omega⟩
      rw [Nat.mul_succ]
      rfl
    rw [show e.1 * k - e.2 + e.1 - 1 = e.1 * (k - 1) + (e.1 + (e.1 - 1 - e.2)) by omega, div_at (k := 1) (by omega) (by omega) (by omega)]
    omega
  unfold ticksC
  rw [List.length_map, List.length_range, e1]
  have : 1 * k ≤ e.1 * k := Nat.mul_le_mul_right _ (by omega)
  exact ⟨Nat.mul_comm .., by omega⟩
theorem sumC_abs {n B : Nat} {e : Nat × Nat} {X : List Int} (h : e.2 < e.1) (hd : e.1 ∣ n) (hn : 1 ≤ n) (hX : ∀ t, (gd X t).natAbs ≤ B) : (sumC n e X).natAbs ≤ n * B := by
  have a := sum_abs (l := (ticksC n e).map fun t => gd X t) (B := B) fun x hx => by
    obtain ⟨t, _, rfl⟩ := List.mem_map.mp hx
    exact hX t
  rw [List.length_map] at a
  exact Nat.le_trans a (Nat.mul_le_mul_right _ (ticksC_len h hd hn).2)
end Ev
namespace Ev
open PySem PySem.Spec PyProof.Rows L2 Pm
theorem mean_bound {A B f1 f2 tt : Int} {mm X : Nat} (hA : A.natAbs < 2 ^ X) (hB : B.natAbs < 2 ^ X) (h1 : f1.natAbs < 2 ^ 60) (h2 : f2.natAbs < 2 ^ 60) (ht : tt.natAbs < 2 ^ 70) (hm : mm < 64) :
    (A * f2 * (mm : Nat) + f1 * tt * B).natAbs < 2 ^ X * (2 ^ 60 * (2 ^ 70 * 2 ^ 70)) ∧ (B * f2 * (mm : Nat)).natAbs < 2 ^ X * (2 ^ 60 * (2 ^ 70 * 2 ^ 70)) := by
  have z1 : (64 : Nat) + 2 ^ 70 < 2 ^ 70 * 2 ^ 70 := by decide +kernel
  have c0 : 0 < (2 : Nat) ^ X := Nat.pow_pos (by decide)
  have c1 : 0 < (2 : Nat) ^ 60 := Nat.pow_pos (by decide)
  generalize (2 : Nat) ^ X = W at hA hB c0
  generalize (2 : Nat) ^ 60 = Y at h1 h2 c1
  generalize (2 : Nat) ^ 70 = Z at ht z1
  have wy : 0 < W * Y := Nat.mul_pos c0 c1
  have big : W * Y * (64 + Z) < W * (Y * (Z * Z)) := by
    rw [← Nat.mul_assoc W Y]
    exact Nat.mul_lt_mul_of_pos_left z1 wy
  rw [Nat.mul_add] at big
  have s := Int.natAbs_add_le (A * f2 * (mm : Nat)) (f1 * tt * B)
  have e1 : (A * f2 * (mm : Nat)).natAbs = A.natAbs * f2.natAbs * mm := by rw [Int.natAbs_mul, Int.natAbs_mul, Int.natAbs_natCast]
  have e2 : (f1 * tt * B).natAbs = f1.natAbs * tt.natAbs * B.natAbs := by rw [Int.natAbs_mul, Int.natAbs_mul]
  have e3 : (B * f2 * (mm : Nat)).natAbs = B.natAbs * f2.natAbs * mm := by rw [Int.natAbs_mul, Int.natAbs_mul, Int.natAbs_natCast]
  have t1 : A.natAbs * f2.natAbs * mm ≤ W * Y * 64 := Nat.mul_le_mul (Nat.mul_le_mul (by omega) (by omega)) (by omega)
  have t2 : f1.natAbs * tt.natAbs * B.natAbs ≤ Y * Z * W := Nat.mul_le_mul (Nat.mul_le_mul (by omega) (by omega)) (by omega)
  have t3 : B.natAbs * f2.natAbs * mm ≤ W * Y * 64 := Nat.mul_le_mul (Nat.mul_le_mul (by omega) (by omega)) (by omega)
  have t4 : Y * Z * W = W * Y * Z := by grind
  rw [e3]
  refine ⟨?_, ?_⟩ <;> omega
end Ev
namespace Ev
open PySem PySem.Spec PyProof.Rows L2 Pm
def pairQ (X1 X2 : List Int) : PyData := .tuple [.tuple (X1.map PyData.int), .tuple (X2.map PyData.int)]
theorem blD_eq (X : List Int) : blD X = pairQ (X.map fun i => if (0 : Int) > i then 0 else i) (X.map fun i => if (0 : Int) > -i then 0 else -i) := by
  unfold blD pairQ
  rw [List.map_map, List.map_map]
  rfl
theorem vals_ints (Z : List Int) : valsOf (.tuple (Z.map PyData.int)) = Z := by
  show (Z.map PyData.int).map toI = Z
  rw [List.map_map]
  exact List.map_id Z
theorem bl_parts {n : Nat} {cl : List (Nat × Nat)} {X1 X2 : List Int} (h : isBl n cl (pairQ X1 X2) = true) : X1.length = n ∧ X2.length = n ∧ (∀ e ∈ cl, sumC n e X1 = sumC n e X2) ∧ ¬ X1.sum = X2.sum := by
  have h : (isVals n (.tuple (X1.map PyData.int)) && (isVals n (.tuple (X2.map PyData.int)) && (cl.all (fun e => decide (sumC n e (valsOf (.tuple (X1.map PyData.int))) = sumC n e (valsOf (.tuple (X2.map PyData.int))))) && !decide ((valsOf (.tuple (X1.map PyData.int))).sum = (valsOf (.tuple (X2.map PyData.int))).sum)))) = true := h
  rw [vals_ints, vals_ints, Bool.and_eq_true, Bool.and_eq_true, Bool.and_eq_true, List.all_eq_true] at h
  obtain ⟨h1, h2, h3, h4⟩ := h
  refine ⟨?_, ?_, fun e he => of_decide_eq_true (h3 e he), fun z => ?_⟩
  · obtain ⟨x, _, v, l⟩ := isVals_is h1
    rw [vals_ints] at v
    rw [v, l]
  · obtain ⟨x, _, v, l⟩ := isVals_is h2
    rw [vals_ints] at v
    rw [v, l]
  · rw [decide_eq_true z] at h4
    cases h4
theorem da_pairQ {K : PySem.W.Frag} {H : Hp} {v : V} {X1 X2 : List Int} (h : Da K H v (pairQ X1 X2)) : ∃ b c1 c2, v = .ref b ∧ SqT K H b [.ref c1, .ref c2] ∧ SqT K H c1 (X1.map V.int) ∧ SqT K H c2 (X2.map V.int) ∧ Da K H (.ref c1) (.tuple (X1.map PyData.int)) ∧ Da K H (.ref c2) (.tuple (X2.map PyData.int)) := by
  unfold pairQ at h
  cases h with
  | @tup b xs _ hs ha =>
  cases ha with
  | cons q1 q2 =>
  cases q2 with
  | cons q2 q3 =>
  cases q3
  obtain ⟨c1, rfl, h1⟩ := da_vals q1
  obtain ⟨c2, rfl, h2⟩ := da_vals q2
  exact ⟨b, c1, c2, rfl, hs, h1, h2, q1, q2⟩
end Ev

/-! ## Values of a blind pair, bounded by the length; tuples repeated any number of times -/
namespace Ev.Pm
section
variable {n m fr : Nat} {ind : Nat → Nat → Nat} {J : List Nat}
theorem RsF.len_n (F : RsF n m ind J) : (pvs n (m + 1) ind m).length ≤ n := by
  have nd : ((pvs n (m + 1) ind m).map Prod.fst).Nodup := by
    rw [List.Nodup, List.pairwise_map]
    exact F.I.off.imp fun h => h.1
  have := nd.length_le_of_subset (l₂ := List.range n) fun x hx => by
    obtain ⟨q, hq, rfl⟩ := List.mem_map.mp hx
    exact List.mem_range.mpr (F.I.row q hq).pl
  rwa [List.length_map, List.length_range] at this
theorem RsF.vals_bound2 (F : RsF n m ind J) (hm : m ≤ 12) (hn : n ≤ 2) (hf : fst0 ((rst n m ind).take n) = some fr) : ∀ t, (gd (bvals n (pvs n (m + 1) ind m) fr) t).natAbs ≤ (13 * BN) ^ 3 := by
  obtain ⟨f1, f2, f3⟩ := F.frX hf
  obtain ⟨w1, w2, w3, w4⟩ := F.whole
  rw [Nat.one_mul] at w4
  have hl : (pvs n (m + 1) ind m).length ≤ 2 := Nat.le_trans F.len_n hn
  have w5 : (whl (pvs n (m + 1) ind m) 1).natAbs ≤ (13 * BN) ^ 2 := Nat.le_trans w4 (Nat.pow_le_pow_right (by decide +kernel) hl)
  have e13 : (13 * BN) ^ 3 = 13 * BN * (13 * BN) ^ 2 := by rw [Nat.pow_succ']
  have h1 : 1 ≤ 13 * BN := by decide +kernel
  generalize hX : (13 * BN) ^ 2 = X at w5 e13
  have h2 : 1 * X ≤ 13 * BN * X := Nat.mul_le_mul_right _ h1
  rw [e13]
  unfold bvals
  refine bvl_bound (fun q hq => ⟨by rw [List.length_set, List.length_replicate]; exact (F.I.row q hq).pl, ?_⟩) fun t => ?_
  · rw [Int.natAbs_mul, Int.natAbs_neg]
    refine Nat.mul_le_mul (F.bv q hq fr) (Nat.le_trans ?_ w5)
    have q0 := (F.I.row q hq).pos
    obtain ⟨k, hk⟩ := w2 q hq
    rw [hk, Int.mul_ediv_cancel_left _ (by omega), Int.natAbs_mul]
    have : 1 * k.natAbs ≤ (gd q.2 q.1).natAbs * k.natAbs := Nat.mul_le_mul_right _ (by omega)
    omega
  · rw [gd_set (by rw [List.length_replicate]; exact f1)]
    by_cases e : t = fr
    · rw [if_pos e]
      omega
    · rw [if_neg e, gd_rep0]
      exact Nat.zero_le _
end
end Ev.Pm
namespace Ev
open PySem PySem.Spec PyProof.Rows L2 Pm
theorem bvals_small2 {n : Nat} {cl : List (Nat × Nat)} {fr : Nat} (hm : cl.length ≤ 12) (hn : n ≤ 2) (hf : fst0 ((rst n cl.length (indC cl)).take n) = some fr) : ∀ t, (gd (bvals n (pvs n (cl.length + 1) (indC cl) cl.length) fr) t).natAbs < 2 ^ 200 := fun t => by
  obtain ⟨J, F⟩ := rsF (n := n) (m := cl.length) (indC_le cl) hm
  have := F.vals_bound2 hm hn hf t
  have b : (13 * BN) ^ 3 < 2 ^ 200 := by decide +kernel
  exact Nat.lt_of_le_of_lt this b
def rRepTA (K : PySem.W.Frag) : R2 := fun x y H Q => rRepT K x y H Q ∨ rRepT01 K x y H Q
theorem op_repTA {X : Cx} : OpR X (binaryOp .Mult) (rRepTA X.K) := by
  intro pins s σ H x y v u Q I rx ry h
  cases h with
  | inl h => exact op_repT pins s σ H x y v u Q I rx ry h
  | inr h => exact op_repT01 pins s σ H x y v u Q I rx ry h
theorem shp_two (a b : Int) : SeqAt.shaped (.tuple [.int a, .int b]) = true := by
  simp [SeqAt.shaped, PyData.canLay0, PyData.canLayAll0, PyData.depth, PyData.depthAll]
theorem tupD_two (a b : Int) : tupD (.tuple [.int a, .int b]) = true := by
  simp [tupD, tupDs]
end Ev
namespace Ev
open PySem PySem.Spec PyProof.Rows L2 Pm
section
variable {K : PySem.W.Frag} {σ : L2.St} {H : Hp} {Q : VK} {te ti : TE} {ys : List V} {g : TG} {vs : List Nat}
/-- a comprehension over a tuple that is made on the spot -/
theorem lcI_tupM {PP : Hp → Addr → List V → Prop} (hi : ∀ R : VK, (∀ H1 a xs, PP H1 a xs → R (.ref a) H1) → ti σ H R)
    (h : ∀ H1 a xs, PP H1 a xs → SqT K H1 a xs ∧ xs.length ≤ 1000000 ∧ ys.length = xs.length ∧ (∀ (k : Nat) x y, xs[k]? = some x → ys[k]? = some y → TurnI H1 σ g te vs x y) ∧ ∀ H' D, Same H1 H' → H1 D = none → H' D = some (.lst ys) → Q (.ref D) H') : tLc (iTup K ti) g tYes te vs σ H Q :=
  hi _ fun H1 a xs p => by
    obtain ⟨h1, h2, h3, h4, h5⟩ := h H1 a xs p
    exact lcI_tup (ti := fun _ _ R => R (.ref a) H1) (H := H1) (a := a) h3 (fun R q => q) h1 h2 h4 h5
theorem daAll_repQ {K : PySem.W.Frag} {H : Hp} {v : V} {d : PyData} (h : Da K H v d) : ∀ n : Nat, DaAll K H (List.replicate n [v]).flatten (List.replicate n d)
  | 0 => .nil
  | n + 1 => by
    rw [List.replicate_succ, List.replicate_succ, List.flatten_cons]
    exact .cons h (daAll_repQ h n)
end
end Ev

/-! ## data made of new objects alone; their sizes; tuple[::-1] -/
namespace Ev
open PySem PySem.Spec PyProof.Rows L2
theorem newer_same {B H H' : Hp} (s : Same H H') : Same (newer B H) (newer B H') := newer_le (fun _ z => z) fun b o _ e => s b o e
theorem same_none {B H : Hp} (s : Same B H) {b : Addr} (h : H b = none) : B b = none := by
  cases e : B b with
  | none => rfl
  | some o =>
    rw [s _ _ e] at h
    cases h
/-- what B tracks, H tracks -/
def Dm (B H : Hp) : Prop := ∀ b, H b = none → B b = none
theorem Dm.rfl' {B : Hp} : Dm B B := fun _ e => e
theorem Dm.go {B H H' : Hp} (h : Dm B H) (s : Same H H') : Dm B H' := fun b e => h b (same_none s e)
/-- data of objects that B does not track -/
def gNw (K : PySem.W.Frag) (B : Hp) (d : PyData) : GP := ⟨fun H u => Da K (newer B H) u d, fun s h => h.mono (newer_same s)⟩
section
variable {K : PySem.W.Frag} {B H0 : Hp} {σ : L2.St} {te tf : TE} {ta : TA} {d : PyData} {ds es : List PyData} {i : Nat} {v : V}
theorem allNw {H : Hp} : ∀ {ds : List PyData} {us : List V}, AllG (ds.map (gNw K B)) H us → DaAll K (newer B H) us ds
  | [], _, .nil => .nil
  | _ :: _, _, .cons h t => .cons h (allNw t)
theorem n_non : Gives H0 (tC .non) (gNw K B .none) σ := g_c fun _ => Da.non
theorem n_bl {b : Bool} : Gives H0 (tC (.bl b)) (gNw K B (.bool b)) σ := g_c fun _ => Da.bl b
theorem n_int {i : Int} : Gives H0 (tC (.int i)) (gNw K B (.int i)) σ := g_c fun _ => Da.int i
theorem n_str {x : Str} : Gives H0 (tC (.str x)) (gNw K B (.str x)) σ := g_c fun _ => Da.str x
theorem n_neg {i : Int} : Gives H0 (tUn (rU fun i => .int (-i)) (tC (.int i))) (gNw K B (.int (-i))) σ := fun H Q _ q => ⟨i, rfl, q H _ Same.rfl' (.int _)⟩
theorem n_pow {i j : Int} (h : CPow i j) : Gives H0 (tOp (rI CPow fun i j => .int (i ^ j.toNat)) (tC (.int i)) (tC (.int j))) (gNw K B (.int (i ^ j.toNat))) σ :=
  fun H Q _ q => ⟨i, j, rfl, rfl, h, q H _ Same.rfl' (.int _)⟩
theorem n_powAdd {i j k : Int} (h : CPow i j) : Gives H0 (tOp (rI0 fun i j => .int (i + j)) (tOp (rI CPow fun i j => .int (i ^ j.toNat)) (tC (.int i)) (tC (.int j))) (tC (.int k))) (gNw K B (.int (i ^ j.toNat + k))) σ :=
  fun H Q _ q => ⟨i, j, rfl, rfl, h, _, _, rfl, rfl, q H _ Same.rfl' (.int _)⟩
theorem n_tup (hB : Dm B H0) (h : GivesL H0 ta (ds.map (gNw K B)) σ) (hz : ds.length ≤ 1000 := by simp) : Gives H0 (tTup ta) (gNw K B (.tuple ds)) σ := fun H Q s q =>
  h H _ s fun H1 us s1 g1 => by
    have hl : us.length = ds.length := by rw [← Paired.length g1, List.length_map]
    refine ⟨?_, fun r nr => ?_⟩
    · have y := sizeLine_eq
      omega
    · have s2 := same_put (o := .tup us) nr
      have nB : B r = none := ((hB.go s).go s1) _ nr
      refine q _ _ (s1.trans s2) (.tup (.inl (.inl ?_)) ((allNw g1).mono (newer_same s2)))
      rw [newer_at nB, upd_same]
theorem n_lst (hB : Dm B H0) (h : GivesL H0 ta (ds.map (gNw K B)) σ) (hz : ds.length ≤ 1000 := by simp) : Gives H0 (tLst ta) (gNw K B (.list ds)) σ := fun H Q s q =>
  h H _ s fun H1 us s1 g1 => by
    have hl : us.length = ds.length := by rw [← Paired.length g1, List.length_map]
    refine ⟨?_, fun r nr => ?_⟩
    · have y := sizeLine_eq
      omega
    · have s2 := same_put (o := .lst us) nr
      have nB : B r = none := ((hB.go s).go s1) _ nr
      refine q _ _ (s1.trans s2) (.lst (.inl (.inl ?_)) ((allNw g1).mono (newer_same s2)))
      rw [newer_at nB, upd_same]
theorem n_dnew (hB : Dm B H0) : Gives H0 tDNewK (gNw K B (.dict [])) σ := fun H Q s q r nr => by
  have nB : B r = none := (hB.go s) _ nr
  refine q _ _ (same_put nr) (.dic ?_ .nil)
  rw [newer_at nB, upd_same]
theorem n_var (hv : σ[i]? = some (some v)) (hd : Da K (newer B H0) v d) : Gives H0 (tVar i) (gNw K B d) σ := g_var hv hd
/-- a list of its own, of such data -/
def gNl (K : PySem.W.Frag) (B : Hp) (ds : List PyData) : GP := ⟨fun H u => ∃ a us, u = .ref a ∧ H a = some (.lst us) ∧ B a = none ∧ DaAll K (newer B H) us ds,
  fun s ⟨a, us, h1, h2, h3, h4⟩ => ⟨a, us, h1, s _ _ h2, h3, h4.mono (newer_same s)⟩⟩
theorem n_lstL (hB : Dm B H0) (h : GivesL H0 ta (ds.map (gNw K B)) σ) (hz : ds.length ≤ 1000 := by simp) : Gives H0 (tLst ta) (gNl K B ds) σ := fun H Q s q =>
  h H _ s fun H1 us s1 g1 => by
    have hl : us.length = ds.length := by rw [← Paired.length g1, List.length_map]
    refine ⟨?_, fun r nr => ?_⟩
    · have y := sizeLine_eq
      omega
    · have s2 := same_put (o := .lst us) nr
      exact q _ _ (s1.trans s2) ⟨r, us, rfl, upd_same, ((hB.go s).go s1) _ nr, (allNw g1).mono (newer_same s2)⟩
/-- list + list -/
theorem n_catL (hB : Dm B H0) (h : Gives H0 te (gNl K B ds) σ) (h' : Gives H0 tf (gNl K B es) σ) (hz : ds.length + es.length ≤ 1000) :
    Gives H0 (tOp rCat te tf) (gNl K B (ds ++ es)) σ := fun H Q s q =>
  h H _ s fun H1 u s1 ⟨p, us, e1, h1, n1, g1⟩ => h' H1 _ (s.trans s1) fun H2 u' s2 ⟨p', us', e2, h2, n2, g2⟩ => by
    have l1 := daAll_len g1
    have l2 := daAll_len g2
    refine ⟨p, p', us, us', e1, e2, s2 _ _ h1, h2, ?_, fun r nr => ?_⟩
    · have y := sizeLine_eq
      omega
    · have s3 := same_put (o := .lst (us ++ us')) nr
      exact q _ _ ((s1.trans s2).trans s3) ⟨r, us ++ us', rfl, upd_same, (((hB.go s).go s1).go s2) _ nr, da_app (g1.mono (newer_same (s2.trans s3))) (g2.mono (newer_same s3))⟩
end
end Ev
namespace Ev
open PySem PySem.Spec PyProof.Rows L2 HT
section
variable {prog : Program} {w : World} {A : Around} {E : Value → Shared → Prop} {s : Shared}
theorem adjust_rev (n : Nat) : Builtin.Slice.sliceAdjust none none (-1) (n : Int) = ((n : Int) - 1, -1) := by
  unfold Builtin.Slice.sliceAdjust
  simp
theorem places_rev (n : Nat) : Builtin.Slice.slicePlaces ((n : Int) - 1) (-1) (-1) = n := by
  unfold Builtin.Slice.slicePlaces
  simp
  split <;> omega
theorem sliceApplied_rev {sl : Addr} {vl vu vs : Value} {n : Nat} {Q : Int × Int × Nat → Shared → Prop} (hs : s.heap.IsSliceOf sl vl vu vs) (pl : IsPart vl none) (pu : IsPart vu none) (ps : IsPart vs (some (-1)))
    (h : Q ((n : Int) - 1, -1, n) s) : wpAny (model prog w) A (Builtin.Slice.sliceApplied (.ref sl) (pure (n : Int))) Q E s := by
  obtain ⟨os, hos, hcs, hds⟩ := id hs
  unfold Builtin.Slice.sliceApplied Builtin.Slice.sliceFields
  refine wpAny_bind (wpAny_bind (wpAny_field hos hds (x := vl) rfl (wpAny_bind (wpAny_field hos hds (x := vu) rfl (wpAny_bind (wpAny_field hos hds (x := vs) rfl (wpAny_pure ?_)))))))
  refine wpAny_bind (slicePart_ ps ?_)
  show wpAny _ _ (if ((-1 : Int) == 0) = true then _ else _) _ _ s
  rw [if_neg (by decide)]
  refine wpAny_bind (slicePart_ pl (wpAny_bind (slicePart_ pu (wpAny_bind (wpAny_pure ?_)))))
  show wpAny _ _ (match Builtin.Slice.sliceAdjust none none (-1) (n : Int) with | (lo, hi) => pure (lo, (-1 : Int), Builtin.Slice.slicePlaces lo hi (-1))) _ _ s
  rw [adjust_rev n]
  show wpAny _ _ (pure ((n : Int) - 1, (-1 : Int), Builtin.Slice.slicePlaces ((n : Int) - 1) (-1) (-1))) _ _ s
  rw [places_rev]
  exact wpAny_pure h
theorem filterMap_map {α β : Type} {f : α → Option β} {g : α → β} : ∀ {l : List α}, (∀ a ∈ l, f a = some (g a)) → l.filterMap f = l.map g
  | [], _ => rfl
  | a :: l, h => by
    rw [List.filterMap_cons, h a (List.mem_cons_self ..), List.map_cons, filterMap_map fun b hb => h b (List.mem_cons_of_mem _ hb)]
theorem pick_rev (xs : Array Value) : ((List.range xs.size).filterMap fun (m : Nat) => xs[(((xs.size : Int) - 1) + (m : Int) * (-1)).toNat]?).toArray = xs.toList.reverse.toArray := by
  congr 1
  apply List.ext_getElem?
  intro i
  have e : (List.range xs.size).filterMap (fun (m : Nat) => xs[(((xs.size : Int) - 1) + (m : Int) * (-1)).toNat]?) = (List.range xs.size).filterMap (fun m => xs.toList[xs.size - 1 - m]?) := by
    congr 1
    funext m
    have : (((xs.size : Int) - 1) + (m : Int) * (-1)).toNat = xs.size - 1 - m := by omega
    rw [this, Array.getElem?_toList]
  rw [e]
  have e2 : (List.range xs.size).filterMap (fun m => xs.toList[xs.size - 1 - m]?) = xs.toList.reverse := by
    have h : ∀ l : List Value, (List.range l.length).filterMap (fun m => l[l.length - 1 - m]?) = l.reverse := by
      intro l
      apply List.ext_getElem
      · rw [List.length_reverse, List.length_filterMap_eq_countP, List.countP_eq_length.mpr, List.length_range]
        intro a ha
        have := List.mem_range.mp ha
        rw [List.getElem?_eq_getElem (by omega)]
        rfl
      · intro i h1 h2
        have hh : (List.range l.length).filterMap (fun m => l[l.length - 1 - m]?) = (List.range l.length).map (fun m => l[l.length - 1 - m]?.getD .none) := by
          apply filterMap_map
          intro a ha
          have := List.mem_range.mp ha
          rw [List.getElem?_eq_getElem (by omega)]
          rfl
        have hi : i < l.length := by rw [List.length_reverse] at h2; exact h2
        simp only [hh, List.getElem_map, List.getElem_range, List.getElem_reverse]
        rw [List.getElem?_eq_getElem (by omega)]
        rfl
    have z := h xs.toList
    rw [Array.length_toList] at z
    exact z
  rw [e2]
theorem getItem_tuple_rev {t sl : Addr} {items : Array Value} {vl vu vs : Value} {Q : Value → Shared → Prop} (ht : IsTup s.heap t items) (hs : s.heap.IsSliceOf sl vl vu vs) (pl : IsPart vl none) (pu : IsPart vu none) (ps : IsPart vs (some (-1)))
    (h : Q (.ref s.heap.objs.size) { s with heap := s.heap.push { cls := .type "tuple", data := .seq items.toList.reverse.toArray } })
    (hsz : items.size ≤ sizeLine) : wpAny (model prog w) A (getItem (.ref t) (.ref sl)) Q E s := by
  have htake : sizeOk (.seq items.toList.reverse.toArray) := by
    show items.toList.reverse.toArray.size ≤ sizeLine
    rw [List.size_toArray, List.length_reverse, Array.length_toList]
    exact hsz
  obtain ⟨os, hos, hcs, hds⟩ := id hs
  have hTs : s.TypeIs (.ref sl) "slice" := ⟨os, hos, hcs⟩
  unfold getItem
  try with_reducible refine wpAny_holding ?_
  first | refine wpAny_bind (wpAny_pure ?_) | skip
  refine wpAny_bind (wpAny_sequenceKey ht.typeIs (by decide) ?_)
  refine wpAny_bind (wpAny_callSpecial?_slot (name := Str.ofString "__getitem__") ht.typeIs PyProof.Rows.slot_tuple_getitem
    (wpAny_call_entry PyProof.Rows.slot_tuple_getitem ht.typeIs entry_tuple_getitem ?_ (args_tuple_getitem _ _)))
  show wpAny _ _ (Builtin.Tuple.tupleItemsOf (.ref t) >>= _) _ _ s
  refine wpAny_bind (tupleItemsOf_ ht ?_)
  refine wpAny_bind (wpAny_typeOf hTs ?_)
  rw [if_pos (by decide)]
  refine wpAny_bind (sliceApplied_rev hs pl pu ps ?_)
  have hno : ¬ ((((items.size : Int) - 1) == 0 && (-1 : Int) == 1 && items.size == items.size) = true) := by
    rw [show ((-1 : Int) == 1) = false from rfl, Bool.and_false, Bool.false_and]
    exact Bool.false_ne_true
  show wpAny _ _ (if (((items.size : Int) - 1) == 0 && (-1 : Int) == 1 && items.size == items.size) = true then _ else _) _ _ s
  rw [if_neg hno, pick_rev]
  first
    | exact wpAny_bind (m := Builtin.Tuple.tupleExact _) (wpAny_newObj_type (wpAny_pure ⟨_, rfl, wpAny_pure h⟩) htake)
    | exact wpAny_bind (m := Builtin.Tuple.tupleExact _) (wpAny_newObj_type (wpAny_bind (wpAny_pure (wpAny_pure ⟨_, rfl, wpAny_pure h⟩))) htake)
    | exact wpAny_bind (wpAny_bind (m := Builtin.Tuple.tupleExact _) (wpAny_newObj_type (wpAny_pure (wpAny_pure ⟨_, rfl, wpAny_pure h⟩)) htake))
    | exact wpAny_bind (wpAny_bind (m := Builtin.Tuple.tupleExact _) (wpAny_newObj_type (wpAny_pure ⟨_, rfl, wpAny_pure h⟩) htake))
end
def tRevT (K : PySem.W.Frag) (te : TE) : TE := fun σ H Q => te σ H fun x H1 => ∃ a xs, x = .ref a ∧ SqT K H1 a xs ∧ ∀ p, H1 p = none → Q (.ref p) (upd H1 p (.tup xs.reverse))
theorem pe_revT {X : Cx} {e : Expr} {te : TE} {k : Nat} {p1 p2 p3 pos : Pos} (he : PE X e te) : PE X (.Subscript e (.Slice none none (some (.UnaryOp .USub (.Constant (.int 1) k p1) p2)) p3) pos) (tRevT X.K te) := by
  refine ⟨fun pins s σ H Q I h => ?_⟩
  refine Subscript_ (thn (he.run pins s σ H _ I h) fun v s1 ⟨x, H1, I1, r1, q1⟩ => ?_)
  obtain ⟨a, xs, ex, hx, q⟩ := q1
  subst ex
  cases r1
  have hst : PO X (some (.UnaryOp .USub (.Constant (.int 1) k p1) p2)) (tPart (tUn (rU fun i => .int (-i)) (tC (.int 1)))) := po_some (pe_un un_neg pe_int)
  refine wpAny_Slice (thn (po_none.run pins s1 σ H1 (fun o H2 => o = none ∧ H2 = H1) I1 ⟨rfl, rfl⟩) fun vl s2 ⟨l, H2, I2, pl, el, e2⟩ => ?_)
  subst el e2
  refine thn (po_none.run pins s2 σ H2 (fun o H3 => o = none ∧ H3 = H2) I2 ⟨rfl, rfl⟩) fun vu s3 ⟨u, H3, I3, pu, eu, e3⟩ => ?_
  subst eu e3
  refine thn (hst.run pins s3 σ H3 (fun o H4 => o = some (-1) ∧ H4 = H3) I3 ⟨1, rfl, -1, rfl, rfl, rfl⟩) fun vs s4 ⟨o, H4, I4, ps, eo, e4⟩ => ?_
  subst eo e4
  have I5 : Inv X pins σ H4 { s4 with heap := s4.heap.push { cls := .type "slice", data := .fields #[vl, vu, vs] } } := I4.kept (t' := s4.toks) fun b ob q => Heap.get?_push_of_some _ q
  obtain ⟨its, r, ht, hz⟩ := I5.tuple hx
  have hlen := r.length
  show wpAny (model X.prog X.w) X.A (subscriptTail e (.Slice none none (some (.UnaryOp .USub (.Constant (.int 1) k p1) p2)) p3) (.ref a) (.ref s4.heap.objs.size)) (EP X pins σ Q) X.xe { s4 with heap := s4.heap.push { cls := .type "slice", data := .fields #[vl, vu, vs] } }
  refine tail_any (ops := [.ref a, .ref s4.heap.objs.size]) ht.typeIs (PyProof.Rows.slot_tuple_getitem.lookup) ?_ (by with_unfolding_all rfl)
  refine getItem_tuple_rev ht (Heap.IsSliceOf.new _ vl vu vs) pl pu ps ?_ (by rw [List.size_toArray]; omega)
  refine ⟨.ref _, _, I5.laid (t' := s4.toks) (o := .tup xs.reverse) (fun b ob q => Heap.get?_push_of_some _ q) (Nat.le_refl _) ?_, rfl, q _ (I5.hok.fresh (Nat.le_refl _))⟩
  exact ⟨by rw [List.length_reverse]; exact hz, _, r.reverse, IsTup.new _ _⟩
end Ev
namespace Ev
open PySem PySem.Spec PyProof.Rows L2
/-- texts and numbers are short, the depth is at most e -/
def Fi (e : Nat) (d : PyData) : Prop := d.showable = true ∧ d.leavesShort 1000 = true ∧ d.depth ≤ e
theorem Fi.mono {e e' : Nat} {d : PyData} (h : Fi e d) (l : e ≤ e') : Fi e' d := ⟨h.1, h.2.1, Nat.le_trans h.2.2 l⟩
theorem fi_all {e : Nat} : ∀ {ds : List PyData}, (∀ d ∈ ds, Fi e d) → PyData.showableAll ds = true ∧ PyData.leavesShortAll 1000 ds = true ∧ PyData.depthAll ds ≤ e
  | [], _ => by
    refine ⟨by rw [PyData.showableAll], by rw [PyData.leavesShortAll], ?_⟩
    rw [PyData.depthAll]
    exact Nat.zero_le _
  | d :: ds, h => by
    obtain ⟨h2, h3, h4⟩ := h d (List.mem_cons_self ..)
    obtain ⟨k2, k3, k4⟩ := fi_all fun x hx => h x (List.mem_cons_of_mem _ hx)
    refine ⟨by rw [PyData.showableAll, h2, k2]; rfl, by rw [PyData.leavesShortAll, h3, k3]; rfl, ?_⟩
    rw [PyData.depthAll]
    exact Nat.max_le.mpr ⟨h4, k4⟩
theorem all_fi {e : Nat} : ∀ {ds : List PyData}, PyData.showableAll ds = true → PyData.leavesShortAll 1000 ds = true → PyData.depthAll ds ≤ e → ∀ d ∈ ds, Fi e d
  | [], _, _, _, _, h => nomatch h
  | d :: ds, h2, h3, h4, x, hx => by
    rw [PyData.showableAll, Bool.and_eq_true] at h2
    rw [PyData.leavesShortAll, Bool.and_eq_true] at h3
    rw [PyData.depthAll] at h4
    have h4 := Nat.max_le.mp h4
    rcases List.mem_cons.mp hx with rfl | hx
    · exact ⟨h2.1, h3.1, h4.1⟩
    · exact all_fi h2.2 h3.2 h4.2 x hx
theorem fi_tup {e : Nat} {ds : List PyData} (h : ∀ d ∈ ds, Fi e d) : Fi (e + 1) (.tuple ds) := by
  obtain ⟨k2, k3, k4⟩ := fi_all h
  refine ⟨by rw [PyData.showable]; exact k2, by rw [PyData.leavesShort]; exact k3, ?_⟩
  rw [PyData.depth]
  omega
theorem fi_lst {e : Nat} {ds : List PyData} (h : ∀ d ∈ ds, Fi e d) : Fi (e + 1) (.list ds) := by
  obtain ⟨k2, k3, k4⟩ := fi_all h
  refine ⟨by rw [PyData.showable]; exact k2, by rw [PyData.leavesShort]; exact k3, ?_⟩
  rw [PyData.depth]
  omega
theorem fi_inv {e : Nat} {ds : List PyData} (h : Fi e (.tuple ds)) : ∃ e', e = e' + 1 ∧ ∀ d ∈ ds, Fi e' d := by
  obtain ⟨h2, h3, h4⟩ := h
  rw [PyData.showable] at h2
  rw [PyData.leavesShort] at h3
  rw [PyData.depth] at h4
  cases e with
  | zero => omega
  | succ e => exact ⟨e, rfl, all_fi h2 h3 (by omega)⟩
theorem wt_app : ∀ ds es : List PyData, PyData.weightAll (ds ++ es) = PyData.weightAll ds + PyData.weightAll es
  | [], es => by
    rw [List.nil_append, PyData.weightAll, Nat.zero_add]
  | d :: ds, es => by
    rw [List.cons_append, PyData.weightAll, PyData.weightAll, wt_app ds es]
    omega
theorem wt_rev : ∀ ds : List PyData, PyData.weightAll ds.reverse = PyData.weightAll ds
  | [] => rfl
  | d :: ds => by
    rw [List.reverse_cons, wt_app, wt_rev ds, PyData.weightAll, PyData.weightAll, PyData.weightAll]
    omega
theorem wt_len : ∀ ds : List PyData, ds.length ≤ PyData.weightAll ds
  | [] => Nat.zero_le _
  | d :: ds => by
    have := wt_len ds
    rw [PyData.weightAll, List.length_cons]
    omega
theorem wt_cut (ds : List PyData) (i : Nat) : PyData.weightAll (ds.take i) + PyData.weightAll (ds.drop i) = PyData.weightAll ds := by
  rw [← wt_app, List.take_append_drop]
theorem wt_one (d : PyData) : PyData.weightAll [d] = d.weight + 1 := by
  rw [PyData.weightAll, PyData.weightAll]
theorem wt_at {ds : List PyData} {i : Nat} {d : PyData} (h : ds[i]? = some d) : PyData.weightAll (ds.take i) + (d.weight + 1) + PyData.weightAll (ds.drop (i + 1)) = PyData.weightAll ds := by
  obtain ⟨hi, e⟩ := List.getElem?_eq_some_iff.mp h
  have z := wt_cut ds i
  rw [List.drop_eq_getElem_cons hi, e, PyData.weightAll] at z
  omega
theorem fi_fits {e w : Nat} {d : PyData} (h : Fi e d) (he : e ≤ 64) (hw : d.weight ≤ w) (h2 : 1002 * w + 1000 ≤ sizeLine) : d.showable = true ∧ d.depth ≤ 64 ∧ d.shown.length ≤ sizeLine := by
  have z := PyData.shown_le 1000 (by decide) d h.2.1
  refine ⟨h.1, Nat.le_trans h.2.2 he, ?_⟩
  have y : (1000 + 2) * d.weight ≤ 1002 * w := Nat.mul_le_mul_left _ hw
  omega
end Ev
namespace Ev
open PySem PySem.Spec PyProof.Rows L2
theorem newer_bu {B H H' : Hp} {p : Addr} {o : HO} (hp : B p = some o) (h : Bu p H H') : Same (newer B H) (newer B H') := newer_le (fun _ z => z) fun b o' nb e => h b o' (fun z => by
  rw [z, hp] at nb
  cases nb) e
theorem Dm.bu {B H H' : Hp} {p : Addr} {o : HO} (h : Dm B H) (k : Bu p H H') (hp : H' p = some o) : Dm B H' := fun b e => h b (k.dom hp b e)
theorem daAll_rev {K : PySem.W.Frag} {H : Hp} : ∀ {vs : List V} {ds : List PyData}, DaAll K H vs ds → DaAll K H vs.reverse ds.reverse
  | _, _, .nil => .nil
  | _, _, .cons a t => by
    rw [List.reverse_cons, List.reverse_cons]
    exact daAll_append a (daAll_rev t)
theorem daAll_mem {K : PySem.W.Frag} {H : Hp} : ∀ {vs : List V} {ds : List PyData}, DaAll K H vs ds → ∀ v ∈ vs, ∃ d ∈ ds, Da K H v d
  | _, _, .nil, _, h => nomatch h
  | _, _, .cons a t, v, h => by
    rcases List.mem_cons.mp h with rfl | h
    · exact ⟨_, List.mem_cons_self .., a⟩
    · obtain ⟨d, h1, h2⟩ := daAll_mem t v h
      exact ⟨d, List.mem_cons_of_mem _ h1, h2⟩
section
variable {K : PySem.W.Frag} {B H0 : Hp} {σ : L2.St} {te tf : TE} {ds es : List PyData} {i : Nat} {a : Addr} {x y : V}
theorem n_sl {tl th : TO} {lo hi : Option Int} (hB : Dm B H0) (hv : σ[i]? = some (some x)) (hd : Da K (newer B H0) x (.tuple ds)) (hz : ds.length ≤ 1000000)
    (h1 : ∀ (H : Hp) (Q : Option Int → Hp → Prop), Q lo H → tl σ H Q) (h2 : ∀ (H : Hp) (Q : Option Int → Hp → Prop), Q hi H → th σ H Q) :
    Gives H0 (tSl (rSlA K) (tVar i) tl th) (gNw K B (.tuple (cutD ds lo hi))) σ := fun H Q s q => by
  have hd := hd.mono (newer_same s)
  refine ⟨_, hv, h1 _ _ (h2 _ _ ?_)⟩
  cases hd with
  | @tup a xs _ hs ha =>
  have hl := daAll_len ha
  refine ⟨a, xs, rfl, seqT_mono newer_in hs, fun e => ?_, fun e r nr => ?_⟩
  · refine q _ _ Same.rfl' ?_
    have z : cutD ds lo hi = ds := by
      unfold cutD
      rw [← hl, e.1, e.2, hl, List.drop_zero, Nat.sub_zero, List.take_length]
    show Da K _ _ (.tuple (cutD ds lo hi))
    rw [z]
    exact .tup hs ha
  · have s2 := same_put (o := .tup (cutV xs lo hi)) nr
    have nB : B r = none := (hB.go s) _ nr
    refine q _ _ s2 (.tup (xs := cutV xs lo hi) (.inl (.inl ?_)) ?_)
    · rw [newer_at nB, upd_same]
    · have z := (daAll_take (HT.sIx xs.length xs.length hi - HT.sIx xs.length 0 lo) (daAll_drop (HT.sIx xs.length 0 lo) ha)).mono (newer_same s2 (B := B))
      unfold cutV cutD
      rw [← hl]
      exact z
theorem cat_valN {H : Hp} {Q : VK} (hB : Dm B H) (h1 : Da K (newer B H) x (.tuple ds)) (h2 : Da K (newer B H) y (.tuple es)) (hz : ds.length + es.length ≤ 1000000)
    (q : ∀ H' u, Same H H' → Da K (newer B H') u (.tuple (ds ++ es)) → Q u H') : rCatA K x y H Q := by
  cases h1 with
  | @tup a xs _ hs ha =>
  cases h2 with
  | @tup b ys _ hs' hb =>
  have l1 := daAll_len ha
  have l2 := daAll_len hb
  have y := sizeLine_eq
  refine ⟨a, b, xs, ys, rfl, rfl, seqT_mono newer_in hs, seqT_mono newer_in hs', by omega, fun e => ?_, fun _ e => ?_, fun _ _ r nr => ?_⟩
  · have e2 : ds = [] := List.eq_nil_of_length_eq_zero (by rw [← l1, e]; rfl)
    subst e2
    exact q _ _ Same.rfl' (.tup hs' hb)
  · have e2 : es = [] := List.eq_nil_of_length_eq_zero (by rw [← l2, e]; rfl)
    subst e2
    refine q _ _ Same.rfl' ?_
    rw [List.append_nil]
    exact .tup hs ha
  · have s3 := same_put (o := .tup (xs ++ ys)) nr
    have nB : B r = none := hB _ nr
    refine q _ _ s3 (.tup (.inl (.inl ?_)) ((da_app ha hb).mono (newer_same s3)))
    rw [newer_at nB, upd_same]
theorem n_catA (hB : Dm B H0) (h : Gives H0 te (gNw K B (.tuple ds)) σ) (h' : Gives H0 tf (gNw K B (.tuple es)) σ) (hz : ds.length + es.length ≤ 1000000) :
    Gives H0 (tOp (rCatA K) te tf) (gNw K B (.tuple (ds ++ es))) σ := fun H Q s q =>
  h H _ s fun H1 u s1 g1 => h' H1 _ (s.trans s1) fun H2 u' s2 g2 => by
    have g1 : Da K (newer B H1) u (.tuple ds) := g1
    exact cat_valN (((hB.go s).go s1).go s2) (g1.mono (newer_same s2)) g2 hz fun H' u s' hu => q H' u ((s1.trans s2).trans s') hu
end
def emptyD : PyData → Bool
  | .tuple [] => true
  | _ => false
section
variable {K : PySem.W.Frag} {H0 : Hp} {σ : L2.St} {i j : Nat} {x : V} {d : PyData}
theorem part_v {m : Int} (h : σ[j]? = some (some (.int m))) : ∀ (H : Hp) (Q : Option Int → Hp → Prop), Q (some m) H → tPart (tVar j) σ H Q := fun H Q q => ⟨_, h, m, rfl, q⟩
theorem part_s {m : Nat} (h : σ[j]? = some (some (.int (m : Nat)))) : ∀ (H : Hp) (Q : Option Int → Hp → Prop), Q (some ((m + 1 : Nat) : Int)) H → tPart (tOp (rI0 fun i j => .int (i + j)) (tVar j) (tC (.int 1))) σ H Q := fun H Q q =>
  ⟨_, h, _, _, rfl, rfl, _, rfl, q⟩
theorem part_n : ∀ (H : Hp) (Q : Option Int → Hp → Prop), Q none H → tNoPart σ H Q := fun H Q q => q
theorem n_listOf {B : Hp} {ds : List PyData} (hB : Dm B H0) (h : σ[i]? = some (some x)) (hd : Da K (newer B H0) x (.tuple ds)) : Gives H0 (tCB (fun xs H Q => ∃ p ys, xs = [.ref p] ∧ (SqL K H p ys ∨ SqT K H p ys) ∧ ∀ l, H l = none → Q (.ref l) (upd H l (.lst ys))) (tCons (tVar i) tNil)) (gNw K B (.list ds)) σ := fun H Q s q => by
  have hd := hd.mono (newer_same s)
  cases hd with
  | @tup a xs _ hs ha =>
  refine ⟨_, h, a, xs, rfl, .inr (seqT_mono newer_in hs), fun r nr => ?_⟩
  have s2 := same_put (o := .lst xs) nr
  refine q _ _ s2 (.lst (.inl (.inl ?_)) (ha.mono (newer_same s2)))
  rw [newer_at ((hB.go s) _ nr), upd_same]
theorem n_revT {B : Hp} {ds : List PyData} (hB : Dm B H0) (h : σ[i]? = some (some x)) (hd : Da K (newer B H0) x (.tuple ds)) : Gives H0 (tRevT K (tVar i)) (gNw K B (.tuple ds.reverse)) σ := fun H Q s q => by
  have hd := hd.mono (newer_same s)
  cases hd with
  | @tup a xs _ hs ha =>
  refine ⟨_, h, a, xs, rfl, seqT_mono newer_in hs, fun r nr => ?_⟩
  have s2 := same_put (o := .tup xs.reverse) nr
  refine q _ _ s2 (.tup (.inl (.inl ?_)) ((daAll_rev ha).mono (newer_same s2)))
  rw [newer_at ((hB.go s) _ nr), upd_same]
theorem t_odd {r : Int} (h : σ[i]? = some (some x)) (hd : Da K H0 x d) (h2 : σ[j]? = some (some (.int r))) : GivesT H0 (tOr (tNot (tB (tIsT K "tuple" i))) (tOr (tTest (tOp (rEqT0 K) (tVar i) (tTup tNil))) (tTest (tOp rEq (tVar j) (tC (.int 0))))))
    (!isD "tuple" d || (emptyD d || decide (r = 0))) σ := by
  by_cases ht : ∃ ds, d = .tuple ds
  · obtain ⟨ds, rfl⟩ := ht
    refine t_or (t_not (t_isT h hd)) fun _ => t_or ?_ fun _ => t_eqI h2
    intro H Q s q
    have hd := hd.mono s
    cases hd with
    | @tup a xs _ hs ha =>
    have hl := daAll_len ha
    have z : emptyD (.tuple ds) = decide (xs = []) := by
      cases ds with
      | nil =>
        have : xs = [] := List.eq_nil_of_length_eq_zero hl
        subst this
        rfl
      | cons d ds =>
        cases xs with
        | nil => cases hl
        | cons v vs => rfl
    refine ⟨_, h, Nat.zero_le _, fun r nr => ⟨a, r, xs, rfl, rfl, seqT_mono (same_put nr) hs, .inl (.inl upd_same), _, rfl, ?_⟩⟩
    rw [← z]
    exact q _ (same_put nr)
  · have e0 : isD "tuple" d = false := by
      rw [isD_tuple]
      cases d <;> first | rfl | exact absurd ⟨_, rfl⟩ ht
    have t1 := t_not (t_isT (K := K) (T := "tuple") h hd)
    refine t_or t1 fun e => ?_
    rw [e0] at e
    cases e
end
theorem s_retO {H0 : Hp} {σ : L2.St} {te tf : TE} {r : R2} {G : GP} {D : Ends} (h : Gives H0 te G σ) (k : ∀ H' u, Same H0 H' → G.p H' u → tf σ H' fun y H2 => r u y H2 D.rt) : tRet (tOp r te tf) D σ H0 :=
  h H0 _ Same.rfl' k
theorem s_retO2 {H0 : Hp} {σ : L2.St} {te tf tg : TE} {r r' : R2} {G : GP} {D : Ends} (h : Gives H0 te G σ) (k : ∀ H' u, Same H0 H' → G.p H' u → tf σ H' fun y H2 => r' u y H2 fun z H3 => tg σ H3 fun y' H4 => r z y' H4 D.rt) : tRet (tOp r (tOp r' te tf) tg) D σ H0 :=
  h H0 _ Same.rfl' k
def spOdd (K : PySem.W.Frag) (dep : Nat) : Sp := fun vs H Q _ => ∃ (p : Addr) (x : V) (xs : List V) (d : PyData) (n : Nat) (B : Hp) (o : HO), vs = [.ref p, x] ∧ H p = some (.lst xs) ∧ PotL n xs ∧ n + 3 * dep + 3 ≤ 1000000 ∧ B p = some o ∧ Dm B H ∧
  Da K (newer B H) x d ∧ Fi dep d ∧ d.weight ≤ 100000 ∧
  ∀ (H' : Hp) (ys : List V) (u : V) (d' : PyData) (n' : Nat), Bu p H H' → H' p = some (.lst ys) → PotL n' ys → n' ≤ n + 3 * dep + 3 → Da K (newer B H') u d' → Fi (dep + 1) d' → d'.weight ≤ 2 * d.weight + 100 → Q u H'
theorem daAll_getN {K : PySem.W.Frag} {H : Hp} : ∀ {vs : List V} {ds : List PyData} {i : Nat} {v : V}, DaAll K H vs ds → vs[i]? = some v → ∃ d, ds[i]? = some d ∧ Da K H v d
  | _, _, 0, _, .cons a _, h => ⟨_, rfl, by
    have h := Option.some.inj h
    subst h
    exact a⟩
  | _, _, i + 1, _, .cons _ t, h => daAll_getN (i := i) t h
theorem ne_of_len {α : Type} {l : List α} (h : 0 < l.length) : l ≠ [] := fun e => by
  rw [e] at h
  cases h
theorem nm_wN : ∀ (is : List It), Its.nm is → ∀ x ∈ Its.w is, nmB x = true
  | [], _, x, h => by
    rw [Its.w] at h
    cases h
  | .line y t :: is, hn, x, h => by
    rw [Its.nm, It.nm] at hn
    rw [Its.w, It.w] at h
    rcases List.mem_append.mp h with h | h
    · rw [(List.mem_replicate.mp h).2]
      exact hn.1.1
    · exact nm_wN is hn.2 x h
  | .loop r js :: is, hn, x, h => by
    rw [Its.nm, It.nm] at hn
    rw [Its.w, It.w] at h
    rcases List.mem_append.mp h with h | h
    · obtain ⟨l, hl, hx⟩ := List.mem_flatten.mp h
      rw [(List.mem_replicate.mp hl).2] at hx
      exact nm_wN js hn.1.2 x hx
    · exact nm_wN is hn.2 x h
theorem Sz.fi {e w : Nat} {d : PyData} (h : Sz e w d) : Fi e d := ⟨h.sh, h.ls, h.dp⟩
/-- these addresses alone -/
def onlyA (ps : List Addr) : Hp := fun b => if b ∈ ps then some (.lst []) else none
theorem onlyA_in {ps : List Addr} {b : Addr} (h : b ∈ ps) : onlyA ps b = some (.lst []) := if_pos h
theorem onlyA_no {ps : List Addr} {b : Addr} (h : b ∉ ps) : onlyA ps b = none := if_neg h
end Ev

/-! ## loops over a zip of two tuples, over WalksT.zipD2 and Draws.tuple -/
namespace Ev
open PySem PySem.Spec PyProof.Rows L2
def ItZv (K : PySem.W.Frag) (a b : Addr) : L2.It where
  go i H := ∃ (xs ys : List V) (x y : V), SqT K H a xs ∧ SqT K H b ys ∧ xs[i]? = some x ∧ ys[i]? = some y
  yld i H v H' := ∃ T x y, v = V.ref T ∧ H T = none ∧ H' = upd H T (.tup [x, y]) ∧ (∀ xs, SqT K H a xs → xs[i]? = some x) ∧ ∀ ys, SqT K H b ys → ys[i]? = some y
  stop i H := ∃ xs ys : List V, SqT K H a xs ∧ SqT K H b ys ∧ xs.length = i ∧ ys.length = i
structure ZvC (a b z TI TO i1 i2 : Addr) (i : Nat) (h : Heap) : Prop where
  zi : IsZip h z TI TO .none
  ti : IsTupOf2 h TI (.ref i1) (.ref i2)
  to : ∃ a1 a2, IsTupOf2 h TO a1 a2
  l1 : h.IsTupleIter i1 a i
  l2 : h.IsTupleIter i2 b i
theorem ZvC.cell {a b z TI TO i1 i2 c : Addr} {i : Nat} {h : Heap} (st : ZvC a b z TI TO i1 i2 i h) (m : c ∈ [z, TI, TO, i1, i2]) : ∃ o, h.get? c = some o ∧ ∀ v, o.data ≠ .cell v := by
  obtain ⟨zi, ti, ⟨a1, a2, to⟩, ⟨o1, e1, _, d1⟩, ⟨o2, e2, _, d2⟩⟩ := st
  simp only [List.mem_cons, List.not_mem_nil, or_false] at m
  rcases m with rfl | rfl | rfl | rfl | rfl
  · exact ⟨_, zi, nofun⟩
  · exact ⟨_, ti, nofun⟩
  · exact ⟨_, to, nofun⟩
  · exact ⟨o1, e1, fun v q => nomatch d1.symm.trans q⟩
  · exact ⟨o2, e2, fun v q => nomatch d2.symm.trans q⟩
theorem turn_zv {P : Program} {w : World} {K : PySem.W.Frag} {elts : List Expr} {kk : Nat} {tpos : Pos} {a b z TI TO i1 i2 : Addr} (S : ZipSep2 z TI TO i1 i2 [i1, a] [i2, b]) (na : a ≠ i1) (nb : b ≠ i2) :
    L2.Turn P w K (.Tuple elts kk tpos) (ItZv K a b) [z, TI, TO, i1, i2] z (ZvC a b z TI TO i1 i2) where
  mem := List.mem_cons_self ..
  obj i h st c hc := st.cell hc
  keep i h h' st k := by
    obtain ⟨zi, ti, ⟨a1, a2, to⟩, l1, l2⟩ := st
    exact ⟨k z (by simp) _ zi, k TI (by simp) _ ti, ⟨a1, a2, k TO (by simp) _ to⟩, l1.at fun o q => k i1 (by simp) o q, l2.at fun o q => k i2 (by simp) o q⟩
  item := by
    rintro X rfl rfl rfl calm i pins s σ H E I own st ⟨xs, ys, x, y, hqx, hqy, hx, hy⟩
    obtain ⟨its, rv, p, _⟩ := I.tuple hqx
    obtain ⟨its2, rv2, p2, _⟩ := I.tuple hqy
    obtain ⟨u, hu, ru⟩ := rv.get hx
    obtain ⟨u2, hu2, ru2⟩ := rv2.get hy
    have hh := I.ok.hd calm
    have W := WalksT.zipD2 S (Draws.tuple (prog := X.prog) (w := X.w) (A := X.A.in1) hh i1 a na its.toArray) (Draws.tuple (prog := X.prog) (w := X.w) (A := X.A.in1) hh i2 b nb its2.toArray)
    have in1 : i < min its.toArray.size its2.toArray.size := by
      have k1 := (List.getElem?_eq_some_iff.mp hu).1
      have k2 := (List.getElem?_eq_some_iff.mp hu2).1
      rw [List.size_toArray, List.size_toArray]
      omega
    have lt : ∀ c ∈ [z, TI, TO, i1, i2], c < s.heap.objs.size := fun c m => by
      obtain ⟨o, q, _⟩ := st.cell m
      exact Heap.lt_size q
    refine W.item i s _ E in1 ⟨st.zi, st.ti, st.to, ⟨st.l1, p⟩, ⟨st.l2, p2⟩⟩ fun T vs h1 tk pt big tup mid k1 => ⟨_, rfl, W.go elts kk tpos i T _ _ E mid fun h2 st2 k2 => ?_⟩
    obtain ⟨w1, w2, e1, e2, rfl⟩ := pt
    obtain rfl : w1 = u := Option.some.inj (e1.symm.trans (by simpa using hu))
    obtain rfl : w2 = u2 := Option.some.inj (e2.symm.trans (by simpa using hu2))
    obtain ⟨oT, gT, cT, dT⟩ := tup
    have new : ObjOk X.prog X.w (upd H T (.tup [x, y])) h2 T (.tup [x, y]) :=
      ⟨(by show 2 ≤ sizeLine; decide), [w1, w2], .cons ru (.cons ru2 .nil), oT, k2 T oT (W.apart i T h1 mid) gT, cT, dT⟩
    have sub : ∀ c, c ∉ [z, TI, TO, i1, i2] → c ∉ [z, TO, i1, i2] := fun c n m => n (by simp only [List.mem_cons, List.not_mem_nil, or_false] at m ⊢; rcases m with m | m | m | m <;> simp [m])
    have J := I.turnedNew (t' := tk) (ch := [z, TI, TO, i1, i2]) (fun c o nc q => k2 c o (sub c nc) (k1 c o (sub c nc) q)) own big new
    refine ⟨.ref T, _, J, rfl, ⟨T, x, y, rfl, I.hok.fresh big, rfl, fun l hl => by rw [I.tuple_inj hl hqx]; exact hx, fun l hl => by rw [I.tuple_inj hl hqy]; exact hy⟩, ⟨st2.1, st2.2.1, st2.2.2.1, st2.2.2.2.1.1, st2.2.2.2.2.1⟩, fun c m => ?_⟩
    rw [upd_ne (Nat.ne_of_lt (Nat.lt_of_lt_of_le (lt c m) big))]
    exact (own c m).1
  done := by
    rintro X rfl rfl rfl calm i pins s σ H E I own st ⟨xs, ys, hqx, hqy, hl, hl2⟩
    obtain ⟨its, rv, p, _⟩ := I.tuple hqx
    obtain ⟨its2, rv2, p2, _⟩ := I.tuple hqy
    have k1 := rv.length
    have k2 := rv2.length
    have hh := I.ok.hd calm
    have W := WalksT.zipD2 S (Draws.tuple (prog := X.prog) (w := X.w) (A := X.A.in1) hh i1 a na its.toArray) (Draws.tuple (prog := X.prog) (w := X.w) (A := X.A.in1) hh i2 b nb its2.toArray)
    have n : min its.toArray.size its2.toArray.size = i := by
      rw [List.size_toArray, List.size_toArray]
      omega
    refine W.done s _ E (by rw [n]; exact ⟨st.zi, st.ti, st.to, ⟨st.l1, p⟩, ⟨st.l2, p2⟩⟩) fun h' tk k => ⟨rfl, I.turnedL (t' := tk) (ch := [z, TI, TO, i1, i2]) (fun c o hb q => k c o (fun m => hb (by simp only [List.mem_cons, List.not_mem_nil, or_false] at m ⊢; rcases m with m | m | m | m <;> simp [m])) q) own⟩
  self A i s Q E st h := wpAny_pyIter_zip st.zi h
def iZipV (K : PySem.W.Frag) (ta : TA) : TI := fun σ H R => ta σ H fun vs H1 => ∃ a b xs ys, vs = [.ref a, .ref b] ∧ SqT K H1 a xs ∧ SqT K H1 b ys ∧ R (ItZv K a b) H1
theorem pi_zipV {X : Cx} {e e2 : Expr} {ta : TA} {p pos tpos : Pos} {elts : List Expr} {kk : Nat} (hg : Gl X "zip") (hm : X.mg "zip" = none) (ha : PA X [e, e2] ta)
    (hs : starEach [e, e2] X.env = (false, eval e X.env) :: starEach [e2] X.env := by rfl) (hpl : (backTo pos (starEach [e2] X.env)).any (·.1) = false := by rfl) :
    PI X (.Tuple elts kk tpos) (.Call (.Name "zip" p) [e, e2] [] pos) (iZipV X.K ta) where
  run pins s σ H R I h := by
    refine Call_ (ld_blt I hg hm PyProof.Rows.boot_zip (PyProof.Rows.callWith_type1 (thn (ha.run pos pins s σ H _ I h) ?_) hs hpl))
    rintro us s1 ⟨vs, H1, I1, r1, a, b, xs, ys, rfl, hqx, hqy, q⟩
    obtain ⟨u, u2, rfl, ra, rb⟩ := vals2 r1
    cases ra
    cases rb
    obtain ⟨its, rv, p1, _⟩ := I1.tuple hqx
    obtain ⟨its2, rv2, p2, _⟩ := I1.tuple hqy
    obtain ⟨oa, ga, _⟩ := id p1
    obtain ⟨ob, gb, _⟩ := id p2
    have la := Heap.lt_size ga
    have lb := Heap.lt_size gb
    refine zip_begins2 (begins_tuple a its.toArray) (begins_tuple b its2.toArray) p1 p2 fun h' hz hTI hTO h1 h2 hsz hk => wpAny_pyIter_zip hz ?_
    refine ⟨s1.heap.objs.size + 4, [s1.heap.objs.size + 4, s1.heap.objs.size + 2, s1.heap.objs.size + 3, s1.heap.objs.size, s1.heap.objs.size + 1], _, _, H1, rfl, I1.kept (t' := s1.toks) hk, turn_zv (zsep _ a b la lb) (Nat.ne_of_lt la) (Nat.ne_of_lt (Nat.lt_succ_of_lt lb)), ⟨hz, hTI, ⟨_, _, hTO⟩, ⟨_, h1, rfl, rfl⟩, ⟨_, h2, rfl, rfl⟩⟩, fun c m => ?_, q⟩
    have above : s1.heap.objs.size ≤ c := by
      simp only [List.mem_cons, List.not_mem_nil, or_false] at m
      rcases m with rfl | rfl | rfl | rfl | rfl
      · exact Nat.le_add_right _ 4
      · exact Nat.le_add_right _ 2
      · exact Nat.le_add_right _ 3
      · exact Nat.le_refl _
      · exact Nat.le_add_right _ 1
    exact I1.fpOk above (I1.hok.fresh above)
theorem walk_zv {K : PySem.W.Frag} {a b : Addr} {xs ys : List V} (h : xs.length = ys.length) : Walk (ItZv K a b) xs.length (fun H => SqT K H a xs ∧ SqT K H b ys) (YPair (fun i => xs[i]?) (fun i => ys[i]?)) where
  goes i H hi := fun ⟨q1, q2⟩ => ⟨xs, ys, xs[i], ys[i]'(h ▸ hi), q1, q2, List.getElem?_eq_getElem hi, List.getElem?_eq_getElem _⟩
  stops H := fun ⟨q1, q2⟩ => ⟨xs, ys, q1, q2, rfl, h.symm⟩
  yields i H v H' _ := by
    rintro ⟨q1, q2⟩ ⟨T, x, y, rfl, n1, rfl, hx, hy⟩
    exact ⟨T, x, y, rfl, n1, rfl, hx xs q1, hy ys q2⟩
end Ev

/-! ## Data of tuples, to be compared -/
namespace Ev
open PySem PySem.Spec PyProof.Rows L2
mutual
theorem da_dp2 {K : PySem.W.Frag} {H : Hp} : ∀ {v : V} {d : PyData}, tupD d = true → Da K H v d → Dp K H v d
  | _, .none, _, h => by
    cases h
    exact .non
  | _, .bool b, _, h => by
    cases h
    exact .bl b
  | _, .int i, _, h => by
    cases h
    exact .int i
  | _, .str x, _, h => by
    cases h
    exact .str x
  | _, .list ds, t, _ => by
    rw [tupD] at t
    cases t
  | _, .tuple ds, t, h => by
    rw [tupD] at t
    cases h with
    | tup hs ha => exact .tup hs (daAll_dp2 t ha)
  | _, .dict _, t, _ => by
    rw [tupD] at t
    cases t
theorem daAll_dp2 {K : PySem.W.Frag} {H : Hp} : ∀ {vs : List V} {ds : List PyData}, tupDs ds = true → DaAll K H vs ds → DpAll K H vs ds
  | _, [], _, h => by
    cases h
    exact .nil
  | _, d :: ds, t, h => by
    rw [tupDs, Bool.and_eq_true] at t
    cases h with
    | cons h1 h2 => exact .cons (da_dp2 t.1 h1) (daAll_dp2 t.2 h2)
end
end Ev

/-! ## k84: means; what must be so of weights and of a blind pair -/
namespace Ev
open PySem PySem.Spec PyProof.Rows L2 Pm
def clq (n : Nat) (e : Nat × Nat) : Nat × Nat := (Nat.gcd e.1 n, e.2 % Nat.gcd e.1 n)
def spMn (K : PySem.W.Frag) : Sp := fun vs H Q _ => ∃ (x v : V) (X : List Int) (e : Nat × Nat), vs = [x, v] ∧ 1 ≤ X.length ∧ X.length ≤ 1000 ∧ Da K H x (.tuple (X.map PyData.int)) ∧ Da K H v (cDq e) ∧ ∀ H' u, Same H H' → Da K H' u (.tuple [.int (sumC X.length (clq X.length e) X), .int ((ticksC X.length (clq X.length e)).length : Nat)]) → Q u H'
def spIm (K : PySem.W.Frag) : Sp := fun vs H Q _ => ∃ (x y z : V) (X : List Int) (S : List (Nat × Nat)) (fs : List (Int × Int)), vs = [x, y, z] ∧ 1 ≤ X.length ∧ X.length ≤ 48 ∧ S.length ≤ 12 ∧ Da K H x (.tuple (S.map cDq)) ∧ Da K H y (.tuple (fs.map frD)) ∧ Da K H z (.tuple (X.map PyData.int)) ∧ (∀ e ∈ fs, e.1.natAbs < 2 ^ 60 ∧ e.2.natAbs < 2 ^ 60) ∧ (∀ t, (Pm.gd X t).natAbs < 2 ^ 61) ∧ isWt X.length (clsOf X.length S) (.tuple (fs.map frD)) = true ∧ ∀ H', Same H H' → Q (.bl true) H'
def spBr (K : PySem.W.Frag) : Sp := fun vs H Q _ => ∃ (n : Nat) (x v : V) (S : List (Nat × Nat)) (X1 X2 : List Int), vs = [.int (n : Nat), x, v] ∧ 1 ≤ n ∧ n ≤ 48 ∧ 1 ≤ S.length ∧ S.length ≤ 12 ∧ Da K H x (.tuple (S.map cDq)) ∧ Da K H v (pairQ X1 X2) ∧ isBl n (clsOf n S) (pairQ X1 X2) = true ∧ SmP (pairQ X1 X2) ∧ (∀ d, isWt n (clsOf n S) d = false) ∧ ∀ H', Same H H' → Q (.bl true) H'
theorem scMn : FnScope ["_law_values", "_law_sampler", "_law_ticks", "_law_tick"] ["_law_values", "_law_sampler"] (defScope (topS 29)) := ⟨rfl, rfl, rfl, by decide +kernel, rfl, by decide +kernel, by decide +kernel⟩
theorem scIm : FnScope ["_law_some", "_law_found", "_law_values", "_law_above", "_law_below_here", "_law_sampler", "_law_part", "_law_total", "_law_many"] ["_law_some", "_law_found", "_law_values"] (defScope (topS 30)) := ⟨rfl, rfl, rfl, by decide +kernel, rfl, by decide +kernel, by decide +kernel⟩
theorem scBr : FnScope ["_law_count", "_law_some", "_law_pair", "_law_sampler", "_law_value"] ["_law_count", "_law_some", "_law_pair"] (defScope (topS 31)) := ⟨rfl, rfl, rfl, by decide +kernel, rfl, by decide +kernel, by decide +kernel⟩
section
variable {P : Program} {w : World} {K : PySem.W.Frag} {mg : Str → Option Value} {base : Heap}
theorem ok_mn (D : Def K mg "_law_mean" (topS 29) ["_law_values", "_law_sampler"]) (C__law_seen : Cal P w K mg base 3 "_law_seen" ["_law_count", "_law_sampler"] (spSnQ K)) (nb : NB mg) : Cal P w K mg base 4 "_law_mean" ["_law_values", "_law_sampler"] (spMn K) := by
  refine D.ok scMn (fun vs H Q E h => ?_) (fun fa cdv A outer sh H vs Q E hr gd h => ?_)
  · obtain ⟨x, v, X, e, rfl, _⟩ := h
    rfl
  · obtain ⟨x, v, X, e, rfl, h1, h2, hx, hv, q⟩ := h
    refine ⟨_, (pss_cons (ps_set (i := 2) scMn.nd rfl (.inl rfl) (pcall C__law_seen (hr.mono (by omega)) gd (by rfl) (pa_cons (pe_callB call_len_seq (by rfl) nb.at PySem.boot_len (pa_cons (pv 0) pa_nil)) (pa_cons (pv 1) pa_nil))))
      (pss_one (ps_ret (pe_tup (pa_cons (pe_callB (cr_sum rfl) (by rfl) nb.at (by decide +kernel) (pa_cons (pe_lc (own := [("_law_tick", 3)]) (g := (gName 3)) (tt := tYes) (te := (tOp (rIxT K) (tVar 0) (tVar 3))) rfl scMn.nd (pi_list (pv 2)) (blkOk_by (N := ["_law_values", "_law_sampler", "_law_ticks", "_law_tick"]) (sc := defScope (topS 29)) (by decide +kernel)) (fun _ _ _ _ _ => (pg_name (i := 3) scMn.nd rfl (Or.inl rfl))) (fun _ _ _ _ _ => pts_nil) (fun _ _ _ _ _ => (pe_ix ix_tup (pv 0) (pv 3) (fun _ _ => rfl)))) pa_nil)) (pa_cons (pe_callB call_len_seq (by rfl) nb.at PySem.boot_len (pa_cons (pv 2) pa_nil)) pa_nil)))))), ?_⟩
    have sl := sizeLine_eq
    obtain ⟨c, rfl, hc⟩ := da_vals hx
    have hcX : ((X.map V.int).length : Nat) = X.length := List.length_map _
    refine ⟨_, rfl, c, _, rfl, .inr hc, _, rfl, X.length, v, e, by rw [hcX]; rfl, h1, h2, hv, fun H1 l s1 hl => ?_⟩
    have hg := Nat.gcd_pos_of_pos_right e.1 h1
    have hdv : (clq X.length e).1 ∣ X.length := Nat.gcd_dvd_right ..
    have hlt : (clq X.length e).2 < (clq X.length e).1 := Nat.mod_lt _ hg
    have hl : H1 l = some (.lst ((ticksC X.length (clq X.length e)).map nV)) := hl
    have hle : (clq X.length e).1 ≤ X.length := Nat.le_of_dvd h1 hdv
    have tl := (ticksC_len hlt hdv h1).2
    generalize clq X.length e = g at q hl hdv hlt hle tl
    dsimp only [gName, tRet, tTup, tCons, tCB]
    refine lcI_list (a := l) (xs := (ticksC X.length g).map nV) (ys := (ticksC X.length g).map fun t => .int (Pm.gd X t)) (by rw [List.length_map, List.length_map]) (fun Q hq => ⟨_, rfl, hq⟩) (.inl (.inl hl)) (by rw [List.length_map]; omega) (fun k x y hx hy H' R s' hR => ?_) (fun H4 D4 s4 nD4 eD4 => ?_)
    · rw [List.getElem?_map] at hx hy
      obtain ⟨t, h1, rfl⟩ := Option.map_eq_some_iff.mp hx
      rw [h1] at hy
      cases hy
      have := ticksC_lt hlt hle (List.mem_of_getElem? h1)
      exact ⟨rfl, _, rfl, _, rfl, c, _, (t : Nat), _, rfl, rfl, seqT_mono (s1.trans s') hc, atI_gd this, hR _ Same.rfl'⟩
    · refine ⟨D4, (ticksC X.length g).map fun t => Pm.gd X t, rfl, .inl (.inl (by rw [eD4, List.map_map]; rfl)), ?_⟩
      refine ⟨_, rfl, l, _, rfl, .inl (.inl (.inl (s4 _ _ hl))), (by show 2 ≤ sizeLine; decide), fun t nt => q _ (.ref t) (s1.trans (s4.trans (same_put nt))) ?_⟩
      rw [List.length_map]
      exact .tup (.inl (.inl upd_same)) (.cons (.int _) (.cons (.int _) .nil))
theorem ok_im (D : Def K mg "_law_is_mean" (topS 30) ["_law_some", "_law_found", "_law_values"]) (C__law_mean : Cal P w K mg base 4 "_law_mean" ["_law_values", "_law_sampler"] (spMn K)) (nb : NB mg) : Cal P w K mg base 5 "_law_is_mean" ["_law_some", "_law_found", "_law_values"] (spIm K) := by
  refine D.ok scIm (fun vs H Q E h => ?_) (fun fa cdv A outer sh H vs Q E hr gd h => ?_)
  · obtain ⟨x, y, z, X, S, fs, rfl, _⟩ := h
    rfl
  · obtain ⟨x, y, z, X, S, fs, rfl, h1, h48, hS, hx, hy, hz, hfs, hX, hwt, q⟩ := h
    refine ⟨_, (pss_cons (ps_asg (pe_tup (pa_cons pe_int (pa_cons pe_int pa_nil))) (pg_tup rfl (pgs_cons (pg_name (i := 3) scIm.nd rfl (Or.inl rfl)) (pgs_cons (pg_name (i := 4) scIm.nd rfl (Or.inl rfl)) pgs_nil))))
      (pss_cons (ps_for PassesOwn.never rfl (pi_zipV rfl nb.at (pa_cons (pv 0) (pa_cons (pv 1) pa_nil))) (pg_tup rfl (pgs_cons (pg_name (i := 5) scIm.nd rfl (Or.inl rfl)) (pgs_cons (pg_name (i := 6) scIm.nd rfl (Or.inl rfl)) pgs_nil)))
        (pss_cons (ps_asg (pcall C__law_mean (hr.mono (by omega)) gd (by rfl) (pa_cons (pv 2) (pa_cons (pv 5) pa_nil))) (pg_tup rfl (pgs_cons (pg_name (i := 7) scIm.nd rfl (Or.inl rfl)) (pgs_cons (pg_name (i := 8) scIm.nd rfl (Or.inl rfl)) pgs_nil))))
        (pss_cons (ps_set (i := 3) scIm.nd rfl (.inl rfl) (pe_op op_add (pe_op op_mulW (pe_op op_mulW (pv 3) (pe_ix ix_tup (pv 6) pe_int (fun _ _ => rfl))) (pv 8)) (pe_op op_mulW (pe_op op_mulW (pe_ix ix_tup (pv 6) pe_int (fun _ _ => rfl)) (pv 7)) (pv 4))))
        (pss_one (ps_set (i := 4) scIm.nd rfl (.inl rfl) (pe_op op_mulW (pe_op op_mulW (pv 4) (pe_ix ix_tup (pv 6) pe_int (fun _ _ => rfl))) (pv 8)))))))
      (pss_one (ps_ret (pe_cmpR op_eq (pe_op op_mulW (pv 3) (pe_callB call_len_seq (by rfl) nb.at PySem.boot_len (pa_cons (pv 2) pa_nil))) (pe_op op_mulW (pe_callB (cr_sumT rfl) (by rfl) nb.at (by decide +kernel) (pa_cons (pv 2) pa_nil)) (pv 4)) (nomark _)))))), ?_⟩
    have sl := sizeLine_eq
    obtain ⟨P, c, hP, hc, hr⟩ := wt_ex hwt
    rw [map_toFr] at hr
    have hlen : fs.length = (clsOf X.length S).length := by
      have h : (decide ((fs.map frD).length = (clsOf X.length S).length) && _) = true := hwt
      rw [Bool.and_eq_true, decide_eq_true_eq, List.length_map] at h
      exact h.1
    have hpos : ∀ e ∈ fs, 0 < e.2 := fun e he => by
      have h : (decide ((fs.map frD).length = (clsOf X.length S).length) && ((fs.map frD).all isFr && _)) = true := hwt
      rw [Bool.and_eq_true, Bool.and_eq_true, List.all_eq_true] at h
      have z : (decide (0 < e.2) && decide (Nat.gcd e.1.natAbs e.2.natAbs = 1)) = true := h.2.1 (frD e) (List.mem_map.mpr ⟨e, he, rfl⟩)
      rw [Bool.and_eq_true, decide_eq_true_eq] at z
      exact z.1
    have hcl : (clsOf X.length S).length = S.length := clsOf_len
    have hcp := clsOf_pos (S := S) h1
    have hdv := clsOf_dvd (n := X.length) (S := S)
    obtain ⟨a, xs, rfl, ha, had⟩ : ∃ a xs, x = .ref a ∧ SqT K H a xs ∧ DaAll K H xs (S.map cDq) := by
      cases hx with
      | @tup a xs _ ht hall => exact ⟨a, xs, rfl, ht, hall⟩
    obtain ⟨b, ys, rfl, hb, hbd⟩ : ∃ a xs, y = .ref a ∧ SqT K H a xs ∧ DaAll K H xs (fs.map frD) := by
      cases hy with
      | @tup a xs _ ht hall => exact ⟨a, xs, rfl, ht, hall⟩
    have hal := daAll_len had
    have hbl := daAll_len hbd
    rw [List.length_map] at hal hbl
    have total := wex_dot hc fun t => Pm.gd X t
    have tot : ∀ k (h : k < S.length), (Pm.sumN X.length fun t => (indC (clsOf X.length S) k t : Int) * Pm.gd X t) = sumC X.length (clq X.length S[k]) X := fun k h => by
      have hk : k < (clsOf X.length S).length := by omega
      have e : (clsOf X.length S)[k] = clq X.length S[k] := by
        have := clsOf_at (n := X.length) h
        rw [List.getElem?_eq_getElem hk] at this
        exact Option.some.inj this
      have z := sumC_ind (n := X.length) hk (hcp _ (List.getElem_mem hk)).2.1 X
      rw [e] at z
      exact z.symm
    refine ⟨(by show 2 ≤ sizeLine; decide), fun t0 nt => ⟨t0, _, rfl, .inl (.inl upd_same), rfl, _, _, rfl, _, _, rfl, rfl, ?_⟩⟩
    have st := same_put (o := .tup [.int 0, .int 1]) nt
    generalize upd H t0 (.tup [.int 0, .int 1]) = H1 at st ⊢
    refine ⟨_, rfl, _, rfl, a, b, _, _, rfl, seqT_mono st ha, seqT_mono st hb, for_it (walk_zv (K := K) (a := a) (b := b) (xs := xs) (ys := ys) (by omega)) (fun k σ' H' => ∃ (A B : Int) (y5 y6 y7 y8 : Option V), σ' = [some (.ref a), some (.ref b), some z, some (.int A), some (.int B), y5, y6, y7, y8] ∧ Same H1 H' ∧ A * (P * (X.length : Nat)) = B * Pm.sumN k (fun j => c j * Pm.sumN X.length fun t => (indC (clsOf X.length S) j t : Int) * Pm.gd X t) ∧ 0 < B ∧ A.natAbs < 2 ^ (200 * k + 2) ∧ B.natAbs < 2 ^ (200 * k + 2)) ⟨0, 1, _, _, _, _, rfl, Same.rfl', by rw [Pm.sumN]; omega, by decide, by decide, by decide⟩ (fun k σ' H' _ ⟨_, _, _, _, _, _, _, s', _⟩ => ⟨seqT_mono (st.trans s') ha, seqT_mono (st.trans s') hb⟩) ?_ ?_⟩
    · rintro k v σ' H2 H3 hk ⟨A, B, y5, y6, y7, y8, rfl, s2, hAB, hB0, hA, hB⟩ ⟨T, x, y, rfl, nT, rfl, ex, ey⟩
      have hkS : k < S.length := by omega
      have hkf : k < fs.length := by omega
      have sT := same_put (o := .tup [x, y]) nT
      obtain ⟨d1, e1, v1⟩ := daAll_at (had.mono (st.trans (s2.trans sT))) ex
      rw [List.getElem?_map, List.getElem?_eq_getElem hkS] at e1
      cases e1
      obtain ⟨d2, e2, v2⟩ := daAll_at (hbd.mono (st.trans (s2.trans sT))) ey
      rw [List.getElem?_map, List.getElem?_eq_getElem hkf] at e2
      cases e2
      obtain ⟨b2, rfl, hb2⟩ := da_fr v2
      have cs := hfs _ (List.getElem_mem hkf)
      have cp := hpos _ (List.getElem_mem hkf)
      have ce := clsOf_at (n := X.length) hkS
      have rr := hr k _ _ ce (List.getElem?_eq_getElem hkf)
      have gm := List.mem_of_getElem? ce
      have gp := hcp _ gm
      have gdv := hdv _ gm
      have tl := ticksC_len gp.2.1 gdv h1
      have tk := tot k hkS
      have ta := sumC_abs (B := 2 ^ 61) gp.2.1 gdv h1 fun t => Nat.le_of_lt (hX t)
      have ce2 : (Nat.gcd S[k].1 X.length, S[k].2 % Nat.gcd S[k].1 X.length) = clq X.length S[k] := rfl
      rw [ce2] at tl ta gp
      generalize fs[k] = f at hb2 cs cp rr
      refine ⟨T, _, rfl, .inl (.inl upd_same), rfl, _, _, rfl, _, _, rfl, rfl, ?_⟩
      refine ⟨_, rfl, _, rfl, z, x, X, S[k], rfl, h1, by omega, hz.mono (st.trans (s2.trans sT)), v1, fun H4 u s4 hu => ?_⟩
      have rr : c k * f.2 = f.1 * ((clq X.length S[k]).1 : Nat) * P := rr
      generalize clq X.length S[k] = g at tl ta gp tk hu rr
      have mA : ((ticksC X.length g).length : Int) * (g.1 : Nat) = (X.length : Nat) := by
        have := tl.1
        omega
      have mB := tl.2
      generalize sumC X.length g X = tt at tk ta hu
      generalize (ticksC X.length g).length = mm at mA mB hu
      have mm0 : 0 < mm := Nat.pos_of_ne_zero fun z => by rw [z] at mA; simp at mA; omega
      obtain ⟨b3, rfl, hb3⟩ : ∃ b, u = .ref b ∧ SqT K H4 b [.int tt, .int (mm : Nat)] := da_fr (e := (tt, (mm : Nat))) hu
      refine ⟨b3, _, rfl, hb3, rfl, _, _, rfl, _, _, rfl, rfl, ?_⟩
      have hb4 := seqT_mono s4 hb2
      have k9 : ∀ {x : Nat}, x < 2 ^ (200 * k + 2) → x < 2 ^ 8000 := fun h => Nat.lt_of_lt_of_le h (Nat.pow_le_pow_right (by decide) (by omega))
      have tb : tt.natAbs < 2 ^ 70 := by
        have : X.length * 2 ^ 61 ≤ 48 * 2 ^ 61 := Nat.mul_le_mul_right _ h48
        have : 48 * 2 ^ 61 < 2 ^ 70 := by decide +kernel
        omega
      have mb : ((mm : Nat) : Int).natAbs < 2 ^ 6 := by rw [Int.natAbs_natCast]; omega
      have w1 : (A * f.2).natAbs < 2 ^ 8100 := by
        rw [Int.natAbs_mul]
        have := Nat.mul_lt_mul'' (k9 hA) cs.2
        rw [← Nat.pow_add] at this
        exact Nat.lt_of_lt_of_le this (Nat.pow_le_pow_right (by decide) (by decide))
      have w2 : (f.1 * tt).natAbs < 2 ^ 130 := by
        rw [Int.natAbs_mul]
        have := Nat.mul_lt_mul'' cs.1 tb
        rwa [← Nat.pow_add] at this
      have w3 : (B * f.2).natAbs < 2 ^ 8100 := by
        rw [Int.natAbs_mul]
        have := Nat.mul_lt_mul'' (k9 hB) cs.2
        rw [← Nat.pow_add] at this
        exact Nat.lt_of_lt_of_le this (Nat.pow_le_pow_right (by decide) (by decide))
      have up : (2 : Nat) ^ (200 * (k + 1) + 2) = 2 ^ (200 * k + 2) * (2 ^ 60 * (2 ^ 70 * 2 ^ 70)) := by rw [← Nat.pow_add, ← Nat.pow_add, ← Nat.pow_add, show 200 * (k + 1) + 2 = 200 * k + 2 + (60 + (70 + 70)) by omega]
      refine ⟨_, rfl, _, rfl, b2, _, (1 : Nat), _, rfl, rfl, hb4, rfl, _, _, rfl, rfl, wide_mul (k9 hA) cs.2 (by decide) (by decide) (by decide), _, rfl, _, _, rfl, rfl, wide_mul w1 mb (by decide) (by decide) (by decide), _, rfl, b2, _, (0 : Nat), _, rfl, rfl, hb4, rfl, _, rfl, _, _, rfl, rfl, wide_mul cs.1 tb (by decide) (by decide) (by decide), _, rfl, _, _, rfl, rfl, wide_mul w2 (k9 hB) (by decide) (by decide) (by decide), _, _, rfl, rfl, ?_⟩
      refine ⟨_, rfl, _, rfl, b2, _, (1 : Nat), _, rfl, rfl, hb4, rfl, _, _, rfl, rfl, wide_mul (k9 hB) cs.2 (by decide) (by decide) (by decide), _, rfl, _, _, rfl, rfl, wide_mul w3 mb (by decide) (by decide) (by decide), _, _, _, _, _, _, rfl, s2.trans (sT.trans s4), ?_, Int.mul_pos (Int.mul_pos hB0 cp) (by omega), ?_, ?_⟩
      · rw [Pm.sumN, tk]
        generalize Pm.sumN k _ = s at hAB
        show (A * f.2 * (mm : Nat) + f.1 * tt * B) * (P * (X.length : Nat)) = B * f.2 * (mm : Nat) * (s + c k * tt)
        rw [← mA] at hAB ⊢
        grind
      · rw [up]
        exact (mean_bound hA hB cs.1 cs.2 tb (by omega)).1
      · rw [up]
        exact (mean_bound hA hB cs.1 cs.2 tb (by omega)).2
    · rintro σ' H2 ⟨A, B, y5, y6, y7, y8, rfl, s2, hAB, hB0, hA, hB⟩
      rw [hal, ← hcl, ← total] at hAB
      obtain ⟨cz, rfl, hcz⟩ := da_vals (hz.mono (st.trans s2))
      have hk : 200 * xs.length + 2 ≤ 8000 := by omega
      have k9 : ∀ {x : Nat}, x < 2 ^ (200 * xs.length + 2) → x < 2 ^ 8000 := fun h => Nat.lt_of_lt_of_le h (Nat.pow_le_pow_right (by decide) hk)
      have sb : X.sum.natAbs < 2 ^ 70 := by
        have a := sum_abs (l := X) (B := 2 ^ 61) fun x hx => by
          obtain ⟨t, _, rfl⟩ := mem_gd hx
          exact Nat.le_of_lt (hX t)
        have : X.length * 2 ^ 61 ≤ 48 * 2 ^ 61 := Nat.mul_le_mul_right _ h48
        have : 48 * 2 ^ 61 < 2 ^ 70 := by decide +kernel
        omega
      refine ⟨_, rfl, _, rfl, cz, _, rfl, .inr hcz, _, _, rfl, rfl, wide_mul (b := 70) (k9 hA) (by rw [Int.natAbs_natCast, List.length_map]; omega) (by decide) (by decide) (by decide), _, rfl, cz, X, rfl, hcz, _, rfl, _, _, rfl, rfl, wide_mul sb (k9 hB) (by decide) (by decide) (by decide), rfl, ?_⟩
      rw [sumN_all X X.length rfl] at hAB
      have e : A * (((X.map V.int).length : Nat) : Int) = X.sum * B := by
        rw [List.length_map]
        refine Int.eq_of_mul_eq_mul_left (show P ≠ 0 by omega) ?_
        grind
      have z : ∀ bb : Bool, bb = true → Q (.bl bb) H2 := fun _ h => h ▸ q H2 (st.trans s2)
      exact z _ (decide_eq_true (congrArg V.int e))
theorem smP_ones {n : Nat} : SmP (.tuple (List.replicate n (frD (1, 1)))) := fun ds e d hd _ => by
  cases e
  rw [(List.mem_replicate.mp hd).2]
  exact ⟨by decide +kernel, by decide +kernel⟩
theorem ok_br (D : Def K mg "_law_blind_right" (topS 31) ["_law_count", "_law_some", "_law_pair"]) (C__law_mean : Cal P w K mg base 4 "_law_mean" ["_law_values", "_law_sampler"] (spMn K)) (C_shows_blind : Cal P w K mg base 3 "shows_blind" ["length", "samplers", "value"] (spSbP K)) (C_shows_weights : Cal P w K mg base 4 "shows_weights" ["length", "samplers", "value"] (spSwP K)) (nb : NB mg) : Cal P w K mg base 5 "_law_blind_right" ["_law_count", "_law_some", "_law_pair"] (spBr K) := by
  refine D.ok scBr (fun vs H Q E h => ?_) (fun fa cdv A outer sh H vs Q E hr gd h => ?_)
  · obtain ⟨n, x, v, S, X1, X2, rfl, _⟩ := h
    rfl
  · obtain ⟨n, x, v, S, X1, X2, rfl, hn, hn48, hS1, hS, hx0, hv, hbl, hsm, hno, q⟩ := h
    refine ⟨_, (pss_cons (ps_if (PW.pt (pw_or (pt_cmpR op_eq (pe_callB (cr_sumT rfl) (by rfl) nb.at (by decide +kernel) (pa_cons (pe_ix ix_tup (pv 2) pe_int (fun _ _ => rfl)) pa_nil)) (pe_callB (cr_sumT rfl) (by rfl) nb.at (by decide +kernel) (pa_cons (pe_ix ix_tup (pv 2) pe_int (fun _ _ => rfl)) pa_nil)) (nomark _)) (pw_or1 (pt_not (pt_val (pcall C_shows_blind (hr.mono (by omega)) gd (by rfl) (pa_cons (pv 0) (pa_cons (pv 1) (pa_cons (pv 2) pa_nil)))))))))
        (pss_one (ps_ret pe_bl))
        pss_nil)
      (pss_cons (ps_for PassesOwn.never rfl (pi_tup (pv 1)) (pg_name (i := 3) scBr.nd rfl (Or.inl rfl))
        (pss_one (ps_if (pt_cmpR (op_neD hr.units) (pcall C__law_mean (hr.mono (by omega)) gd (by rfl) (pa_cons (pe_ix ix_tup (pv 2) pe_int (fun _ _ => rfl)) (pa_cons (pv 3) pa_nil))) (pcall C__law_mean (hr.mono (by omega)) gd (by rfl) (pa_cons (pe_ix ix_tup (pv 2) pe_int (fun _ _ => rfl)) (pa_cons (pv 3) pa_nil))) (nomark _))
          (pss_one (ps_ret pe_bl))
          pss_nil)))
      (pss_one (ps_ret (pe_not (pe_callB (cr_any rfl) (by rfl) nb.at (by decide +kernel) (pa_cons (pe_lc (own := [("_law_value", 4)]) (g := (gName 4)) (tt := tYes) (te := (tCall (spSwP K) [] E0 (tCons (tVar 0) (tCons (tVar 1) (tCons (tVar 4) tNil))))) rfl scBr.nd (pi_tup (pe_tup (pa_cons pe_non (pa_cons (pe_op op_repTA (pe_tup (pa_cons (pe_tup (pa_cons pe_int (pa_cons pe_int pa_nil))) pa_nil)) (pe_callB call_len_seq (by rfl) nb.at PySem.boot_len (pa_cons (pv 1) pa_nil))) (pa_cons (pv 2) pa_nil))))) (blkOk_by (N := ["_law_count", "_law_some", "_law_pair", "_law_sampler", "_law_value"]) (sc := defScope (topS 31)) (by decide +kernel)) (fun _ _ _ _ _ => (pg_name (i := 4) scBr.nd rfl (Or.inl rfl))) (fun _ _ _ _ _ => pts_nil) (fun _ _ _ _ _ => (pcall C_shows_weights (hr.mono (by omega)) gd (by rfl) (pa_cons (pv 0) (pa_cons (pv 1) (pa_cons (pv 4) pa_nil)))))) pa_nil))))))), ?_⟩
    have sl := sizeLine_eq
    obtain ⟨hl1, hl2, hall, hne⟩ := bl_parts hbl
    obtain ⟨a, xs, rfl, ha, had⟩ : ∃ a xs, x = .ref a ∧ SqT K H a xs ∧ DaAll K H xs (S.map cDq) := by
      cases hx0 with
      | @tup a xs _ ht hall => exact ⟨a, xs, rfl, ht, hall⟩
    have hal := daAll_len had
    rw [List.length_map] at hal
    obtain ⟨b, c1, c2, rfl, hb, hc1, hc2, hd1, hd2⟩ := da_pairQ hv
    have e : decide (V.int X1.sum = V.int X2.sum) = false := decide_eq_false fun h => hne (V.int.inj h)
    refine ⟨_, rfl, b, _, (0 : Nat), .ref c1, rfl, rfl, hb, rfl, c1, X1, rfl, hc1, _, rfl, b, _, (1 : Nat), .ref c2, rfl, rfl, hb, rfl, c2, X2, rfl, hc2, rfl, _, rfl, ?_⟩
    rw [e]
    refine iteF ⟨_, rfl, _, rfl, _, rfl, n, .ref a, .ref b, S, _, rfl, hn, hn48, hS, hx0, hv, fun H1 s1 => ⟨_, rfl, ?_⟩⟩
    rw [hbl]
    refine iteF ?_
    refine ⟨_, rfl, a, rfl, ⟨xs, seqT_mono s1 ha⟩, for_tup (K := K) (a := a) (xs := xs) (fun k σ' H' => ∃ y3 y4 : Option V, σ' = [some (.int (n : Nat)), some (.ref a), some (.ref b), y3, y4] ∧ Same H H') ⟨_, _, rfl, s1⟩ (fun k σ' H' _ ⟨_, _, _, s'⟩ => seqT_mono s' ha) ?_ ?_⟩
    · rintro k z σ' H2 hk ⟨y3, y4, rfl, s2⟩
      obtain ⟨d, hd, hvd⟩ := daAll_at (had.mono s2) hk
      have hkS : k < S.length := by
        have := (List.getElem?_eq_some_iff.mp hk).1
        omega
      rw [List.getElem?_map, List.getElem?_eq_getElem hkS] at hd
      cases hd
      have gm : clq n S[k] ∈ clsOf n S := List.mem_of_getElem? (clsOf_at hkS)
      have hs := hall _ gm
      refine ⟨_, rfl, b, _, (0 : Nat), .ref c1, rfl, rfl, seqT_mono s2 hb, rfl, _, rfl, .ref c1, z, X1, S[k], rfl, by omega, by omega, hd1.mono s2, hvd, fun H3 u3 s3 h3 => ?_⟩
      refine ⟨_, rfl, b, _, (1 : Nat), .ref c2, rfl, rfl, seqT_mono (s2.trans s3) hb, rfl, _, rfl, .ref c2, z, X2, S[k], rfl, by omega, by omega, hd2.mono (s2.trans s3), hvd.mono s3, fun H4 u4 s4 h4 => ?_⟩
      rw [hl1, hs] at h3
      rw [hl2] at h4
      refine ⟨_, _, da_dp2 (tupD_two _ _) (h3.mono s4), da_dp2 (tupD_two _ _) h4, shp_two _ _, shp_two _ _, ?_⟩
      rw [PySem.SeqAt.eqv_refl _ (SeqAt.canLay_of_shaped (shp_two _ _))]
      refine ⟨_, rfl, iteF ⟨some z, _, rfl, s2.trans (s3.trans s4)⟩⟩
    · rintro σ' H2 ⟨y3, y4, rfl, s2⟩
      dsimp only [tRet, tNotV, tCB, tCons]
      refine lcI_tupM (ys := [.bl false, .bl false, .bl false]) (PP := fun H3 t ys => ∃ m, Same H H3 ∧ SqT K H3 t ys ∧ ys = [.non, m, .ref b] ∧ Da K H3 m (.tuple (List.replicate xs.length (frD (1, 1))))) (fun R hR => ?_) (fun H3 t us ⟨m, s3, ht, e, hm⟩ => ?_)
      · refine ⟨(by show 2 ≤ sizeLine; decide), fun t1 n1 => ⟨(by show 1 ≤ sizeLine; decide), fun t2 n2 => ?_⟩⟩
        have w1 := same_put (o := .tup [.int 1, .int 1]) n1
        have g1 : upd H2 t1 (.tup [.int 1, .int 1]) t1 = some (.tup [.int 1, .int 1]) := upd_same
        generalize upd H2 t1 (.tup [.int 1, .int 1]) = G1 at w1 g1 n2 ⊢
        have w2 := same_put (o := .tup [.ref t1]) n2
        have g2 : upd G1 t2 (.tup [.ref t1]) t2 = some (.tup [.ref t1]) := upd_same
        generalize upd G1 t2 (.tup [.ref t1]) = G2 at w2 g2 ⊢
        have d1 : Da K G2 (.ref t1) (frD (1, 1)) := .tup (.inl (.inl (w2 _ _ g1))) (.cons (.int _) (.cons (.int _) .nil))
        refine ⟨_, rfl, a, xs, rfl, .inr (seqT_mono (s2.trans (w1.trans w2)) ha), ?_⟩
        have fin : ∀ m G3, Same G2 G3 → Da K G3 m (.tuple (List.replicate xs.length (frD (1, 1)))) → tCons (tVar 2) tNil [some (.int (n : Nat)), some (.ref a), some (.ref b), y3, y4] G3 fun vs H' => (.non :: m :: vs).length ≤ sizeLine ∧ ∀ t, H' t = none → R (.ref t) (upd H' t (.tup (.non :: m :: vs))) := fun m G3 w3 hm => by
          refine ⟨_, rfl, (by show 3 ≤ sizeLine; decide), fun t nt => hR _ t _ ⟨m, s2.trans (w1.trans (w2.trans (w3.trans (same_put nt)))), .inl (.inl upd_same), rfl, hm.mono (same_put nt)⟩⟩
        by_cases h1 : xs.length = 1
        · refine .inr ⟨t2, [.ref t1], _, rfl, rfl, .inl (.inl g2), by simp, .inl ⟨by rw [h1]; rfl, fin _ _ Same.rfl' ?_⟩⟩
          rw [h1]
          exact .tup (.inl (.inl g2)) (.cons d1 .nil)
        · refine .inl ⟨t2, _, [.ref t1], rfl, rfl, .inl (.inl g2), by simp, by omega, by omega, by show 1 ≤ 1000; decide, fun p np => fin _ _ (same_put np) ?_⟩
          rw [Int.toNat_natCast]
          exact .tup (.inl (.inl upd_same)) (daAll_repQ (d1.mono (same_put np)) xs.length)
      · subst e
        refine ⟨ht, by show 3 ≤ 1000000; decide, rfl, fun k x y hx hy H' R' s' hR => ?_, fun H' D s' nD eD => ⟨D, [false, false, false], rfl, .inl (.inl eD), _, rfl, q H' (s3.trans s')⟩⟩
        have hX : Da K H' (.ref a) (.tuple (S.map cDq)) := hx0.mono (s3.trans s')
        have go : ∀ d, Da K H' x d → SmP d → y = .bl false → tCall (spSwP K) [] E0 (tCons (tVar 0) (tCons (tVar 1) (tCons (tVar 4) tNil))) [some (.int (n : Nat)), some (.ref a), some (.ref b), y3, some x] H' R' := fun d hd hs e => by
          refine ⟨_, rfl, _, rfl, _, rfl, n, .ref a, x, S, d, rfl, hn, hn48, hS, hX, hd, hs, fun H'' s'' => ?_⟩
          rw [hno d, ← e]
          exact hR _ s''
        refine ⟨rfl, ?_⟩
        match k, hx, hy with
        | 0, hx, hy =>
          cases hx
          cases hy
          exact go .none .non (fun ds e => by cases e) rfl
        | 1, hx, hy =>
          cases hx
          cases hy
          exact go _ (hm.mono s') smP_ones rfl
        | 2, hx, hy =>
          cases hx
          cases hy
          exact go _ (hv.mono (s3.trans s')) hsm rfl
        | k + 3, hx, hy => cases hx
end
end Ev

/-! ## What the script is drawn from -/
namespace Ev
open PySem PySem.Spec PyProof.Rows L2
theorem scSt : FnScope ["_law_script", "_law_k", "_law_cell", "_law_great"] ["_law_script", "_law_k"] (defScope (topS 21)) := ⟨rfl, rfl, rfl, by decide +kernel, rfl, by decide +kernel, by decide +kernel⟩
theorem scDr : FnScope ["_law_draws_here", "_law_many", "_law_digit", "_law_step", "_law_prime", "_law_mixed"] ["_law_draws_here", "_law_many"] (defScope (topS 22)) := ⟨rfl, rfl, rfl, by decide +kernel, rfl, by decide +kernel, by decide +kernel⟩
theorem scPk : FnScope ["_law_draws_here", "_law_items"] ["_law_draws_here", "_law_items"] (defScope (topS 23)) := ⟨rfl, rfl, rfl, by decide +kernel, rfl, by decide +kernel, by decide +kernel⟩
theorem bigS : (0 : Int) < (10 ^ (60 : Int).toNat) ^ (5 : Int).toNat := by decide +kernel
section
variable {P : Program} {w : World} {K : PySem.W.Frag} {mg : Str → Option Value} {base : Heap}
theorem ok_draws (D : Def K mg "_law_draws" (topS 21) ["_law_script", "_law_k"]) (nb : NB mg) : Cal P w K mg base 1 "_law_draws" ["_law_script", "_law_k"] (spPotS K) := by
  refine D.ok scSt (fun vs H Q E h => ?_) (fun f cdv A outer s H vs Q E hr gd h => ?_)
  · obtain ⟨a, ns, k, rfl, _⟩ := h
    rfl
  · obtain ⟨a, ns, k, rfl, hS, k0, k1, q⟩ := h
    refine ⟨_, (pss_cons (ps_set (i := 2) scSt.nd rfl (.inl rfl) (pe_ifExp (pt_cmpR op_lt (pv 1) (pe_callB call_len_seq (by rfl) nb.at PySem.boot_len (pa_cons (pv 0) pa_nil)) (nomark _)) (pe_ix ix_list (pv 0) (pv 1) (fun _ _ => rfl)) (pe_op op_add (pe_op op_mul pe_int (pv 1)) pe_int)))
      (pss_cons (ps_set (i := 3) scSt.nd rfl (.inl rfl) (pe_op op_mul (pe_op op_mod (pe_callB call_abs (by rfl) nb.at (by decide +kernel) (pa_cons (pv 2) pa_nil)) (pe_op op_powG (pe_op op_pow pe_int pe_int) pe_int)) (pe_callTy call_int1 (by rfl) nb.at (by decide +kernel) (pa_cons (pe_cmpR op_ge (pe_callB call_abs (by rfl) nb.at (by decide +kernel) (pa_cons (pv 2) pa_nil)) (pe_op op_pow pe_int pe_int) (nomark _)) pa_nil))))
      (pss_one (ps_ret (pe_lst (pa_cons (pv 3) (pa_cons (pe_op op_mod (pe_op op_mul (pe_op op_add (pe_op op_add (pe_op op_mod (pv 2) pe_int) (pe_op op_mul (pe_op op_mul pe_int (pv 1)) (pv 1))) pe_int) pe_int) pe_int) (pa_cons pe_int pa_nil)))))))), ?_⟩
    refine ⟨_, rfl, _, rfl, a, _, rfl, .inl hS, k, _, rfl, rfl, _, rfl, ite2 (fun e => ?a) (fun e => ?b)⟩
    case' a =>
      have hk : k < ((ns.map V.int).length : Int) := of_decide_eq_true e
      rw [List.length_map] at hk
      have hk' : k.toNat < ns.length := by omega
      have g : atI (ns.map V.int) k = some (.int ns[k.toNat]) := by
        have z : (ns.map V.int)[k.toNat]? = some (.int ns[k.toNat]) := by
          rw [List.getElem?_map, List.getElem?_eq_getElem hk']
          rfl
        have y := atI_nat z
        rw [Int.toNat_of_nonneg k0] at y
        exact y
      refine ⟨_, rfl, _, rfl, a, _, k, _, rfl, rfl, hS, g, ?_⟩
    case' b =>
      refine ⟨_, rfl, 7, k, rfl, rfl, .inl ⟨by decide, by decide⟩, _, _, rfl, rfl, ?_⟩
    all_goals
      refine ⟨_, rfl, _, rfl, 10, 60, rfl, rfl, ⟨by decide, by decide, by decide⟩, _, 5, rfl, rfl, ⟨by decide, by decide +kernel⟩, _, _, rfl, rfl, bigS, ?_⟩
      refine ⟨_, rfl, _, rfl, 10, 18, rfl, rfl, ⟨by decide, by decide, by decide⟩, _, _, rfl, rfl, .inr ⟨_, rfl, _, _, rfl, rfl, .inr (flag_in _), ?_⟩⟩
      refine ⟨_, rfl, _, rfl, _, _, rfl, rfl, (show (0 : Int) < 2305843009213693951 by decide), _, rfl, _, _, rfl, rfl, .inl ⟨by decide, by decide⟩, _, rfl, _, _, rfl, rfl, .inr ⟨by omega, by omega⟩, ?_⟩
      refine ⟨_, _, rfl, rfl, _, _, rfl, rfl, _, _, rfl, rfl, .inr ⟨by decide, by decide⟩, _, _, rfl, rfl, (show (0 : Int) < 2305843009213693921 by decide), (by show 3 ≤ sizeLine; decide), fun p np => q _ p np (same_put np) ⟨_, upd_same, ?_⟩⟩
      exact ⟨_, _, 0, rfl, own_nn _ _ _ bigS, Int.emod_nonneg _ (by decide), Int.emod_lt_of_pos _ (by decide), Int.le_refl 0, by decide⟩
theorem ok_below (D : Def K mg "_law_below" (topS 22) ["_law_draws_here", "_law_many"]) (nb : NB mg) : Cal P w K mg base 1 "_law_below" ["_law_draws_here", "_law_many"] spDraw := by
  refine D.ok scDr (fun vs H Q E h => ?_) (fun f cdv A outer s H vs Q E hr gd h => ?_)
  · obtain ⟨p, m, n, rfl, _⟩ := h
    rfl
  · obtain ⟨p, m, n, rfl, ⟨xs, hp, x, y, c, rfl, x0, y0, y1, c0, c1⟩, hn, m0, m1, q⟩ := h
    have hL : SqL K H p [.int x, .int y, .int c] := .inl (.inl hp)
    refine ⟨_, (pss_cons (ps_if (pt_cmpR op_gt (pe_ix ix_list (pv 0) pe_int (fun _ _ => rfl)) pe_int (nomark _))
        (pss_cons (ps_set (i := 2) scDr.nd rfl (.inl rfl) (pe_op op_mod (pe_ix ix_list (pv 0) pe_int (fun _ _ => rfl)) (pv 1)))
        (pss_cons (ps_asg (pe_op op_fdivW (pe_ix ix_list (pv 0) pe_int (fun _ _ => rfl)) (pv 1)) (pg_sub (pv 0) pe_int set_list))
        (pss_one (ps_ret (pv 2)))))
        pss_nil)
      (pss_cons (ps_set (i := 3) scDr.nd rfl (.inl rfl) (pe_op op_add (pe_ix ix_list (pv 0) pe_int (fun _ _ => rfl)) pe_int))
      (pss_cons (ps_asg (pv 3) (pg_sub (pv 0) pe_int set_list))
      (pss_cons (ps_set (i := 4) scDr.nd rfl (.inl rfl) (pe_ix ix_list (pe_lst (pa_cons pe_int (pa_cons pe_int (pa_cons pe_int (pa_cons pe_int pa_nil))))) (pe_op op_mod (pv 3) pe_int) (fun _ _ => rfl)))
      (pss_cons (ps_set (i := 5) scDr.nd rfl (.inl rfl) (pe_op op_mod (pe_op op_add (pe_op op_add (pe_ix ix_list (pv 0) pe_int (fun _ _ => rfl)) (pe_op op_mul (pe_op op_mul pe_int (pv 3)) (pv 3))) (pe_op op_mul pe_int (pv 3))) (pv 4)))
      (pss_cons (ps_set (i := 5) scDr.nd rfl (.inl rfl) (pe_op op_mod (pe_op op_pow (pv 5) pe_int) (pv 4)))
      (pss_one (ps_ret (pe_op op_mod (pe_op op_add (pe_op op_fdivW (pv 5) pe_int) (pe_op op_mul (pe_op op_fdivW (pv 5) pe_int) pe_int)) (pv 1)))))))))), ?_⟩
    refine ⟨_, rfl, p, _, 0, .int x, rfl, rfl, hL, rfl, _, _, rfl, rfl, _, rfl, ite2 (fun e => ?_) (fun e => ?_)⟩
    · have hx : 0 < x := of_decide_eq_true e
      refine ⟨_, rfl, p, _, 0, .int x, rfl, rfl, hL, rfl, _, rfl, _, _, rfl, rfl, m0, ?_⟩
      refine ⟨_, rfl, p, _, 0, .int x, rfl, rfl, hL, rfl, _, rfl, _, _, rfl, rfl, ⟨m0, m1⟩, _, rfl, p, _, 0, 0, rfl, rfl, hp, rfl, _, rfl, ?_⟩
      exact q _ _ Bu.put ⟨_, upd_same, _, _, _, rfl, Int.ediv_nonneg x0 (Int.le_of_lt m0), y0, y1, c0, by omega⟩ (Int.emod_nonneg _ (by omega)) (Int.emod_lt_of_pos _ m0)
    · have c0' : 0 ≤ c + 1 := by omega
      have c1' : c + 1 ≤ 10000001 := by omega
      refine ⟨_, rfl, p, _, 2, .int c, rfl, rfl, hL, rfl, _, _, rfl, rfl, _, rfl, _, rfl, p, _, 2, 2, rfl, rfl, hp, rfl, ?_⟩
      refine ⟨(by show 4 ≤ sizeLine; decide), fun t nt => ?_⟩
      have npt : p ≠ t := fun z => by
        rw [← z, upd_same] at nt
        cases nt
      let H2 : Hp := upd (upd H p (.lst [.int x, .int y, .int (c + 1)])) t (.lst [.int 2305843009213693951, .int 999999999989, .int 1000000000039, .int 67280421310721])
      have h2 : H2 p = some (.lst [.int x, .int y, .int (c + 1)]) := by
        show upd _ t _ p = _
        rw [upd_ne npt, upd_same]
      have hL2 : SqL K H2 p [.int x, .int y, .int (c + 1)] := .inl (.inl h2)
      have hb : Bu p H H2 := Bu.trans Bu.put (Bu.new nt)
      have hT : SqL K H2 t [.int 2305843009213693951, .int 999999999989, .int 1000000000039, .int 67280421310721] := .inl (.inl upd_same)
      obtain ⟨pr, hpr, p1, p2⟩ : ∃ pr : Int, atI [V.int 2305843009213693951, .int 999999999989, .int 1000000000039, .int 67280421310721] ((c + 1) % 4) = some (.int pr) ∧ 0 < pr ∧ pr ≤ 2305843009213693951 := by
        have r0 : 0 ≤ (c + 1) % 4 := Int.emod_nonneg _ (by decide)
        have r1 : (c + 1) % 4 < 4 := Int.emod_lt_of_pos _ (by decide)
        generalize (c + 1) % 4 = r at r0 r1
        have : r = 0 ∨ r = 1 ∨ r = 2 ∨ r = 3 := by omega
        rcases this with rfl | rfl | rfl | rfl <;> exact ⟨_, rfl, by decide, by decide⟩
      dsimp only [gName]
      refine ⟨_, rfl, _, _, rfl, rfl, (show (0 : Int) < 4 by decide), t, _, _, _, rfl, rfl, hT, hpr, ?_⟩
      have m3 : 0 ≤ 7919 * (c + 1) := by omega
      refine ⟨_, rfl, p, _, 1, .int y, rfl, rfl, hL2, rfl, _, rfl, _, _, rfl, rfl, .inl ⟨by decide, by decide⟩, _, rfl, _, _, rfl, rfl, .inr ⟨by omega, by omega⟩, ?_⟩
      refine ⟨_, _, rfl, rfl, _, rfl, _, _, rfl, rfl, .inl ⟨by decide, by decide⟩, _, _, rfl, rfl, _, rfl, _, _, rfl, rfl, p1, ?_⟩
      have w0 : 0 ≤ (y + 7919 * (c + 1) * (c + 1) + 65537 * (c + 1)) % pr := Int.emod_nonneg _ (by omega)
      have w1 : (y + 7919 * (c + 1) * (c + 1) + 65537 * (c + 1)) % pr < pr := Int.emod_lt_of_pos _ p1
      have fin := fun d => q H2 d hb ⟨_, h2, x, y, c + 1, rfl, x0, y0, y1, c0', by omega⟩
      show gName 5 (V.int ((y + 7919 * (c + 1) * (c + 1) + 65537 * (c + 1)) % pr)) _ _ _
      generalize (y + 7919 * (c + 1) * (c + 1) + 65537 * (c + 1)) % pr = u at w0 w1 ⊢
      refine ⟨_, rfl, _, _, rfl, rfl, ⟨by decide, by decide, by omega⟩, _, rfl, _, _, rfl, rfl, p1, ?_⟩
      have z0 : 0 ≤ u ^ (5 : Int).toNat % pr := Int.emod_nonneg _ (by omega)
      have z1 : u ^ (5 : Int).toNat % pr < pr := Int.emod_lt_of_pos _ p1
      show gName 5 (V.int (u ^ (5 : Int).toNat % pr)) _ _ _
      generalize u ^ (5 : Int).toNat % pr = v at z0 z1 ⊢
      refine ⟨_, rfl, _, _, rfl, rfl, ⟨by decide, by decide +kernel⟩, _, rfl, _, _, rfl, rfl, ⟨by decide, by decide +kernel⟩, _, _, rfl, rfl, .inr ⟨by decide, by decide⟩, _, _, rfl, rfl, _, rfl, _, _, rfl, rfl, m0, ?_⟩
      exact fin _ (Int.emod_nonneg _ (by omega)) (Int.emod_lt_of_pos _ m0)
theorem ok_pick (D : Def K mg "_law_pick" (topS 23) ["_law_draws_here", "_law_items"]) (C__law_below : Cal P w K mg base 1 "_law_below" ["_law_draws_here", "_law_many"] spDraw) (nb : NB mg) :
    Cal P w K mg base 2 "_law_pick" ["_law_draws_here", "_law_items"] (spPick K) := by
  refine D.ok scPk (fun vs H Q E h => ?_) (fun f cdv A outer s H vs Q E hr gd h => ?_)
  · obtain ⟨p, r, zs, n, rfl, _⟩ := h
    rfl
  · obtain ⟨p, r, zs, n, rfl, hp, hn, ne, hS, z0, z1, q⟩ := h
    refine ⟨_, (pss_one (ps_ret (pe_ix ix_list (pv 1) (pcall C__law_below (hr.mono (by omega)) gd (by rfl) (pa_cons (pv 0) (pa_cons (pe_callB call_len_seq (by rfl) nb.at PySem.boot_len (pa_cons (pv 1) pa_nil)) pa_nil))) (fun _ _ => rfl)))), ?_⟩
    have hz : 0 < zs.length := by
      cases zs with
      | nil => exact absurd rfl z0
      | cons _ _ => exact Nat.succ_pos _
    refine ⟨_, rfl, _, rfl, _, rfl, r, zs, rfl, .inl hS, p, _, n, rfl, hp, hn, by omega, log_i (k := 20) (by omega) (by omega) (by decide) (by decide), fun H' d hb hy d0 d1 => ?_⟩
    have hd : d.toNat < zs.length := by omega
    have g : atI zs d = some zs[d.toNat] := by
      have y := atI_nat (List.getElem?_eq_getElem hd)
      rw [Int.toNat_of_nonneg d0] at y
      exact y
    exact ⟨r, zs, d, _, rfl, rfl, bu_seq ne.symm hb hS, g, q H' _ hb hy (List.getElem_mem hd)⟩
end
end Ev

/-! ## in a drawn order -/
namespace Ev
open PySem PySem.Spec PyProof.Rows L2
theorem perm_er {α : Type} : ∀ (l : List α) (k : Nat) (h : k < l.length), List.Perm ([l[k]] ++ l.eraseIdx k) l
  | [], _, h => by simp at h
  | x :: l, 0, _ => .refl _
  | x :: l, k + 1, h => by
    have h' : k < l.length := by simpa using h
    exact (List.Perm.swap x l[k] (l.eraseIdx k)).trans ((perm_er l k h').cons x)
def spSh (K : PySem.W.Frag) : Sp := fun vs H Q _ => ∃ (p q : Addr) (xs : List V) (n : Nat), vs = [.ref p, .ref q] ∧ PotA p n H ∧ n + xs.length ≤ 9000000 ∧ p ≠ q ∧ SqL K H q xs ∧ xs.length ≤ 1000 ∧
  ∀ H' l ys, Bu p H H' → PotA p (n + xs.length) H' → H l = none → l ≠ p → H' l = some (.lst ys) → ys.Perm xs → Q (.ref l) H'
theorem scSh : FnScope ["_law_draws_here", "_law_items", "_law_left", "_law_found"] ["_law_draws_here", "_law_items"] (defScope (topS 26)) := ⟨rfl, rfl, rfl, by decide +kernel, rfl, by decide +kernel, by decide +kernel⟩
section
variable {P : Program} {w : World} {K : PySem.W.Frag} {mg : Str → Option Value} {base : Heap}
theorem ok_sh (D : Def K mg "_law_shuffled" (topS 26) ["_law_draws_here", "_law_items"]) (C__law_below : Cal P w K mg base 1 "_law_below" ["_law_draws_here", "_law_many"] spDraw) (nb : NB mg) : Cal P w K mg base 2 "_law_shuffled" ["_law_draws_here", "_law_items"] (spSh K) := by
  refine D.ok scSh (fun vs H Q E h => ?_) (fun f cdv A outer s H vs Q E hr gd h => ?_)
  · obtain ⟨p, q, xs, n, rfl, _⟩ := h
    rfl
  · obtain ⟨p, q, xs, n, rfl, hp, hn, npq, hS, hx, k⟩ := h
    refine ⟨_, (pss_cons (ps_par (i := 2) (j := 3) rfl scSh.nd rfl rfl (by decide) rfl rfl (pa_cons (pe_callTy call_list_of (by rfl) nb.at (by decide +kernel) (pa_cons (pv 1) pa_nil)) (pa_cons (pe_lst pa_nil) pa_nil)) (by rfl))
      (pss_cons (ps_while PassesOwn.never (pt_cmpR (op_neL0 hr.units0) (pv 2) (pe_lst pa_nil) (nomark _))
        (pss_one (ps_expr (pe_bm PySem.F.plainAttrs_list PySem.F.slot_list_append PySem.F.type_list_append mt_append (pv 3) (pa_cons (pe_bm PySem.F.plainAttrs_list PySem.F.slot_list_pop PySem.F.type_list_pop mt_popAt (pv 2) (pa_cons (pcall C__law_below (hr.mono (by omega)) gd (by rfl) (pa_cons (pv 0) (pa_cons (pe_callB call_len_seq (by rfl) nb.at PySem.boot_len (pa_cons (pv 2) pa_nil)) pa_nil))) pa_nil)) pa_nil)))))
      (pss_one (ps_ret (pv 3))))), ?_⟩
    have yz := sizeLine_eq
    refine ⟨_, rfl, q, xs, rfl, .inl hS, fun a na => ⟨Nat.zero_le _, fun l nl => ⟨_, _, rfl, ?_⟩⟩⟩
    have npa := hp.ne na
    have npl := (hp.new na).ne nl
    have nal : a ≠ l := fun z => by
      rw [← z, upd_same] at nl
      cases nl
    have nlH : H l = none := by
      rw [upd_ne nal.symm] at nl
      exact nl
    refine while_w (fun m σ' H' => ∃ zs ys : List V, σ' = [some (.ref p), some (.ref q), some (.ref a), some (.ref l)] ∧ PotA p (n + ys.length) H' ∧ H' a = some (.lst zs) ∧ H' l = some (.lst ys) ∧ zs.length = m ∧ (ys ++ zs).Perm xs ∧ Bu p H H')
      ⟨xs.length, xs, [], rfl, (hp.new na).new nl, by rw [upd_ne nal]; exact upd_same, upd_same, rfl, .refl _, fun b o nb e => by
        rw [upd_ne (ne_of_none e nlH), upd_ne (ne_of_none e na)]
        exact e⟩ ?_ ?_
    · rintro m σ' H' ⟨zs, ys, rfl, hp', ha, hl, hm, pm, hb⟩
      have hlen := pm.length_eq
      rw [List.length_append] at hlen
      refine ⟨_, rfl, Nat.zero_le _, fun e ne => ⟨a, e, zs, rfl, rfl, .inl (.inl (same_put ne _ _ ha)), .inl (.inl upd_same), _, rfl, ?_⟩⟩
      have se := same_put (o := .lst []) ne
      cases zs with
      | nil =>
        refine iteF ⟨_, rfl, ?_⟩
        rw [List.length_nil, Nat.add_zero] at hlen
        rw [List.append_nil] at pm
        exact k _ l ys (hb.trans (Bu.of se)) (by rw [← hlen]; exact hp'.same se) nlH npl.symm (se _ _ hl) pm
      | cons z zs =>
        rw [decide_eq_false (show ¬ z :: zs = [] from nofun)]
        refine iteT ⟨_, rfl, .inl ⟨rfl, _, .inl (.inl (se _ _ hl))⟩, _, rfl, .inl ⟨rfl, _, .inl (.inl (se _ _ ha))⟩, _, rfl, _, rfl, a, z :: zs, rfl, .inl (.inl (.inl (se _ _ ha))), p, (((z :: zs).length : Nat) : Int), _, rfl, hp'.same se, by omega, by rw [List.length_cons]; omega, log_i (k := 20) (by omega) (by omega) (by decide) (by decide), fun H2 d b2 hp2 d0 d1 => ?_⟩
        have ha2 := b2 _ _ npa.symm (se _ _ ha)
        have hl2 := b2 _ _ npl.symm (se _ _ hl)
        have hk : d.toNat < (z :: zs).length := by omega
        refine ⟨a, z :: zs, d, d.toNat, (z :: zs)[d.toNat], rfl, rfl, ha2, by omega, by omega, ?_, List.getElem?_eq_getElem hk, ?_⟩
        · exact seq_nn d0 d1
        · refine ⟨l, ys, _, rfl, rfl, by rw [upd_ne nal.symm]; exact hl2, by omega, _, ?_, (z :: zs).eraseIdx d.toNat, ys ++ [(z :: zs)[d.toNat]], rfl, ?_, by rw [upd_ne nal, upd_same], upd_same, rfl, ?_, fun b o nb e' => ?_⟩
          · rw [List.length_eraseIdx_of_lt hk]
            omega
          · rw [List.length_append]
            exact (hp2.put npa).put npl
          · rw [List.append_assoc]
            exact ((perm_er (z :: zs) d.toNat hk).append_left ys).trans pm
          · rw [upd_ne (ne_of_none e' nlH), upd_ne (ne_of_none e' na)]
            exact b2 _ _ nb (se _ _ (hb _ _ nb e'))
    · rintro σ' H' Q1 Q2 hQ ⟨v, hv, h0, h⟩
      refine ⟨v, hv, h0, fun e ne => ?_⟩
      obtain ⟨a', b', xs', e1, e2, s1, s2, kk, ek, hh⟩ := h e ne
      exact ⟨a', b', xs', e1, e2, s1, s2, kk, ek, hQ _ _ hh⟩
end
end Ev

/-! ## drawn samplers, as many as wanted -/
namespace Ev
open PySem PySem.Spec PyProof.Rows L2
structure Sq3 (S : List (Nat × Nat)) : Prop where
  pos : ∀ e ∈ S, 0 < e.1
  lt : ∀ e ∈ S, e.2 < e.1
  le : ∀ e ∈ S, e.1 ≤ 1000000
theorem da_prQ {K : PySem.W.Frag} {H : Hp} {t : Addr} {e : Nat × Nat} (h : H t = some (.tup [.int (e.1 : Nat), .int (e.2 : Nat)])) : Da K H (.ref t) (cDq e) := .tup (.inl (.inl h)) (.cons (.int _) (.cons (.int _) .nil))
theorem da_permQ {K : PySem.W.Frag} {H : Hp} {ys us : List V} (h : ys.Perm us) : ∀ {S : List (Nat × Nat)}, DaAll K H us (S.map cDq) → ∃ S' : List (Nat × Nat), S'.Perm S ∧ DaAll K H ys (S'.map cDq) := by
  induction h with
  | nil =>
    intro S h
    cases S with
    | nil => exact ⟨[], .nil, .nil⟩
    | cons e S => cases h
  | cons x _ ih =>
    intro S h
    cases S with
    | nil => cases h
    | cons e S =>
      cases h with
      | cons h t =>
        obtain ⟨S', p, d⟩ := ih t
        exact ⟨e :: S', p.cons e, .cons h d⟩
  | swap x y l =>
    intro S h
    match S, h with
    | e :: f :: S, .cons h1 (.cons h2 t) => exact ⟨f :: e :: S, .swap e f S, .cons h2 (.cons h1 t)⟩
  | trans _ _ ih1 ih2 =>
    intro S h
    obtain ⟨S2, p2, d2⟩ := ih2 h
    obtain ⟨S1, p1, d1⟩ := ih1 d2
    exact ⟨S1, p1.trans p2, d1⟩
theorem da_eraseQ {K : PySem.W.Frag} {H : Hp} : ∀ (i : Nat) {us : List V} {S : List (Nat × Nat)}, DaAll K H us (S.map cDq) → DaAll K H (us.eraseIdx i) ((S.eraseIdx i).map cDq)
  | _, [], [], _ => .nil
  | 0, _ :: _, _ :: _, .cons _ t => t
  | i + 1, _ :: _, _ :: _, .cons h t => .cons h (da_eraseQ i t)
theorem Sq3.perm {S S' : List (Nat × Nat)} (h : Sq3 S) (p : S'.Perm S) : Sq3 S' := ⟨fun e he => h.pos e (p.mem_iff.mp he), fun e he => h.lt e (p.mem_iff.mp he), fun e he => h.le e (p.mem_iff.mp he)⟩
/-- a length, and samplers -/
def spSamQ (K : PySem.W.Frag) : Sp := fun vs H Q _ => ∃ (p : Addr) (n mm : Nat), vs = [.ref p, .int (mm : Nat)] ∧ 1 ≤ mm ∧ mm ≤ 12 ∧ PotA p n H ∧ n + 100 ≤ 9000000 ∧ ∀ H' t (c : Nat) u (S : List (Nat × Nat)), Bu p H H' → PotA p (n + 100) H' → H' t = some (.tup [.int (c : Nat), u]) → Da K H' u (.tuple (S.map cDq)) → 1 ≤ c → c ≤ 48 → 1 ≤ S.length → S.length ≤ mm → Sq3 S → Q (.ref t) H'
theorem scSamQ : FnScope ["_law_draws_here", "_law_many", "_law_period_of", "_law_found", "_law_count", "_law_step", "_law_part", "_law_start", "_law_turn", "_law_period"] ["_law_draws_here", "_law_many"] (defScope (topS 25)) := ⟨rfl, rfl, rfl, by decide +kernel, rfl, by decide +kernel, by decide +kernel⟩
/-- what stands while samplers are drawn -/
def perL : List V := [.int 1, .int 2, .int 3, .int 4, .int 5, .int 6, .int 8, .int 12, .int 16, .int 24, .int 48, .int 7, .int 9, .int 10]
structure SmQ (K : PySem.W.Frag) (p l r : Addr) (H0 H : Hp) (n : Nat) (S : List (Nat × Nat)) : Prop where
  b : Bu p H0 H
  hp : PotA p n H
  nl : H0 l = none
  npl : p ≠ l
  nrl : r ≠ l
  nrp : r ≠ p
  er : H r = some (.lst perL)
  el : ∃ us, H l = some (.lst us) ∧ DaAll K H us (S.map cDq)
  cl : Sq3 S
theorem SmQ.bu {K : PySem.W.Frag} {p l r : Addr} {H0 H H' : Hp} {n m : Nat} {S : List (Nat × Nat)} (T : SmQ K p l r H0 H n S) (b : Bu p H H') (h : PotA p m H') : SmQ K p l r H0 H' m S := by
  obtain ⟨us, e, d⟩ := T.el
  exact ⟨T.b.trans b, h, T.nl, T.npl, T.nrl, T.nrp, b _ _ T.nrp T.er, ⟨us, b _ _ T.npl.symm e, DaAll.kt (T.hp.kt b) (tup_cDq S) d⟩, T.cl⟩
theorem SmQ.same {K : PySem.W.Frag} {p l r : Addr} {H0 H H' : Hp} {n : Nat} {S : List (Nat × Nat)} (T : SmQ K p l r H0 H n S) (s : Same H H') : SmQ K p l r H0 H' n S := T.bu (Bu.of s) (T.hp.same s)
theorem SmQ.put {K : PySem.W.Frag} {p l r : Addr} {H0 H : Hp} {n : Nat} {S S' : List (Nat × Nat)} {us us' : List V} (T : SmQ K p l r H0 H n S) (e : H l = some (.lst us)) (d : DaAll K H us' (S'.map cDq)) (c : Sq3 S') : SmQ K p l r H0 (upd H l (.lst us')) n S' := by
  refine ⟨fun b o nb e' => ?_, T.hp.put T.npl, T.nl, T.npl, T.nrl, T.nrp, ?_, ⟨us', upd_same, DaAll.kt (Kt.put e) (tup_cDq S') d⟩, c⟩
  · rw [upd_ne (ne_of_none e' T.nl)]
    exact T.b _ _ nb e'
  · rw [upd_ne T.nrl]
    exact T.er
theorem SmQ.other {K : PySem.W.Frag} {p l r D : Addr} {H0 H : Hp} {n : Nat} {S : List (Nat × Nat)} (T : SmQ K p l r H0 H n S) (nD : H D = none) : SmQ K p D r H0 (upd H D (.lst [])) n [] := by
  have npD := T.hp.ne nD
  refine ⟨T.b.trans (Bu.of (same_put nD)), T.hp.new nD, ?_, npD, ?_, T.nrp, same_put nD _ _ T.er, ⟨[], upd_same, .nil⟩, ⟨fun _ h => absurd h List.not_mem_nil, fun _ h => absurd h List.not_mem_nil, fun _ h => absurd h List.not_mem_nil⟩⟩
  · cases e : H0 D with
    | none => rfl
    | some o =>
      have := T.b _ _ npD.symm e
      rw [nD] at this
      cases this
  · intro z
    have := T.er
    rw [z, nD] at this
    cases this
theorem Sq3.snoc {S : List (Nat × Nat)} (h : Sq3 S) {e : (Nat × Nat)} (h0 : 0 < e.1) (h1 : e.2 < e.1) (h2 : e.1 ≤ 1000000) : Sq3 (S ++ [e]) := by
  refine ⟨fun x hx => ?_, fun x hx => ?_, fun x hx => ?_⟩
  · rcases List.mem_append.mp hx with hx | hx
    · exact h.pos x hx
    · rw [List.mem_singleton.mp hx]
      exact h0
  · rcases List.mem_append.mp hx with hx | hx
    · exact h.lt x hx
    · rw [List.mem_singleton.mp hx]
      exact h1
  · rcases List.mem_append.mp hx with hx | hx
    · exact h.le x hx
    · rw [List.mem_singleton.mp hx]
      exact h2
theorem SmQ.snoc {K : PySem.W.Frag} {p l r t : Addr} {H0 H : Hp} {n : Nat} {S : List (Nat × Nat)} {e : (Nat × Nat)} {us : List V} (T : SmQ K p l r H0 H n S) (nt : H t = none) (el : H l = some (.lst us)) (da : DaAll K H us (S.map cDq)) (h0 : 0 < e.1) (h1 : e.2 < e.1) (h2 : e.1 ≤ 1000000) :
    SmQ K p l r H0 (upd (upd H t (.tup [.int (e.1 : Nat), .int (e.2 : Nat)])) l (.lst (us ++ [.ref t]))) n (S ++ [e]) := by
  have st := same_put (o := .tup [.int (e.1 : Nat), .int (e.2 : Nat)]) nt
  refine (T.same st).put (st _ _ el) ?_ (T.cl.snoc h0 h1 h2)
  rw [List.map_append]
  exact da_app (da.mono st) (.cons (da_prQ upd_same) .nil)
theorem eqv_nilQ (ds : List PyData) : PyData.eqv (.list ds) (.list []) = ds.isEmpty := by
  cases ds with
  | nil => rw [PyData.eqv, PyData.eqvAll]; rfl
  | cons d ds => rw [PyData.eqv, PyData.eqvAll]; rfl
theorem lay_cQ (S : List (Nat × Nat)) : PyData.canLayAll0 (S.map cDq) = true ∧ PyData.depthAll (S.map cDq) ≤ 1 := by
  induction S with
  | nil => exact ⟨by rw [List.map_nil, PyData.canLayAll0], by rw [List.map_nil, PyData.depthAll]; decide⟩
  | cons e S ih =>
    refine ⟨?_, ?_⟩
    · rw [List.map_cons, PyData.canLayAll0, ih.1, cDq, PyData.canLay0, PyData.canLayAll0, PyData.canLayAll0, PyData.canLayAll0, PyData.canLay0, PyData.canLay0]
      rfl
    · rw [List.map_cons, PyData.depthAll]
      refine Nat.max_le.mpr ⟨?_, ih.2⟩
      rw [cDq, PyData.depth, PyData.depthAll, PyData.depthAll, PyData.depthAll, PyData.depth, PyData.depth]
      decide
theorem shp_cQ (S : List (Nat × Nat)) : SeqAt.shaped (.list (S.map cDq)) = true := by
  have h := lay_cQ S
  unfold SeqAt.shaped
  rw [PyData.canLay0, h.1, PyData.depth, Bool.true_and]
  exact decide_eq_true (by omega)
theorem nil_shpQ : SeqAt.shaped (.list []) = true := by decide +kernel
theorem cut_sQ {t rest : TS} {D : Ends} {σ : L2.St} {H : Hp} (J : L2.St → Hp → Prop) (k : ∀ σ H, J σ H → rest D σ H) (h : (∀ σ H, J σ H → rest D σ H) → t { D with nx := rest D } σ H) : tSeq t rest D σ H := h k
section
variable {P : Program} {w : World} {K : PySem.W.Frag} {mg : Str → Option Value} {base : Heap}
theorem ok_samQ (D : Def K mg "_law_samplers" (topS 25) ["_law_draws_here", "_law_many"]) (C__law_below : Cal P w K mg base 1 "_law_below" ["_law_draws_here", "_law_many"] spDraw) (C__law_pick : Cal P w K mg base 2 "_law_pick" ["_law_draws_here", "_law_items"] (spPick K))
    (C__law_shuffled : Cal P w K mg base 2 "_law_shuffled" ["_law_draws_here", "_law_items"] (spSh K)) (nb : NB mg) : Cal P w K mg base 3 "_law_samplers" ["_law_draws_here", "_law_many"] (spSamQ K) := by
  refine D.ok scSamQ (fun vs H Q E h => ?_) (fun fa cdv A outer sh H vs Q E hr gd h => ?_)
  · obtain ⟨p, n, mm, rfl, _⟩ := h
    rfl
  · obtain ⟨p, n, mm, rfl, hm1, hm12, hp, hn, q⟩ := h
    refine ⟨_, (pss_cons (ps_par (i := 2) (j := 3) rfl scSamQ.nd rfl rfl (by decide) rfl rfl (pa_cons (pe_lst (pa_cons pe_int (pa_cons pe_int (pa_cons pe_int (pa_cons pe_int (pa_cons pe_int (pa_cons pe_int (pa_cons pe_int (pa_cons pe_int (pa_cons pe_int (pa_cons pe_int (pa_cons pe_int (pa_cons pe_int (pa_cons pe_int (pa_cons pe_int pa_nil))))))))))))))) (pa_cons (pe_lst pa_nil) pa_nil)) (by rfl))
      (pss_cons (ps_set (i := 4) scSamQ.nd rfl (.inr rfl) (pcall C__law_pick (hr.mono (by omega)) gd (by rfl) (pa_cons (pv 0) (pa_cons (pe_lst (pa_cons pe_int (pa_cons pe_int (pa_cons pe_int (pa_cons pe_int (pa_cons pe_int (pa_cons pe_int (pa_cons pe_int (pa_cons pe_int (pa_cons pe_int (pa_cons pe_int (pa_cons pe_int (pa_cons (pe_op op_add pe_int (pcall C__law_below (hr.mono (by omega)) gd (by rfl) (pa_cons (pv 0) (pa_cons pe_int pa_nil)))) pa_nil))))))))))))) pa_nil))))
      (pss_cons (ps_if (pt_cmpR op_eq (pcall C__law_below (hr.mono (by omega)) gd (by rfl) (pa_cons (pv 0) (pa_cons pe_int pa_nil))) pe_int (nomark _))
        (pss_cons (ps_set (i := 5) scSamQ.nd rfl (.inr rfl) (pcall C__law_pick (hr.mono (by omega)) gd (by rfl) (pa_cons (pv 0) (pa_cons (pe_lc (own := [("_law_part", 6)]) (g := (gName 6)) (tt := (tTest (tOp rEq (tOp (rI (fun _ j => 0 < j) fun i j => .int (i % j)) (tVar 4) (tVar 6)) (tC (.int 0))))) (te := (tVar 6)) rfl scSamQ.nd (pi_range2 rfl nb.at (pa_cons pe_int (pa_cons (pe_op op_add (pe_callB (call_min2 rfl) (by rfl) nb.at (by decide +kernel) (pa_cons (pv 4) (pa_cons (pv 1) pa_nil))) pe_int) pa_nil))) (blkOk_by (N := ["_law_draws_here", "_law_many", "_law_period_of", "_law_found", "_law_count", "_law_step", "_law_part", "_law_start", "_law_turn", "_law_period"]) (sc := defScope (topS 25)) (by decide +kernel)) (fun _ _ _ _ _ => (pg_name (i := 6) scSamQ.nd rfl (Or.inl rfl))) (fun _ _ _ _ _ => pts_one (pt_cmpR op_eq (pe_op op_mod (pv 4) (pv 6)) pe_int (nomark _))) (fun _ _ _ _ _ => (pv 6))) pa_nil))))
        (pss_cons (ps_setLc (i := 3) (own := [("_law_start", 7)]) (g := (gName 7)) (tt := tYes) (te := (tTup (tCons (tOp (rI CMulW fun i j => .int (i * j)) (tVar 5) (tCall (spPick K) [] E0 (tCons (tVar 0) (tCons (tLst (tCons (tC (.int 1)) (tCons (tC (.int 1)) (tCons (tC (.int 7)) tNil)))) tNil)))) (tCons (tVar 7) tNil)))) rfl scSamQ.nd rfl rfl (sw_true rfl rfl rfl rfl) (pi_range1 rfl nb.at (pa_cons (pv 5) pa_nil)) (blkOk_by (N := ["_law_draws_here", "_law_many", "_law_period_of", "_law_found", "_law_count", "_law_step", "_law_part", "_law_start", "_law_turn", "_law_period"]) (sc := defScope (topS 25)) (by decide +kernel)) (fun _ _ _ _ _ => (pg_name (i := 7) scSamQ.nd rfl (Or.inl rfl))) (fun _ _ _ _ _ => pts_nil) (fun _ _ _ _ _ => (pe_tup (pa_cons (pe_op op_mulW (pv 5) (pcall C__law_pick (hr.mono (by omega)) gd (by rfl) (pa_cons (pv 0) (pa_cons (pe_lst (pa_cons pe_int (pa_cons pe_int (pa_cons pe_int pa_nil)))) pa_nil)))) (pa_cons (pv 7) pa_nil)))))
        (pss_one (ps_if (pt_cmpR op_eq (pcall C__law_below (hr.mono (by omega)) gd (by rfl) (pa_cons (pv 0) (pa_cons pe_int pa_nil))) pe_int (nomark _))
          (pss_one (ps_expr (pe_bm PySem.F.plainAttrs_list PySem.F.slot_list_pop PySem.F.type_list_pop mt_popAt (pv 3) (pa_cons (pcall C__law_below (hr.mono (by omega)) gd (by rfl) (pa_cons (pv 0) (pa_cons (pe_callB call_len_seq (by rfl) nb.at PySem.boot_len (pa_cons (pv 3) pa_nil)) pa_nil))) pa_nil))))
          pss_nil))))
        pss_nil)
      (pss_cons (ps_for PassesOwn.never rfl (pi_range1 rfl nb.at (pa_cons (pe_callB (call_max2 rfl) (by rfl) nb.at (by decide +kernel) (pa_cons (pe_callTy call_int1 (by rfl) nb.at (by decide +kernel) (pa_cons (pe_cmpR (op_eqD hr.units) (pv 3) (pe_lst pa_nil) (nomark _)) pa_nil)) (pa_cons (pcall C__law_below (hr.mono (by omega)) gd (by rfl) (pa_cons (pv 0) (pa_cons (pe_op op_sub (pe_op op_add (pv 1) pe_int) (pe_callB call_len_seq (by rfl) nb.at PySem.boot_len (pa_cons (pv 3) pa_nil))) pa_nil))) pa_nil))) pa_nil)) (pg_name (i := 8) scSamQ.nd rfl (Or.inl rfl))
        (pss_cons (ps_set (i := 9) scSamQ.nd rfl (.inl rfl) (pcall C__law_pick (hr.mono (by omega)) gd (by rfl) (pa_cons (pv 0) (pa_cons (pe_op op_cat (pv 2) (pe_lst (pa_cons (pe_op op_add pe_int (pcall C__law_below (hr.mono (by omega)) gd (by rfl) (pa_cons (pv 0) (pa_cons pe_int pa_nil)))) (pa_cons pe_int (pa_cons (pe_op op_pow pe_int pe_int) pa_nil))))) pa_nil))))
        (pss_one (ps_expr (pe_bm PySem.F.plainAttrs_list PySem.F.slot_list_append PySem.F.type_list_append mt_append (pv 3) (pa_cons (pe_tup (pa_cons (pv 9) (pa_cons (pcall C__law_below (hr.mono (by omega)) gd (by rfl) (pa_cons (pv 0) (pa_cons (pv 9) pa_nil))) pa_nil))) pa_nil))))))
      (pss_one (ps_ret (pe_tup (pa_cons (pv 4) (pa_cons (pe_callTy call_tuple_of (by rfl) nb.at (by decide +kernel) (pa_cons (pcall C__law_shuffled (hr.mono (by omega)) gd (by rfl) (pa_cons (pv 0) (pa_cons (pv 3) pa_nil))) pa_nil)) pa_nil))))))))), ?_⟩
    have sl := sizeLine_eq
    refine ⟨(by show 14 ≤ sizeLine; decide), fun r nr => ⟨Nat.zero_le _, fun l nl => ⟨_, _, rfl, ?_⟩⟩⟩
    have npr := hp.ne nr
    have nrl : r ≠ l := fun z => by
      rw [← z, upd_same] at nl
      cases nl
    have nlH : H l = none := by
      rw [upd_ne nrl.symm] at nl
      exact nl
    have T1 : SmQ K p l r H (upd (upd H r (.lst perL)) l (.lst [])) n [] := ⟨Bu.of ((same_put nr).trans (same_put nl)), (hp.new nr).new nl, nlH, hp.ne nlH, nrl, npr.symm, by rw [upd_ne nrl]; exact upd_same, ⟨[], upd_same, .nil⟩, ⟨fun _ h => absurd h List.not_mem_nil, fun _ h => absurd h List.not_mem_nil, fun _ h => absurd h List.not_mem_nil⟩⟩
    unfold perL at T1
    generalize upd (upd H r _) l (.lst []) = H1 at T1 ⊢
    refine ⟨_, rfl, _, rfl, p, 48, _, rfl, T1.hp, by omega, by decide, by decide, fun H2 i b2 hp2 i0 i1 => ⟨_, _, rfl, rfl, (by show 12 ≤ sizeLine; decide), fun q2 nq2 => ⟨p, q2, _, _, rfl, hp2.new nq2, by omega, hp2.ne nq2, .inl (.inl upd_same), by simp, by show 12 ≤ 1000000; decide, fun H3 v b3 hp3 hvm => ?_⟩⟩⟩
    have T3 := ((T1.bu b2 hp2).same (same_put nq2)).bu b3 hp3
    obtain ⟨c, rfl, c1, c48⟩ : ∃ c : Nat, v = .int (c : Nat) ∧ 1 ≤ c ∧ c ≤ 48 := by
      simp only [List.mem_cons, List.not_mem_nil, or_false] at hvm
      rcases hvm with rfl | rfl | rfl | rfl | rfl | rfl | rfl | rfl | rfl | rfl | rfl | rfl
      · exact ⟨1, rfl, by decide, by decide⟩
      · exact ⟨2, rfl, by decide, by decide⟩
      · exact ⟨4, rfl, by decide, by decide⟩
      · exact ⟨6, rfl, by decide, by decide⟩
      · exact ⟨8, rfl, by decide, by decide⟩
      · exact ⟨12, rfl, by decide, by decide⟩
      · exact ⟨12, rfl, by decide, by decide⟩
      · exact ⟨24, rfl, by decide, by decide⟩
      · exact ⟨30, rfl, by decide, by decide⟩
      · exact ⟨36, rfl, by decide, by decide⟩
      · exact ⟨48, rfl, by decide, by decide⟩
      · exact ⟨(1 + i).toNat, by rw [Int.toNat_of_nonneg (by omega)], by omega, by omega⟩
    clear hvm b2 hp2 b3 hp3 nq2 T1
    dsimp only [gName]
    refine cut_sQ (fun σ' H' => ∃ (l : Addr) (S : List (Nat × Nat)) (y5 y6 y7 : Option V), σ' = [some (.ref p), some (.int (mm : Nat)), some (.ref r), some (.ref l), some (.int (c : Nat)), y5, y6, y7, none, none] ∧ SmQ K p l r H H' (n + 20) S ∧ S.length ≤ mm) ?_ (fun cont => ?_)
    · rintro σ' H4 ⟨l, S, y5, y6, y7, rfl, T, h5⟩
      obtain ⟨us, el, da⟩ := T.el
      have hul := daAll_len da
      rw [List.length_map] at hul
      refine ⟨_, rfl, Nat.zero_le _, fun e ne => ?_⟩
      have se := same_put (o := .lst []) ne
      have Te := T.same se
      refine ⟨_, _, .lst (.inl (.inl (se _ _ el))) (daAll_dp2 (tup_cDq S) (da.mono se)), .lst (.inl (.inl upd_same)) .nil, shp_cQ S, nil_shpQ, .inr ⟨_, rfl, _, rfl, _, rfl, _, _, rfl, rfl, _, rfl, l, us, rfl, .inl (.inl (.inl (se _ _ el))), _, _, rfl, rfl, p, _, _, rfl, Te.hp, by omega, by omega, log_i (k := 20) (by omega) (by omega) (by decide) (by decide), fun H6 j b6 hp6 j0 j1 => ⟨_, _, rfl, ?_⟩⟩⟩
      have T6 := Te.bu b6 hp6
      rw [eqv_nilQ]
      obtain ⟨m, hme, hm5, hm0⟩ : ∃ m : Nat, (if j > (if (S.map cDq).isEmpty = true then 1 else 0) then j else (if (S.map cDq).isEmpty = true then (1 : Int) else 0)) = (m : Nat) ∧ m + S.length ≤ mm ∧ (S = [] → 1 ≤ m) := by
        cases S with
        | nil =>
          rw [List.length_nil] at hul h5
          refine ⟨if j > 1 then j.toNat else 1, ?_, ?_, fun _ => by split <;> omega⟩
          · show (if j > 1 then j else 1) = _
            split <;> omega
          · rw [List.length_nil]
            split <;> omega
        | cons e S =>
          refine ⟨j.toNat, ?_, ?_, nofun⟩
          · show (if j > 0 then j else 0) = _
            split <;> omega
          · rw [List.length_cons] at hul h5 ⊢
            omega
      rw [hme]
      refine ⟨_, rfl, by omega, by omega, ?_⟩
      rw [Int.toNat_natCast]
      refine for_range (lo := 0) (n := m) (fun k σ' H' => ∃ (S' : List (Nat × Nat)) (y8 y9 : Option V), σ' = [some (.ref p), some (.int (mm : Nat)), some (.ref r), some (.ref l), some (.int (c : Nat)), y5, y6, y7, y8, y9] ∧ SmQ K p l r H H' (n + 21 + 3 * k) S' ∧ S'.length = S.length + k) ⟨S, _, _, rfl, ⟨T6.b, T6.hp.up (by omega), T6.nl, T6.npl, T6.nrl, T6.nrp, T6.er, T6.el, T6.cl⟩, rfl⟩ ?_ ?_
      · rintro k σ' H7 hk ⟨S', y8, y9, rfl, T7, hl7⟩
        dsimp only [gName]
        refine ⟨_, rfl, _, rfl, _, rfl, p, 60, _, rfl, T7.hp, by omega, by decide, by decide, fun H8 i b8 hp8 i0 i1 => ⟨_, _, rfl, rfl, _, _, rfl, rfl, ⟨by decide, by decide, by decide⟩, (by show 3 ≤ sizeLine; decide), fun e1 ne1 => ?_⟩⟩
        have T8 := T7.bu b8 hp8
        have T9 := T8.same (same_put (o := .lst [.int (1 + i), .int 999983, .int (10 ^ (6 : Int).toNat)]) ne1)
        refine ⟨r, e1, _, _, rfl, rfl, T9.er, upd_same, (by show 14 + 3 ≤ sizeLine; decide), fun e2 ne2 => ?_⟩
        have T10 := T9.same (same_put (o := .lst (perL ++ [.int (1 + i), .int 999983, .int (10 ^ (6 : Int).toNat)])) ne2)
        refine ⟨p, e2, _, _, rfl, T10.hp, by omega, T9.hp.ne ne2, .inl (.inl upd_same), by simp, (by show 17 ≤ 1000000; decide), fun H11 v b11 hp11 hvm => ?_⟩
        have T11 := T10.bu b11 hp11
        obtain ⟨x, rfl, x1, x6⟩ : ∃ x : Nat, v = .int (x : Nat) ∧ 1 ≤ x ∧ x ≤ 1000000 := by
          unfold perL at hvm
          simp only [List.cons_append, List.nil_append, List.mem_cons, List.not_mem_nil, or_false] at hvm
          rcases hvm with rfl | rfl | rfl | rfl | rfl | rfl | rfl | rfl | rfl | rfl | rfl | rfl | rfl | rfl | rfl | rfl | rfl
          · exact ⟨1, rfl, by decide, by decide⟩
          · exact ⟨2, rfl, by decide, by decide⟩
          · exact ⟨3, rfl, by decide, by decide⟩
          · exact ⟨4, rfl, by decide, by decide⟩
          · exact ⟨5, rfl, by decide, by decide⟩
          · exact ⟨6, rfl, by decide, by decide⟩
          · exact ⟨8, rfl, by decide, by decide⟩
          · exact ⟨12, rfl, by decide, by decide⟩
          · exact ⟨16, rfl, by decide, by decide⟩
          · exact ⟨24, rfl, by decide, by decide⟩
          · exact ⟨48, rfl, by decide, by decide⟩
          · exact ⟨7, rfl, by decide, by decide⟩
          · exact ⟨9, rfl, by decide, by decide⟩
          · exact ⟨10, rfl, by decide, by decide⟩
          · exact ⟨(1 + i).toNat, by rw [Int.toNat_of_nonneg (by omega)], by omega, by omega⟩
          · exact ⟨999983, rfl, by decide, by decide⟩
          · exact ⟨1000000, by rw [show (10 : Int) ^ (6 : Int).toNat = ((1000000 : Nat) : Int) by decide], by decide, by decide⟩
        obtain ⟨us', el', da'⟩ := T11.el
        have hul' := daAll_len da'
        rw [List.length_map] at hul'
        dsimp only [gName]
        refine ⟨_, rfl, .inl ⟨rfl, _, .inl (.inl el')⟩, _, rfl, _, rfl, _, rfl, p, _, _, rfl, T11.hp, by omega, by omega, log_i (k := 20) (by omega) (by omega) (by decide) (by decide), fun H12 d b12 hp12 d0 d1 => ⟨(by show 2 ≤ sizeLine; decide), fun t nt => ?_⟩⟩
        have T12 := T11.bu b12 hp12
        obtain ⟨us2, el2, da2⟩ := T12.el
        have hul2 := daAll_len da2
        rw [List.length_map] at hul2
        obtain ⟨d, rfl⟩ : ∃ a : Nat, d = (a : Nat) := ⟨d.toNat, by omega⟩
        have T13 := T12.snoc (e := (x, d)) nt el2 da2 (by show 0 < x; omega) (by show d < x; omega) (by show x ≤ 1000000; omega)
        refine ⟨l, us2, _, rfl, rfl, same_put nt _ _ el2, by omega, _, _, _, rfl, T13, ?_⟩
        rw [List.length_append, hl7]
        rfl
      · rintro σ' H7 ⟨S', y8, y9, rfl, T7, hl7⟩
        obtain ⟨us', el', da'⟩ := T7.el
        have hul' := daAll_len da'
        rw [List.length_map] at hul'
        refine ⟨_, rfl, _, rfl, _, rfl, p, l, us', _, rfl, T7.hp, by omega, T7.npl, .inl (.inl el'), by omega, fun H8 l4 ys b4 hp4 nl4 npl4 el4 pm => ?_⟩
        obtain ⟨S2, pS, dS⟩ := da_permQ pm da'
        have hd4 := DaAll.kt (T7.hp.kt b4) (tup_cDq S2) dS
        refine ⟨l4, ys, rfl, .inl ⟨.inl (.inl el4), fun t4 nt4 => ⟨(by show 2 ≤ sizeLine; decide), fun t5 nt5 => ?_⟩⟩⟩
        have s4 := same_put (o := .tup ys) nt4
        have s5 := same_put (o := .tup [.int (c : Nat), .ref t4]) nt5
        refine q _ t5 c (.ref t4) S2 (T7.b.trans (b4.trans ((Bu.of s4).trans (Bu.of s5)))) (((hp4.same s4).same s5).up (by omega)) upd_same (.tup (.inl (.inl (s5 _ _ upd_same))) ((hd4.mono s4).mono s5)) c1 c48 (by rw [pS.length_eq]; cases S with | nil => have := hm0 rfl; omega | cons _ _ => rw [List.length_cons] at hl7; omega) (by rw [pS.length_eq]; omega) (T7.cl.perm pS)
    · refine ⟨_, rfl, p, 3, _, rfl, T3.hp, by omega, by decide, by decide, fun H4 j b4 hp4 j0 j3 => ⟨rfl, _, rfl, ite2 (fun ej => ?_) (fun ej => ?_)⟩⟩
      · have T4 := T3.bu b4 hp4
        have hb : (if ((mm : Nat) : Int) < (c : Nat) then ((mm : Nat) : Int) else (c : Nat)) + 1 = ((min c mm + 1 : Nat) : Int) := by
          split <;> omega
        refine ⟨_, rfl, lcF_rng2 (a := 1) (b := min c mm + 1) (fun v => match v with | .int i => decide (((c : Nat) : Int) % i = 0) | _ => false) (fun v => v) (fun Q hq => ⟨_, rfl, _, rfl, _, _, rfl, _, _, rfl, rfl, (show Q [.int 1, .int ((if ((mm : Nat) : Int) < (c : Nat) then ((mm : Nat) : Int) else (c : Nat)) + 1)] H4 by rw [hb]; exact hq)⟩) (by decide) (by omega) (fun x hx H' N R s' hN hR => ?_) (fun H5 D s5 nD eD => ?_)⟩
        · obtain ⟨a, ha, rfl⟩ := List.mem_map.mp hx
          have ha := rgN_mem.mp ha
          refine ⟨rfl, _, rfl, _, rfl, _, _, rfl, rfl, (by show (0 : Int) < ((a : Nat) : Int); omega), rfl, _, rfl, ite2 (fun e => ⟨_, rfl, hR ?_ _ Same.rfl'⟩) (fun e => hN ?_ _ Same.rfl')⟩
          · exact decide_eq_true (V.int.inj (of_decide_eq_true e))
          · exact decide_eq_false fun z => e (decide_eq_true (congrArg V.int z))
        · have T5 := T4.same s5
          refine ⟨p, D, _, _, rfl, T5.hp, by omega, T4.hp.ne nD, .inl (.inl eD), ?_, ?_, fun H6 v b6 hp6 hvm => ?_⟩
          · exact List.ne_nil_of_mem (a := nV 1) (List.mem_map.mpr ⟨nV 1, List.mem_filter.mpr ⟨List.mem_map.mpr ⟨1, rgN_mem.mpr (by omega), rfl⟩, decide_eq_true (by show ((c : Nat) : Int) % ((1 : Nat) : Int) = 0; omega)⟩, rfl⟩)
          · rw [List.length_map]
            refine Nat.le_trans (List.length_filter_le _ _) ?_
            rw [List.length_map, rgN_len]
            omega
          have T6 := T5.bu b6 hp6
          obtain ⟨st, rfl, st1, st5⟩ : ∃ a : Nat, v = .int (a : Nat) ∧ 1 ≤ a ∧ a ≤ mm := by
            obtain ⟨v', hv', rfl⟩ := List.mem_map.mp hvm
            obtain ⟨a, ha, rfl⟩ := List.mem_map.mp (List.mem_filter.mp hv').1
            have ha := rgN_mem.mp ha
            exact ⟨a, rfl, by omega, by omega⟩
          dsimp only [gName]
          refine ⟨_, rfl, _, rfl, by omega, by omega, fun L nL => ?_⟩
          rw [Int.toNat_natCast]
          refine lc_range (lo := 0) (n := st) (fun k H' => ∃ S : List (Nat × Nat), SmQ K p L r H H' (n + 4 + k) S ∧ S.length = k) ⟨[], (T6.other nL).bu Bu.refl ((T6.hp.new nL).up (by omega)), rfl⟩ ?_ ?_
          · rintro k H7 hk ⟨S, T7, hl7⟩
            refine ⟨rfl, ?_⟩
            refine ⟨_, rfl, _, rfl, (by show 3 ≤ sizeLine; decide), fun e ne => ⟨p, e, _, _, rfl, T7.hp.new ne, by omega, T7.hp.ne ne, .inl (.inl upd_same), by simp, by show 3 ≤ 1000000; decide, fun H8 v b8 hp8 hvm => ?_⟩⟩
            have T8 := (T7.same (same_put ne)).bu b8 hp8
            obtain ⟨m, rfl, m1, m7⟩ : ∃ a : Nat, v = .int (a : Nat) ∧ 1 ≤ a ∧ a ≤ 7 := by
              simp only [List.mem_cons, List.not_mem_nil, or_false] at hvm
              rcases hvm with rfl | rfl | rfl
              · exact ⟨1, rfl, by decide, by decide⟩
              · exact ⟨1, rfl, by decide, by decide⟩
              · exact ⟨7, rfl, by decide, by decide⟩
            refine ⟨_, _, rfl, rfl, wide_mul (a := 5) (b := 3) (by rw [Int.natAbs_natCast]; omega) (by rw [Int.natAbs_natCast]; omega) (by decide) (by decide) (by decide), _, rfl, (by show 2 ≤ sizeLine; decide), fun t nt => ?_⟩
            obtain ⟨us, el, da⟩ := T8.el
            have hul := daAll_len da
            rw [List.length_map] at hul
            have hle : st ≤ st * m := Nat.le_mul_of_pos_right st (by omega)
            have T9 := T8.snoc (e := (st * m, k)) nt el da (by show 0 < st * m; omega) (by show k < st * m; omega) (by show st * m ≤ 1000000; have := Nat.mul_le_mul (show st ≤ 12 by omega) m7; omega)
            have e9 : (HO.tup [.int (((st : Nat) : Int) * ((m : Nat) : Int)), .int (0 + ((k : Nat) : Int))]) = .tup [.int ((st * m : Nat) : Int), .int ((k : Nat) : Int)] := by
              rw [Int.natCast_mul, Int.zero_add]
            have e10 := same_put (o := .tup [.int (((st : Nat) : Int) * ((m : Nat) : Int)), .int (0 + ((k : Nat) : Int))]) nt _ _ el
            refine ⟨us, e10, by omega, _, by rw [e9]; exact T9, ?_⟩
            rw [List.length_append, hl7]
            rfl
          · rintro H7 ⟨S, T7, hl7⟩
            dsimp only [gName]
            refine ⟨_, rfl, p, 3, _, rfl, T7.hp, by omega, by decide, by decide, fun H8 i b8 hp8 i0 i1 => ⟨rfl, _, rfl, ite2 (fun ei => ?_) (fun ei => ?_)⟩⟩
            · have T8 := T7.bu b8 hp8
              obtain ⟨us, el, da⟩ := T8.el
              have hul := daAll_len da
              rw [List.length_map] at hul
              refine ⟨_, rfl, .inl ⟨rfl, _, .inl (.inl el)⟩, _, rfl, _, rfl, L, us, rfl, .inl (.inl (.inl el)), p, _, _, rfl, T8.hp, by omega, by omega, log_i (k := 20) (by omega) (by omega) (by decide) (by decide), fun H9 j b9 hp9 j0 j1 => ?_⟩
              have T9 := T8.bu b9 hp9
              obtain ⟨us2, el2, da2⟩ := T9.el
              have hul2 := daAll_len da2
              rw [List.length_map] at hul2
              obtain ⟨j, rfl⟩ : ∃ a : Nat, j = (a : Nat) := ⟨j.toNat, by omega⟩
              have hj : j < us2.length := by omega
              refine ⟨L, us2, _, j, us2[j], rfl, rfl, el2, by omega, by omega, seq_nn (by omega) (by omega), List.getElem?_eq_getElem hj, ?_⟩
              refine cont _ _ ⟨L, S.eraseIdx j, _, _, _, rfl, ?_, ?_⟩
              · have T10 := T9.put el2 (da_eraseQ j da2) ⟨fun x hx => T9.cl.pos x (List.mem_of_mem_eraseIdx hx), fun x hx => T9.cl.lt x (List.mem_of_mem_eraseIdx hx), fun x hx => T9.cl.le x (List.mem_of_mem_eraseIdx hx)⟩
                exact T10.bu Bu.refl (T10.hp.up (by omega))
              · rw [List.length_eraseIdx_of_lt (by omega)]
                omega
            · exact cont _ _ ⟨L, S, _, _, _, rfl, T7.bu b8 (hp8.up (by omega)), by omega⟩
      · exact cont _ _ ⟨l, [], _, _, _, rfl, T3.bu b4 (hp4.up (by omega)), by rw [List.length_nil]; omega⟩
end
end Ev

/-! ## k84: what must be so of weights -/
namespace Ev
open PySem PySem.Spec PyProof.Rows L2 Pm
def spWr (K : PySem.W.Frag) : Sp := fun vs H Q _ => ∃ (p : Addr) (k n : Nat) (x y : V) (S : List (Nat × Nat)) (fs : List (Int × Int)), vs = [.ref p, .int (n : Nat), x, y] ∧ PotA p k H ∧ k + 300 ≤ 9000000 ∧ 1 ≤ n ∧ n ≤ 48 ∧ S.length ≤ 12 ∧ Da K H x (.tuple (S.map cDq)) ∧ Da K H y (.tuple (fs.map frD)) ∧ (∀ e ∈ fs, e.1.natAbs < 2 ^ 60 ∧ e.2.natAbs < 2 ^ 60) ∧ isWt n (clsOf n S) (.tuple (fs.map frD)) = true ∧ ∀ H', Bu p H H' → PotA p (k + 300) H' → Q (.bl true) H'
theorem scWr : FnScope ["_law_draws_here", "_law_count", "_law_some", "_law_found", "_law_turn", "_law_top", "_law_values", "_law_tick"] ["_law_draws_here", "_law_count", "_law_some", "_law_found"] (defScope (topS 32)) := ⟨rfl, rfl, rfl, by decide +kernel, rfl, by decide +kernel, by decide +kernel⟩
section
variable {P : Program} {w : World} {K : PySem.W.Frag} {mg : Str → Option Value} {base : Heap}
theorem smP_frs {fs : List (Int × Int)} (h : ∀ e ∈ fs, e.1.natAbs < 2 ^ 60 ∧ e.2.natAbs < 2 ^ 60) : SmP (.tuple (fs.map frD)) := fun ds e d hd _ => by
  cases e
  obtain ⟨f, hf, rfl⟩ := List.mem_map.mp hd
  have b : 2 ^ 60 ≤ 2 ^ 600 := Nat.pow_le_pow_right (by decide) (by decide)
  exact ⟨Nat.lt_of_lt_of_le (h f hf).1 b, Nat.lt_of_lt_of_le (h f hf).2 b⟩
theorem tup_frD : ∀ S : List (Int × Int), tupDs (S.map frD) = true
  | [] => by rw [List.map_nil, tupDs]
  | e :: S => by
    rw [List.map_cons, tupDs, tup_frD S]
    simp [frD, tupD, tupDs]
theorem tup_intD : ∀ S : List Int, tupDs (S.map PyData.int) = true
  | [] => by rw [List.map_nil, tupDs]
  | e :: S => by
    rw [List.map_cons, tupDs, tup_intD S]
    simp [tupD, tupDs]
theorem daAll_ints {K : PySem.W.Frag} {H : Hp} (X : List Int) : DaAll K H (X.map V.int) (X.map PyData.int) := da_intsQ (fun i => i) X
theorem mem_or_gd (X : List Int) (t : Nat) : Pm.gd X t = 0 ∨ Pm.gd X t ∈ X := by
  by_cases h : t < X.length
  · refine .inr ?_
    unfold Pm.gd
    rw [List.getD_eq_getElem?_getD, List.getElem?_eq_getElem h]
    exact List.getElem_mem h
  · exact .inl (gd_out (by omega))
theorem ok_wr (D : Def K mg "_law_weights_right" (topS 32) ["_law_draws_here", "_law_count", "_law_some", "_law_found"]) (C__law_below : Cal P w K mg base 1 "_law_below" ["_law_draws_here", "_law_many"] spDraw) (C__law_pick : Cal P w K mg base 2 "_law_pick" ["_law_draws_here", "_law_items"] (spPick K)) (C__law_is_mean : Cal P w K mg base 5 "_law_is_mean" ["_law_some", "_law_found", "_law_values"] (spIm K)) (C_shows_blind : Cal P w K mg base 3 "shows_blind" ["length", "samplers", "value"] (spSbP K)) (C_shows_weights : Cal P w K mg base 4 "shows_weights" ["length", "samplers", "value"] (spSwP K)) (nb : NB mg) : Cal P w K mg base 6 "_law_weights_right" ["_law_draws_here", "_law_count", "_law_some", "_law_found"] (spWr K) := by
  refine D.ok scWr (fun vs H Q E h => ?_) (fun fa cdv A outer sh H vs Q E hr gd h => ?_)
  · obtain ⟨p, k, n, x, y, S, fs, rfl, _⟩ := h
    rfl
  · obtain ⟨p, k, n, x, y, S, fs, rfl, hp, hk, hn, hn48, hS, hx, hy, hfs, hwt, q⟩ := h
    refine ⟨_, (pss_cons (ps_if (PW.pt (pw_or (pt_cmp (pc_notB (pcall C_shows_weights (hr.mono (by omega)) gd (by rfl) (pa_cons (pv 1) (pa_cons (pv 2) (pa_cons (pv 3) pa_nil))))) rfl) (pw_or1 (pt_cmp (pc_notB (pcall C_shows_blind (hr.mono (by omega)) gd (by rfl) (pa_cons (pv 1) (pa_cons (pv 2) (pa_cons (pv 3) pa_nil))))) rfl))))
        (pss_one (ps_ret pe_bl))
        pss_nil)
      (pss_cons (ps_for PassesOwn.never rfl (pi_range1 rfl nb.at (pa_cons pe_int pa_nil)) (pg_name (i := 4) scWr.nd rfl (Or.inl rfl))
        (pss_cons (ps_set (i := 5) scWr.nd rfl (.inr rfl) (pcall C__law_pick (hr.mono (by omega)) gd (by rfl) (pa_cons (pv 0) (pa_cons (pe_lst (pa_cons pe_int (pa_cons pe_int (pa_cons (pe_op op_pow pe_int pe_int) pa_nil)))) pa_nil))))
        (pss_cons (ps_set (i := 6) scWr.nd rfl (.inl rfl) (pe_callTy call_tuple_of (by rfl) nb.at (by decide +kernel) (pa_cons (pe_lc (own := [("_law_tick", 7)]) (g := (gName 7)) (tt := tYes) (te := (tCall spDraw [] E0 (tCons (tVar 0) (tCons (tVar 5) tNil)))) rfl scWr.nd (pi_range1 rfl nb.at (pa_cons (pv 1) pa_nil)) (blkOk_by (N := ["_law_draws_here", "_law_count", "_law_some", "_law_found", "_law_turn", "_law_top", "_law_values", "_law_tick"]) (sc := defScope (topS 32)) (by decide +kernel)) (fun _ _ _ _ _ => (pg_name (i := 7) scWr.nd rfl (Or.inl rfl))) (fun _ _ _ _ _ => pts_nil) (fun _ _ _ _ _ => (pcall C__law_below (hr.mono (by omega)) gd (by rfl) (pa_cons (pv 0) (pa_cons (pv 5) pa_nil))))) pa_nil)))
        (pss_one (ps_if (PW.pt (pw_or (pt_not (pt_val (pcall C__law_is_mean (hr.mono (by omega)) gd (by rfl) (pa_cons (pv 2) (pa_cons (pv 3) (pa_cons (pv 6) pa_nil)))))) (pw_or1 (pt_val (pcall C_shows_blind (hr.mono (by omega)) gd (by rfl) (pa_cons (pv 1) (pa_cons (pv 2) (pa_cons (pe_tup (pa_cons (pv 6) (pa_cons (pe_revT (pv 6)) pa_nil))) pa_nil))))))))
          (pss_one (ps_ret pe_bl))
          pss_nil)))))
      (pss_one (ps_ret pe_bl)))), ?_⟩
    have sl := sizeLine_eq
    have hbl := wex_noBl (clsOf_pos (S := S) hn) (wt_wex hwt)
    have npy := hp
    refine ⟨_, rfl, _, rfl, _, rfl, n, x, y, S, _, rfl, hn, hn48, hS, hx, hy, smP_frs hfs, fun H1 s1 => ?_⟩
    rw [hwt]
    refine ⟨_, rfl, _, rfl, iteF ⟨_, rfl, _, rfl, _, rfl, n, x, y, S, _, rfl, hn, hn48, hS, hx.mono s1, hy.mono s1, fun H2 s2 => ?_⟩⟩
    rw [hbl]
    refine ⟨_, rfl, _, rfl, iteF ?_⟩
    have S2 := s1.trans s2
    have hp2 := hp.same S2
    refine ⟨_, rfl, by decide, by decide, ?_⟩
    refine for_range (lo := 0) (n := 4) (fun j σ' H' => ∃ y4 y5 y6 y7 : Option V, σ' = [some (.ref p), some (.int (n : Nat)), some x, some y, y4, y5, y6, y7] ∧ Bu p H H' ∧ PotA p (k + 60 * j) H')
      ⟨_, _, _, _, rfl, Bu.of S2, hp2⟩ ?_ ?_
    · rintro j σ' H3 hj ⟨y4, y5, y6, y7, rfl, b3, hp3⟩
      refine ⟨_, rfl, _, _, rfl, rfl, ⟨by decide, by decide, by decide⟩, (by show 3 ≤ sizeLine; decide), fun e ne => ⟨p, e, _, _, rfl, hp3.new ne, by omega, hp3.ne ne, .inl (.inl upd_same), by simp, (by show 3 ≤ 1000000; decide), fun H4 v b4 hp4 hvm => ?_⟩⟩
      obtain ⟨top, rfl, t1, t2⟩ : ∃ t : Nat, v = .int (t : Nat) ∧ 1 ≤ t ∧ t ≤ 10 ^ 18 := by
        simp only [List.mem_cons, List.not_mem_nil, or_false] at hvm
        rcases hvm with rfl | rfl | rfl
        · exact ⟨2, rfl, by decide, by decide⟩
        · exact ⟨10, rfl, by decide, by decide⟩
        · exact ⟨10 ^ 18, rfl, by decide, by decide⟩
      have B4 : Bu p H H4 := b3.trans ((Bu.of (same_put ne)).trans b4)
      clear hvm b4
      refine ⟨_, rfl, _, rfl, by omega, by omega, fun L nL => ?_⟩
      rw [Int.toNat_natCast]
      have npL := hp4.ne nL
      refine lc_range (lo := 0) (n := n) (fun i H' => ∃ ns : List Int, ns.length = i ∧ H' L = some (.lst (ns.map V.int)) ∧ (∀ z ∈ ns, 0 ≤ z ∧ z < 10 ^ 18) ∧ Bu p H4 H' ∧ PotA p (k + 60 * j + 1 + i) H') ⟨[], rfl, upd_same, fun _ h => absurd h List.not_mem_nil, Bu.of (same_put nL), hp4.new nL⟩ ?_ ?_
      · rintro i H5 hi ⟨ns, hl, e5, hz, b5, hp5⟩
        refine ⟨rfl, _, rfl, _, rfl, p, _, _, rfl, hp5, by omega, by omega, log_i (k := 62) (by omega) (by omega) (by decide) (by decide), fun H6 d b6 hp6 d0 d1 => ?_⟩
        have e6 := b6 _ _ npL.symm e5
        refine ⟨_, e6, by rw [List.length_map]; omega, ns ++ [d], by rw [List.length_append, hl]; rfl, by rw [upd_same, List.map_append]; rfl, fun z hm => ?_, fun b o nb e => ?_, (hp6.put npL).up (by omega)⟩
        · rcases List.mem_append.mp hm with hm | hm
          · exact hz z hm
          · rw [List.mem_singleton.mp hm]
            exact ⟨d0, by omega⟩
        · rw [upd_ne (ne_of_none e nL)]
          exact b6 _ _ nb (b5 _ _ nb e)
      · rintro H5 ⟨ns, hl, e5, hz, b5, hp5⟩
        subst hl
        dsimp only [gName]
        refine ⟨L, _, rfl, .inl ⟨.inl (.inl e5), fun t nt => ?_⟩⟩
        have s6 := same_put (o := .tup (ns.map V.int)) nt
        have e6 : upd H5 t (.tup (ns.map V.int)) t = some (.tup (ns.map V.int)) := upd_same
        generalize upd H5 t (.tup (ns.map V.int)) = H6 at s6 e6 ⊢
        have hp6 := hp5.same s6
        have B6 : Bu p H H6 := B4.trans (b5.trans (Bu.of s6))
        have kt := hp.kt B6
        have hx6 : Da K H6 x (.tuple (S.map cDq)) := Da.kt kt (by rw [tupD]; exact tup_cDq S) hx
        have hy6 : Da K H6 y (.tuple (fs.map frD)) := Da.kt kt (by rw [tupD]; exact tup_frD fs) hy
        have ht6 : Da K H6 (.ref t) (.tuple (ns.map PyData.int)) := .tup (.inl (.inl e6)) (daAll_ints ns)
        refine ⟨_, rfl, _, rfl, _, rfl, x, y, .ref t, ns, S, fs, rfl, hn, hn48, hS, hx6, hy6, ht6, hfs, fun i => ?_, hwt, fun H7 s7 => ?_⟩
        · have := mem_or_gd ns i
          rcases this with h | h
          · rw [h]
            decide
          · have := hz _ h
            omega
        · refine ⟨_, rfl, iteF ?_⟩
          refine ⟨_, rfl, _, rfl, _, rfl, _, rfl, t, _, rfl, .inl (.inl (s7 _ _ e6)), fun r nr => ⟨(by show 2 ≤ sizeLine; decide), fun u nu => ?_⟩⟩
          have s8 := same_put (o := .tup (ns.map V.int).reverse) nr
          have s9 := same_put (o := .tup [.ref t, .ref r]) nu
          have hr8 : Da K (upd H7 r (.tup (ns.map V.int).reverse)) (.ref r) (.tuple (ns.reverse.map PyData.int)) := by
            refine .tup (.inl (.inl upd_same)) ?_
            rw [← List.map_reverse]
            exact daAll_ints _
          refine ⟨ns.length, x, .ref u, S, pairQ ns ns.reverse, rfl, hn, hn48, hS, hx6.mono (s7.trans (s8.trans s9)), .tup (.inl (.inl upd_same)) (.cons (ht6.mono (s7.trans (s8.trans s9))) (.cons (hr8.mono s9) .nil)), fun HA sA => ?_⟩
          rw [hbl]
          have sB := s7.trans (s8.trans (s9.trans sA))
          exact ⟨_, rfl, iteF ⟨_, _, _, _, rfl, B6.trans (Bu.of sB), (hp6.same sB).up (by omega)⟩⟩
    · rintro σ' H3 ⟨y4, y5, y6, y7, rfl, b3, hp3⟩
      exact q H3 b3 (hp3.up (by omega))
end
end Ev

/-! ## k84: the law -/
namespace Ev
open PySem PySem.Spec PyProof.Rows L2 Pm
def spLaw (K : PySem.W.Frag) : Sp := fun vs H Q _ => ∃ (a : Addr) (ns : List Int), vs = [.ref a] ∧ SqL K H a (ns.map V.int) ∧ ∀ H', Q (.bl true) H'
theorem scLaw84 : FnScope ["_law_script", "_law_k", "_law_draws_here", "_law_turn", "_law_count", "_law_some", "_law_found", "_law_pair", "_law_more"] ["_law_script"] (defScope (topS 33)) := ⟨rfl, rfl, rfl, by decide +kernel, rfl, by decide +kernel, by decide +kernel⟩
section
variable {P : Program} {w : World} {K : PySem.W.Frag} {mg : Str → Option Value} {base : Heap} {f : Addr} {fd : FuncData}
theorem mm2 (n : Int) : -(2 ^ 62) ≤ (if (if n < 2 then n else 2) > 1 then (if n < 2 then n else 2) else 1) ∧ (if (if n < 2 then n else 2) > 1 then (if n < 2 then n else 2) else 1) < 2 ^ 62 ∧ (if (if n < 2 then n else 2) > 1 then (if n < 2 then n else 2) else 1).toNat ≤ 2 := by
  repeat' split
  all_goals omega
theorem smP_pair {c : Nat} {X : List Int} (hl : X.length = c) (h : c ≤ 2 → ∀ t, (Pm.gd X t).natAbs < 2 ^ 200) : SmP (pairQ (X.map fun i => if (0 : Int) > i then 0 else i) (X.map fun i => if (0 : Int) > -i then 0 else -i)) := fun ds e d hd hf => by
  cases e
  have b : 2 ^ 200 ≤ 2 ^ 600 := Nat.pow_le_pow_right (by decide) (by decide)
  have go : ∀ f : Int → Int, (∀ i, (f i).natAbs ≤ i.natAbs) → d = .tuple ((X.map f).map PyData.int) → (toFr d).1.natAbs < 2 ^ 600 ∧ (toFr d).2.natAbs < 2 ^ 600 := fun f hfi e => by
    obtain ⟨g, e2, e3, _⟩ := isFr_is hf
    rw [e3]
    rw [e2] at e
    have e4 : [PyData.int g.1, PyData.int g.2] = (X.map f).map PyData.int := PyData.tuple.inj e
    match X, hl, h, e4 with
    | [x, y], hl, h, e4 =>
      simp only [List.map_cons, List.map_nil, List.cons.injEq, and_true, PyData.int.injEq] at e4
      have h0 := h (by rw [← hl]; exact Nat.le_refl 2) 0
      have h1 := h (by rw [← hl]; exact Nat.le_refl 2) 1
      have h0 : x.natAbs < 2 ^ 200 := h0
      have h1 : y.natAbs < 2 ^ 200 := h1
      rw [e4.1, e4.2]
      exact ⟨Nat.lt_of_lt_of_le (Nat.lt_of_le_of_lt (hfi x) h0) b, Nat.lt_of_lt_of_le (Nat.lt_of_le_of_lt (hfi y) h1) b⟩
    | [], _, _, e4 => simp at e4
    | [_], _, _, e4 => simp at e4
    | _ :: _ :: _ :: _, _, _, e4 => simp at e4
  rcases List.mem_cons.mp hd with e | hd
  · exact go _ (fun i => by split <;> omega) e
  · exact go _ (fun i => by split <;> omega) (List.mem_singleton.mp hd)
theorem ok_law84 (hm : ∃ mm, base.Ns sysModules mm) (F : Fun K "law" "law" (topS 33) f fd) (C__law_draws : Cal P w K mg base 1 "_law_draws" ["_law_script", "_law_k"] (spPotS K)) (C__law_pick : Cal P w K mg base 2 "_law_pick" ["_law_draws_here", "_law_items"] (spPick K))
    (C__law_samplers : Cal P w K mg base 3 "_law_samplers" ["_law_draws_here", "_law_many"] (spSamQ K)) (C_weights : Cal P w K mg base 5 "weights" ["length", "samplers"] (spWt K)) (C_blind_pair : Cal P w K mg base 5 "blind_pair" ["length", "samplers"] (spBp K)) (C__law_blind_right : Cal P w K mg base 5 "_law_blind_right" ["_law_count", "_law_some", "_law_pair"] (spBr K)) (C__law_weights_right : Cal P w K mg base 6 "_law_weights_right" ["_law_draws_here", "_law_count", "_law_some", "_law_found"] (spWr K)) (nb : NB mg) :
    FnG P w K mg base CX0 8 f fd ["_law_script"] (spLaw K) := by
  refine okG F scLaw84 (fun vs H Q E h => ?_) (fun cdv A outer s H vs Q E hr gd h => ?_)
  · obtain ⟨a, ns, rfl, _⟩ := h
    rfl
  · obtain ⟨a, ns, rfl, hS, q⟩ := h
    refine ⟨_, (pss_cons (ps_for PassesOwn.never rfl (pi_range1 rfl nb.at (pa_cons (pe_callB (call_max2 rfl) (by rfl) nb.at (by decide +kernel) (pa_cons pe_int (pa_cons (pe_callB (call_min2 rfl) (by rfl) nb.at (by decide +kernel) (pa_cons pe_int (pa_cons (pe_callB call_len_seq (by rfl) nb.at PySem.boot_len (pa_cons (pv 0) pa_nil)) pa_nil))) pa_nil))) pa_nil)) (pg_name (i := 1) scLaw84.nd rfl (Or.inl rfl))
        (pss_cons (ps_set (i := 2) scLaw84.nd rfl (.inl rfl) (pcall C__law_draws (hr.mono (by omega)) gd (by rfl) (pa_cons (pv 0) (pa_cons (pv 1) pa_nil))))
        (pss_one (ps_for PassesOwn.never rfl (pi_range1 rfl nb.at (pa_cons pe_int pa_nil)) (pg_name (i := 3) scLaw84.nd rfl (Or.inl rfl))
          (pss_cons (ps_asg (pcall C__law_samplers (hr.mono (by omega)) gd (by rfl) (pa_cons (pv 2) (pa_cons pe_int pa_nil))) (pg_tup rfl (pgs_cons (pg_name (i := 4) scLaw84.nd rfl (Or.inl rfl)) (pgs_cons (pg_name (i := 5) scLaw84.nd rfl (Or.inl rfl)) pgs_nil))))
          (pss_cons (ps_par (i := 6) (j := 7) rfl scLaw84.nd rfl rfl (by decide) rfl rfl (pa_cons (pcall C_weights (hr.mono (by omega)) gd (by rfl) (pa_cons (pv 4) (pa_cons (pv 5) pa_nil))) (pa_cons (pcall C_blind_pair (hr.mono (by omega)) gd (by rfl) (pa_cons (pv 4) (pa_cons (pv 5) pa_nil))) pa_nil)) (by rfl))
          (pss_cons (ps_if (pt_cmpR op_eq (pe_cmp (pc_isN (pv 6)) rfl) (pe_cmp (pc_isN (pv 7)) rfl) (nomark _))
            (pss_one (ps_ret pe_bl))
            pss_nil)
          (pss_cons (ps_if (PW.pt (pw_and (pt_cmp (pc_isN (pv 6)) rfl) (pw_and1 (pt_not (pt_val (pcall C__law_blind_right (hr.mono (by omega)) gd (by rfl) (pa_cons (pv 4) (pa_cons (pv 5) (pa_cons (pv 7) pa_nil)))))))))
            (pss_one (ps_ret pe_bl))
            pss_nil)
          (pss_cons (ps_if (PW.pt (pw_and (pt_cmp (pc_notN (pv 6)) rfl) (pw_and1 (pt_not (pt_val (pcall C__law_weights_right (hr.mono (by omega)) gd (by rfl) (pa_cons (pv 2) (pa_cons (pv 4) (pa_cons (pv 5) (pa_cons (pv 6) pa_nil))))))))))
            (pss_one (ps_ret pe_bl))
            pss_nil)
          (pss_cons (ps_set (i := 8) scLaw84.nd rfl (.inl rfl) (pe_op op_catA (pv 5) (pe_tup (pa_cons (pe_tup (pa_cons (pcall C__law_pick (hr.mono (by omega)) gd (by rfl) (pa_cons (pv 2) (pa_cons (pe_lst (pa_cons pe_int (pa_cons pe_int (pa_cons pe_int (pa_cons pe_int (pa_cons pe_int pa_nil)))))) pa_nil))) (pa_cons pe_int pa_nil))) pa_nil))))
          (pss_cons (ps_if (PW.pt (pw_and (pt_cmp (pc_isN (pcall C_weights (hr.mono (by omega)) gd (by rfl) (pa_cons (pv 4) (pa_cons (pv 8) pa_nil)))) rfl) (pw_and1 (pt_cmp (pc_notN (pv 6)) rfl))))
            (pss_one (ps_ret pe_bl))
            pss_nil)
          (pss_one (ps_if (PW.pt (pw_and (pt_cmpR op_gt (pe_callB call_len_seq (by rfl) nb.at PySem.boot_len (pa_cons (pv 5) pa_nil)) pe_int (nomark _)) (pw_and (pt_cmp (pc_notN (pcall C_weights (hr.mono (by omega)) gd (by rfl) (pa_cons (pv 4) (pa_cons (pe_slice sl_tupA (pv 5) (po_some pe_int) po_none) pa_nil)))) rfl) (pw_and1 (pt_cmp (pc_isN (pv 6)) rfl)))))
            (pss_one (ps_ret pe_bl))
            pss_nil)))))))))))))
      (pss_one (ps_ret pe_bl))), ?_⟩
    have y := sizeLine_eq
    refine ⟨_, rfl, a, _, rfl, .inl hS, 2, _, rfl, 1, _, rfl, _, rfl, (mm2 _).1, (mm2 _).2.1, for_range (lo := 0) (fun i σ' H' => ∃ y1 y2 y3 y4 y5 y6 y7 y8 : Option V, σ' = [some (.ref a), y1, y2, y3, y4, y5, y6, y7, y8] ∧ SqL K H' a (ns.map V.int))
      ⟨_, _, _, _, _, _, _, _, rfl, hS⟩ ?_ ?_⟩
    · rintro i σ' H1 hi ⟨y1, y2, y3, y4, y5, y6, y7, y8, rfl, hS1⟩
      have hi3 : i < 2 := Nat.lt_of_lt_of_le hi (mm2 _).2.2
      refine ⟨_, rfl, _, rfl, a, ns, _, rfl, hS1, by omega, by omega, fun Hs p np ss hps => ?_⟩
      refine ⟨_, rfl, by decide, by decide, ?_⟩
      refine for_range (lo := 0) (n := 4) (fun j σ' H' => ∃ y3 y4 y5 y6 y7 y8 : Option V, σ' = [some (.ref a), some (.int (0 + (i : Int))), some (.ref p), y3, y4, y5, y6, y7, y8] ∧ Bu p Hs H' ∧ PotA p (410 * j) H')
        ⟨_, _, _, _, _, _, rfl, Bu.refl, hps⟩ ?_ ?_
      · rintro j σ' H2 hj ⟨z3, z4, z5, z6, z7, z8, rfl, b2, hp2⟩
        refine ⟨_, rfl, p, 410 * j, 11, rfl, by decide, by decide, hp2, by omega, fun H3 t c u S b3 hp3 ht hu c1 c48 l1 l11 hs => ?_⟩
        refine ⟨t, _, rfl, .inl (.inl ht), rfl, _, _, rfl, _, _, rfl, rfl, ?_⟩
        have hcl : (clsOf c S).length = S.length := clsOf_len
        have hcp := clsOf_pos (S := S) c1
        refine ⟨_, rfl, _, rfl, c, u, S, rfl, c1, c48, by omega, hu, fun H4 v6 s4 w1 w2 => ⟨_, rfl, _, rfl, c, u, S, rfl, c1, c48, by omega, hu.mono s4, fun H5 v7 s5 x1 x2 => ?_⟩⟩
        have hu5 := hu.mono (s4.trans s5)
        have hp5 := (hp3.same s4).same s5
        have b5 := b2.trans (b3.trans (Bu.of (s4.trans s5)))
        have w2 := fun z => (w2 z).mono s5
        have hv6 : decide (v6 = V.non) = decide (fst0 ((rst c S.length (indC (clsOf c S))).take c) ≠ none) := by
          by_cases z : fst0 ((rst c S.length (indC (clsOf c S))).take c) = none
          · cases w2 z
            rw [show decide (fst0 ((rst c S.length (indC (clsOf c S))).take c) ≠ none) = false from decide_eq_false fun h => h z]
            rfl
          · rw [w1 z, decide_eq_true z]
            rfl
        have hv7 : decide (v7 = V.non) = decide (fst0 ((rst c S.length (indC (clsOf c S))).take c) = none) := by
          cases z : fst0 ((rst c S.length (indC (clsOf c S))).take c) with
          | none => rw [x1 z]; rfl
          | some fr =>
            cases x2 fr z
            rfl
        have d67 : decide (V.bl (decide (v6 = V.non)) = V.bl (decide (v7 = V.non))) = false := by
          rw [hv6, hv7]
          refine decide_eq_false fun h => ?_
          have h := V.bl.inj h
          by_cases z : fst0 ((rst c S.length (indC (clsOf c S))).take c) = none
          · rw [decide_eq_true z, decide_eq_false (fun h => h z)] at h
            cases h
          · rw [decide_eq_false z, decide_eq_true z] at h
            cases h
        refine ⟨_, _, rfl, ?_⟩
        dsimp only [gName]
        refine ⟨_, rfl, _, rfl, rfl, _, rfl, ?_⟩
        rw [d67]
        refine iteF ?_
        refine cut_sQ (fun σ' H' => σ' = [some (.ref a), some (.int (0 + (i : Int))), some (.ref p), some (.int (0 + (j : Int))), some (.int (c : Nat)), some u, some v6, some v7, z8] ∧ H5 = H') ?_ (fun cont => cont _ _ ⟨rfl, rfl⟩)
        rintro σ' H6 ⟨rfl, rfl⟩
        refine cut_sQ (fun σ' H' => σ' = [some (.ref a), some (.int (0 + (i : Int))), some (.ref p), some (.int (0 + (j : Int))), some (.int (c : Nat)), some u, some v6, some v7, z8] ∧ Same H5 H') ?_ (fun cont => ?_)
        · rintro σ' H6 ⟨rfl, s6⟩
          refine cut_sQ (fun σ' H' => σ' = [some (.ref a), some (.int (0 + (i : Int))), some (.ref p), some (.int (0 + (j : Int))), some (.int (c : Nat)), some u, some v6, some v7, z8] ∧ Bu p H5 H' ∧ PotA p (410 * j + 400) H') ?_ (fun cont => ?_)
          · rintro σ' H7 ⟨rfl, b7, hp7⟩
            have hu7 : Da K H7 u (.tuple (S.map cDq)) := Da.kt (hp5.kt b7) (by rw [tupD]; exact tup_cDq S) hu5
            obtain ⟨xa, xs, rfl, hxa, hxd⟩ : ∃ a xs, u = .ref a ∧ SqT K H7 a xs ∧ DaAll K H7 xs (S.map cDq) := by
              cases hu7 with
              | @tup a xs _ hq hall => exact ⟨a, xs, rfl, hq, hall⟩
            have hxl := daAll_len hxd
            rw [List.length_map] at hxl
            refine ⟨_, rfl, _, rfl, (by show 5 ≤ sizeLine; decide), fun e ne => ⟨p, e, _, _, rfl, hp7.new ne, by omega, hp7.ne ne, .inl (.inl upd_same), by simp, (by show 5 ≤ 1000000; decide), fun H8 v b8 hp8 hvm => ?_⟩⟩
            obtain ⟨m, rfl⟩ : ∃ m : Nat, v = .int (m : Nat) := by
              simp only [List.mem_cons, List.not_mem_nil, or_false] at hvm
              rcases hvm with rfl | rfl | rfl | rfl | rfl
              · exact ⟨1, rfl⟩
              · exact ⟨2, rfl⟩
              · exact ⟨3, rfl⟩
              · exact ⟨5, rfl⟩
              · exact ⟨999983, rfl⟩
            have b78 : Bu p H7 H8 := (Bu.of (same_put ne)).trans b8
            clear hvm b8
            have hx8 : Da K H8 (.ref xa) (.tuple (S.map cDq)) := Da.kt (hp7.kt b78) (by rw [tupD]; exact tup_cDq S) hu7
            trace_state
            refine ⟨(by show 2 ≤ sizeLine; decide), fun t1 n1 => ⟨(by show 1 ≤ sizeLine; decide), fun t2 n2 => ?_⟩⟩
            have w1 := same_put (o := .tup [.int (m : Nat), .int 0]) n1
            have g1 : upd H8 t1 (.tup [.int (m : Nat), .int 0]) t1 = some (.tup [.int (m : Nat), .int 0]) := upd_same
            generalize upd H8 t1 (.tup [.int (m : Nat), .int 0]) = G1 at w1 g1 n2 ⊢
            have w2 := same_put (o := .tup [.ref t1]) n2
            have g2 : upd G1 t2 (.tup [.ref t1]) t2 = some (.tup [.ref t1]) := upd_same
            generalize upd G1 t2 (.tup [.ref t1]) = G2 at w2 g2 ⊢
            obtain ⟨xs8, hq8, hd8⟩ : ∃ xs, SqT K H8 xa xs ∧ DaAll K H8 xs (S.map cDq) := by
              cases hx8 with
              | tup hq hall => exact ⟨_, hq, hall⟩
            have hl8 := daAll_len hd8
            rw [List.length_map] at hl8
            refine ⟨xa, t2, xs8, [.ref t1], rfl, rfl, seqT_mono (w1.trans w2) hq8, .inl (.inl g2), (by show xs8.length + 1 ≤ sizeLine; omega), fun h => by rw [h] at hl8; exact absurd hl8 (by show ¬ 0 = _; omega), fun _ h => (by cases h), fun _ _ r nr => ?_⟩
            have w3 := same_put (o := .tup (xs8 ++ [.ref t1])) nr
            have g3 : upd G2 r (.tup (xs8 ++ [.ref t1])) r = some (.tup (xs8 ++ [.ref t1])) := upd_same
            generalize upd G2 r (.tup (xs8 ++ [.ref t1])) = G3 at w3 g3 ⊢
            have w : Same H8 G3 := w1.trans (w2.trans w3)
            have hm3 : Da K G3 (.ref r) (.tuple ((S ++ [(m, 0)]).map cDq)) := by
              refine .tup (.inl (.inl g3)) ?_
              rw [List.map_append]
              exact da_app (hd8.mono w) (.cons (.tup (.inl (.inl (w3 _ _ (w2 _ _ g1)))) (.cons (.int _) (.cons (.int _) .nil))) .nil)
            have hx3 := hx8.mono w
            refine cut_sQ (fun σ' H' => σ' = [some (.ref a), some (.int (0 + (i : Int))), some (.ref p), some (.int (0 + (j : Int))), some (.int (c : Nat)), some (.ref xa), some v6, some v7, some (.ref r)] ∧ Same G3 H') ?_ (fun cont => ?_)
            · rintro σ' H9 ⟨rfl, s9⟩
              have hp9 := (hp8.same w).same s9
              have b9 : Bu p Hs H9 := b5.trans (b7.trans (b78.trans ((Bu.of w).trans (Bu.of s9))))
              have hx9 := hx3.mono s9
              have hsub : fst0 ((rst c S.length (indC (clsOf c S))).take c) = none → fst0 ((rst c (S ++ [(m, 0)]).length (indC (clsOf c (S ++ [(m, 0)])))).take c) = none := fun z => by
                have w := wex_snoc (e := clq c (m, 0)) (none_wex (n := c) (cl := clsOf c S) (by omega) (by rw [hcl]; exact z))
                have e : clsOf c S ++ [clq c (m, 0)] = clsOf c (S ++ [(m, 0)]) := by
                  unfold clsOf
                  rw [List.map_append]
                  rfl
                rw [e] at w
                have z := wex_none (by rw [clsOf_len, List.length_append, List.length_singleton]; omega) w
                rwa [clsOf_len] at z
              refine cut_sQ (fun σ' H' => σ' = [some (.ref a), some (.int (0 + (i : Int))), some (.ref p), some (.int (0 + (j : Int))), some (.int (c : Nat)), some (.ref xa), some v6, some v7, some (.ref r)] ∧ Same H9 H') ?_ (fun cont => ?_)
              · rintro σ' HA ⟨rfl, sA⟩
                have hxA := hx9.mono sA
                have hpA := hp9.same sA
                have bA := b9.trans (Bu.of sA)
                have done : ∀ H', Same HA H' → ∃ y3 y4 y5 y6 y7 y8 : Option V, [some (V.ref a), some (V.int (0 + (i : Int))), some (V.ref p), some (V.int (0 + (j : Int))), some (V.int (c : Nat)), some (V.ref xa), some v6, some v7, some (V.ref r)] = [some (.ref a), some (.int (0 + (i : Int))), some (.ref p), y3, y4, y5, y6, y7, y8] ∧ Bu p Hs H' ∧ PotA p (410 * (j + 1)) H' := fun H' s' => ⟨_, _, _, _, _, _, rfl, bA.trans (Bu.of s'), (hpA.same s').up (by omega)⟩
                obtain ⟨xs9, hq9, hd9⟩ : ∃ xs, SqT K HA xa xs ∧ DaAll K HA xs (S.map cDq) := by
                  cases hxA with
                  | tup hq hall => exact ⟨_, hq, hall⟩
                have hl9 := daAll_len hd9
                rw [List.length_map] at hl9
                refine ⟨_, rfl, xa, xs9, rfl, .inr hq9, _, _, rfl, rfl, _, rfl, ite2 (fun e1 => ?_) (fun _ => iteF (done HA Same.rfl'))⟩
                have e1 : (1 : Int) < (xs9.length : Nat) := of_decide_eq_true e1
                refine ⟨_, rfl, _, rfl, _, rfl, xa, xs9, rfl, hq9, fun h => ?_, fun _ r2 nr2 => ?_⟩
                · have h1 := h.1
                  rw [show (some (1 : Int)) = some ((1 : Nat) : Int) from rfl, HT.sIx_nat] at h1
                  omega
                · rw [show (some (1 : Int)) = some ((1 : Nat) : Int) from rfl, cutV_from]
                  cases S with
                  | nil => exact absurd l1 (by decide)
                  | cons s0 S' =>
                    obtain ⟨x0, xs', rfl, hd', hxs'⟩ : ∃ x0 xs', xs9 = x0 :: xs' ∧ Da K HA x0 (cDq s0) ∧ DaAll K HA xs' (S'.map cDq) := by
                      cases hd9 with
                      | cons h t => exact ⟨_, _, rfl, h, t⟩
                    have sr := same_put (o := .tup xs') nr2
                    refine ⟨c, .ref r2, S', rfl, c1, c48, by rw [List.length_cons] at l11; omega, .tup (.inl (.inl upd_same)) (hxs'.mono sr), fun HB vB sB y1 y2 => ⟨_, rfl, ite2 (fun e => ⟨_, rfl, _, rfl, ?_⟩) (fun _ => iteF (done HB (sr.trans sB)))⟩⟩
                    have z' : fst0 ((rst c S'.length (indC (clsOf c S'))).take c) = none := Decidable.byContradiction fun z' => by
                      cases y1 z'
                      cases e
                    have w := wex_cons (e := clq c s0) (none_wex (n := c) (cl := clsOf c S') (by rw [clsOf_len]; rw [List.length_cons] at l11; omega) (by rw [clsOf_len]; exact z'))
                    have z := wex_none (cl := clsOf c (s0 :: S')) (by omega) w
                    rw [hcl] at z
                    have hf : decide (v6 = V.non) = false := by rw [hv6]; exact decide_eq_false fun h => h z
                    rw [hf]
                    exact iteF (done HB (sr.trans sB))
              · refine ⟨_, rfl, _, rfl, c, .ref r, S ++ [(m, 0)], rfl, c1, c48, by rw [List.length_append, List.length_singleton]; omega, hm3.mono s9, fun HA vA sA y1 y2 => ⟨_, rfl, ite2 (fun e => ⟨_, rfl, _, rfl, ?_⟩) (fun _ => iteF (cont _ _ ⟨rfl, sA⟩))⟩⟩
                have z : fst0 ((rst c S.length (indC (clsOf c S))).take c) ≠ none := fun z => by
                  cases y2 (hsub z)
                  cases e
                have hf : decide (v6 = V.non) = true := by rw [hv6]; exact decide_eq_true z
                rw [hf]
                exact iteF (cont _ _ ⟨rfl, sA⟩)
            · exact cont _ _ ⟨rfl, Same.rfl'⟩
          · refine ⟨_, rfl, _, rfl, ite2 (fun e => ?_) (fun e => iteF (cont _ _ ⟨rfl, Bu.of s6, (hp5.same s6).up (by omega)⟩))⟩
            have z : fst0 ((rst c S.length (indC (clsOf c S))).take c) = none := by
              have e : (!decide (v6 = V.non)) = true := e
              rw [hv6] at e
              refine Decidable.byContradiction fun z => ?_
              rw [decide_eq_true z] at e
              cases e
            have hsm := wtsV_small (n := c) (cl := clsOf c S) (by omega) fun e he => Nat.le_trans (hcp e he).2.2 c48
            have ok := wts_ok (n := c) (cl := clsOf c S) (by omega) (fun e he => (hcp e he).1) (by rw [hcl]; exact z)
            refine ⟨_, rfl, _, rfl, _, rfl, _, rfl, p, _, c, u, v6, S, wtsV c (clsOf c S), rfl, hp5.same s6, by omega, c1, c48, by omega, hu5.mono s6, (w2 z).mono s6, hsm, ok, fun H7 b7 hp7 => ⟨_, rfl, iteF (cont _ _ ⟨rfl, (Bu.of s6).trans b7, hp7.up (by omega)⟩)⟩⟩
        · refine ⟨_, rfl, _, rfl, ite2 (fun e => ?_) (fun e => iteF (cont _ _ ⟨rfl, Same.rfl'⟩))⟩
          rw [hv6] at e
          cases z : fst0 ((rst c S.length (indC (clsOf c S))).take c) with
          | none => exact absurd z (of_decide_eq_true e)
          | some fr =>
            have hd := x2 fr z
            have z' : fst0 ((rst c (clsOf c S).length (indC (clsOf c S))).take c) = some fr := by rw [hcl]; exact z
            have ok := bl_ok (n := c) (cl := clsOf c S) (by omega) hcp z'
            have hno := some_noWt (n := c) (cl := clsOf c S) (by omega) z'
            have hsm := fun h => bvals_small2 (n := c) (cl := clsOf c S) (by omega) h z'
            rw [hcl] at ok hsm
            have hln : (bvals c (pvs c (S.length + 1) (indC (clsOf c S)) S.length) fr).length = c := bvals_len
            generalize bvals c (pvs c (S.length + 1) (indC (clsOf c S)) S.length) fr = X at hd ok hsm hln
            rw [blD_eq] at hd ok
            refine ⟨_, rfl, _, rfl, _, rfl, c, u, v7, S, _, _, rfl, c1, c48, l1, by omega, hu5, hd, ok, smP_pair hln hsm, hno, fun H6 s6 => ⟨_, rfl, iteF (cont _ _ ⟨rfl, s6⟩)⟩⟩
      · rintro σ' H2 ⟨z3, z4, z5, z6, z7, z8, rfl, b2, hp2⟩
        have s : Same H1 H2 := fun c o h => b2 c o (ne_of_none h np) (ss _ _ h)
        exact ⟨_, _, _, _, _, _, _, _, rfl, s.seq hS1⟩
    · rintro σ' H1 ⟨y1, y2, y3, y4, y5, y6, y7, y8, rfl, hS1⟩
      exact q H1
end
end Ev

/-! ## What the top has written -/
namespace Ev
open PySem PySem.Spec PyProof.Rows L2
open PySem.W (typeIn keepIn codeIn nsIn)
def initB (K : PySem.W.Frag) (fI : Addr) (cd : Value) (q : Str) : Bool := (typeIn K (.ref fI) == some (.type "function")) && (codeIn K cd q && keepIn K (.ref fI))
theorem initB_ok {K : PySem.W.Frag} {fI : Addr} {cd : Value} {q : Str} (h : initB K fI cd q = true) : typeIn K (.ref fI) = some (.type "function") ∧ codeIn K cd q = true ∧ keepIn K (.ref fI) = true := by
  unfold initB at h
  simpa only [Bool.and_eq_true, beq_iff_eq] using h
theorem all_mk {P : Program} {w : World} {K : PySem.W.Frag} {h : Heap} {mg : Str → Option Value} {fa : Addr} (X : K.In h) (G : h.Ns mainGlobals mg) (hfa : mg "law" = some (.ref fa))
    {g1 : Addr} {ode1 ane1 : Option Addr} {sle1 : Array (Option Value)} {oce1 kVe1 dce1 pme1 cde1 cte1 : Value}
    {g2 : Addr} {ode2 ane2 : Option Addr} {sle2 : Array (Option Value)} {oce2 kVe2 dce2 pme2 cde2 cte2 : Value}
    {g3 : Addr} {ode3 ane3 : Option Addr} {sle3 : Array (Option Value)} {oce3 kVe3 dce3 pme3 cde3 cte3 : Value}
    {g5 : Addr} {ode5 ane5 : Option Addr} {sle5 : Array (Option Value)} {oce5 kVe5 dce5 pme5 cde5 cte5 : Value}
    {g6 : Addr} {ode6 ane6 : Option Addr} {sle6 : Array (Option Value)} {oce6 kVe6 dce6 pme6 cde6 cte6 : Value}
    {g7 : Addr} {ode7 ane7 : Option Addr} {sle7 : Array (Option Value)} {oce7 kVe7 dce7 pme7 cde7 cte7 : Value}
    {g8 : Addr} {ode8 ane8 : Option Addr} {sle8 : Array (Option Value)} {oce8 kVe8 dce8 pme8 cde8 cte8 : Value}
    {g9 : Addr} {ode9 ane9 : Option Addr} {sle9 : Array (Option Value)} {oce9 kVe9 dce9 pme9 cde9 cte9 : Value}
    {g10 : Addr} {ode10 ane10 : Option Addr} {sle10 : Array (Option Value)} {oce10 kVe10 dce10 pme10 cde10 cte10 : Value}
    {g11 : Addr} {ode11 ane11 : Option Addr} {sle11 : Array (Option Value)} {oce11 kVe11 dce11 pme11 cde11 cte11 : Value}
    {g12 : Addr} {ode12 ane12 : Option Addr} {sle12 : Array (Option Value)} {oce12 kVe12 dce12 pme12 cde12 cte12 : Value}
    {g13 : Addr} {ode13 ane13 : Option Addr} {sle13 : Array (Option Value)} {oce13 kVe13 dce13 pme13 cde13 cte13 : Value}
    {g14 : Addr} {ode14 ane14 : Option Addr} {sle14 : Array (Option Value)} {oce14 kVe14 dce14 pme14 cde14 cte14 : Value}
    {g15 : Addr} {ode15 ane15 : Option Addr} {sle15 : Array (Option Value)} {oce15 kVe15 dce15 pme15 cde15 cte15 : Value}
    {g16 : Addr} {ode16 ane16 : Option Addr} {sle16 : Array (Option Value)} {oce16 kVe16 dce16 pme16 cde16 cte16 : Value}
    {g17 : Addr} {ode17 ane17 : Option Addr} {sle17 : Array (Option Value)} {oce17 kVe17 dce17 pme17 cde17 cte17 : Value}
    {g18 : Addr} {ode18 ane18 : Option Addr} {sle18 : Array (Option Value)} {oce18 kVe18 dce18 pme18 cde18 cte18 : Value}
    {g19 : Addr} {ode19 ane19 : Option Addr} {sle19 : Array (Option Value)} {oce19 kVe19 dce19 pme19 cde19 cte19 : Value}
    {g21 : Addr} {ode21 ane21 : Option Addr} {sle21 : Array (Option Value)} {oce21 kVe21 dce21 pme21 cde21 cte21 : Value}
    {g22 : Addr} {ode22 ane22 : Option Addr} {sle22 : Array (Option Value)} {oce22 kVe22 dce22 pme22 cde22 cte22 : Value}
    {g23 : Addr} {ode23 ane23 : Option Addr} {sle23 : Array (Option Value)} {oce23 kVe23 dce23 pme23 cde23 cte23 : Value}
    {g24 : Addr} {ode24 ane24 : Option Addr} {sle24 : Array (Option Value)} {oce24 kVe24 dce24 pme24 cde24 cte24 : Value}
    {g25 : Addr} {ode25 ane25 : Option Addr} {sle25 : Array (Option Value)} {oce25 kVe25 dce25 pme25 cde25 cte25 : Value}
    {g26 : Addr} {ode26 ane26 : Option Addr} {sle26 : Array (Option Value)} {oce26 kVe26 dce26 pme26 cde26 cte26 : Value}
    {g27 : Addr} {ode27 ane27 : Option Addr} {sle27 : Array (Option Value)} {oce27 kVe27 dce27 pme27 cde27 cte27 : Value}
    {g28 : Addr} {ode28 ane28 : Option Addr} {sle28 : Array (Option Value)} {oce28 kVe28 dce28 pme28 cde28 cte28 : Value}
    {g29 : Addr} {ode29 ane29 : Option Addr} {sle29 : Array (Option Value)} {oce29 kVe29 dce29 pme29 cde29 cte29 : Value}
    {g30 : Addr} {ode30 ane30 : Option Addr} {sle30 : Array (Option Value)} {oce30 kVe30 dce30 pme30 cde30 cte30 : Value}
    {g31 : Addr} {ode31 ane31 : Option Addr} {sle31 : Array (Option Value)} {oce31 kVe31 dce31 pme31 cde31 cte31 : Value}
    {g32 : Addr} {ode32 ane32 : Option Addr} {sle32 : Array (Option Value)} {oce32 kVe32 dce32 pme32 cde32 cte32 : Value}
    {g33 : Addr} {ode33 ane33 : Option Addr} {sle33 : Array (Option Value)} {oce33 kVe33 dce33 pme33 cde33 cte33 : Value}
    (A1 : nsIn K mainGlobals "is_whole" = some (some (.ref g1)))
    (L1 : K.lookup g1 = some ⟨oce1, ode1, .func (PySem.W.fnOf "is_whole" "is_whole" (defArgs (topS 1)) (defBody (topS 1)) (defScope (topS 1)) .none kVe1 dce1 pme1 ane1 cde1 cte1), sle1⟩)
    (H1 : initB K g1 cde1 "is_whole" = true)
    (A2 : nsIn K mainGlobals "common_divisor" = some (some (.ref g2)))
    (L2 : K.lookup g2 = some ⟨oce2, ode2, .func (PySem.W.fnOf "common_divisor" "common_divisor" (defArgs (topS 2)) (defBody (topS 2)) (defScope (topS 2)) .none kVe2 dce2 pme2 ane2 cde2 cte2), sle2⟩)
    (H2 : initB K g2 cde2 "common_divisor" = true)
    (A3 : nsIn K mainGlobals "reduced" = some (some (.ref g3)))
    (L3 : K.lookup g3 = some ⟨oce3, ode3, .func (PySem.W.fnOf "reduced" "reduced" (defArgs (topS 3)) (defBody (topS 3)) (defScope (topS 3)) .none kVe3 dce3 pme3 ane3 cde3 cte3), sle3⟩)
    (H3 : initB K g3 cde3 "reduced" = true)
    (A5 : nsIn K mainGlobals "weights" = some (some (.ref g5)))
    (L5 : K.lookup g5 = some ⟨oce5, ode5, .func (PySem.W.fnOf "weights" "weights" (defArgs (topS 5)) (defBody (topS 5)) (defScope (topS 5)) .none kVe5 dce5 pme5 ane5 cde5 cte5), sle5⟩)
    (H5 : initB K g5 cde5 "weights" = true)
    (A6 : nsIn K mainGlobals "shows_weights" = some (some (.ref g6)))
    (L6 : K.lookup g6 = some ⟨oce6, ode6, .func (PySem.W.fnOf "shows_weights" "shows_weights" (defArgs (topS 6)) (defBody (topS 6)) (defScope (topS 6)) .none kVe6 dce6 pme6 ane6 cde6 cte6), sle6⟩)
    (H6 : initB K g6 cde6 "shows_weights" = true)
    (A7 : nsIn K mainGlobals "blind_pair" = some (some (.ref g7)))
    (L7 : K.lookup g7 = some ⟨oce7, ode7, .func (PySem.W.fnOf "blind_pair" "blind_pair" (defArgs (topS 7)) (defBody (topS 7)) (defScope (topS 7)) .none kVe7 dce7 pme7 ane7 cde7 cte7), sle7⟩)
    (H7 : initB K g7 cde7 "blind_pair" = true)
    (A8 : nsIn K mainGlobals "shows_blind" = some (some (.ref g8)))
    (L8 : K.lookup g8 = some ⟨oce8, ode8, .func (PySem.W.fnOf "shows_blind" "shows_blind" (defArgs (topS 8)) (defBody (topS 8)) (defScope (topS 8)) .none kVe8 dce8 pme8 ane8 cde8 cte8), sle8⟩)
    (H8 : initB K g8 cde8 "shows_blind" = true)
    (A9 : nsIn K mainGlobals "classes_of" = some (some (.ref g9)))
    (L9 : K.lookup g9 = some ⟨oce9, ode9, .func (PySem.W.fnOf "classes_of" "classes_of" (defArgs (topS 9)) (defBody (topS 9)) (defScope (topS 9)) .none kVe9 dce9 pme9 ane9 cde9 cte9), sle9⟩)
    (H9 : initB K g9 cde9 "classes_of" = true)
    (A10 : nsIn K mainGlobals "is_fraction" = some (some (.ref g10)))
    (L10 : K.lookup g10 = some ⟨oce10, ode10, .func (PySem.W.fnOf "is_fraction" "is_fraction" (defArgs (topS 10)) (defBody (topS 10)) (defScope (topS 10)) .none kVe10 dce10 pme10 ane10 cde10 cte10), sle10⟩)
    (H10 : initB K g10 cde10 "is_fraction" = true)
    (A11 : nsIn K mainGlobals "is_weighed_once" = some (some (.ref g11)))
    (L11 : K.lookup g11 = some ⟨oce11, ode11, .func (PySem.W.fnOf "is_weighed_once" "is_weighed_once" (defArgs (topS 11)) (defBody (topS 11)) (defScope (topS 11)) .none kVe11 dce11 pme11 ane11 cde11 cte11), sle11⟩)
    (H11 : initB K g11 cde11 "is_weighed_once" = true)
    (A12 : nsIn K mainGlobals "is_values" = some (some (.ref g12)))
    (L12 : K.lookup g12 = some ⟨oce12, ode12, .func (PySem.W.fnOf "is_values" "is_values" (defArgs (topS 12)) (defBody (topS 12)) (defScope (topS 12)) .none kVe12 dce12 pme12 ane12 cde12 cte12), sle12⟩)
    (H12 : initB K g12 cde12 "is_values" = true)
    (A13 : nsIn K mainGlobals "class_row" = some (some (.ref g13)))
    (L13 : K.lookup g13 = some ⟨oce13, ode13, .func (PySem.W.fnOf "class_row" "class_row" (defArgs (topS 13)) (defBody (topS 13)) (defScope (topS 13)) .none kVe13 dce13 pme13 ane13 cde13 cte13), sle13⟩)
    (H13 : initB K g13 cde13 "class_row" = true)
    (A14 : nsIn K mainGlobals "row_of_ones" = some (some (.ref g14)))
    (L14 : K.lookup g14 = some ⟨oce14, ode14, .func (PySem.W.fnOf "row_of_ones" "row_of_ones" (defArgs (topS 14)) (defBody (topS 14)) (defScope (topS 14)) .none kVe14 dce14 pme14 ane14 cde14 cte14), sle14⟩)
    (H14 : initB K g14 cde14 "row_of_ones" = true)
    (A15 : nsIn K mainGlobals "pivots_of" = some (some (.ref g15)))
    (L15 : K.lookup g15 = some ⟨oce15, ode15, .func (PySem.W.fnOf "pivots_of" "pivots_of" (defArgs (topS 15)) (defBody (topS 15)) (defScope (topS 15)) .none kVe15 dce15 pme15 ane15 cde15 cte15), sle15⟩)
    (H15 : initB K g15 cde15 "pivots_of" = true)
    (A16 : nsIn K mainGlobals "cleared" = some (some (.ref g16)))
    (L16 : K.lookup g16 = some ⟨oce16, ode16, .func (PySem.W.fnOf "cleared" "cleared" (defArgs (topS 16)) (defBody (topS 16)) (defScope (topS 16)) .none kVe16 dce16 pme16 ane16 cde16 cte16), sle16⟩)
    (H16 : initB K g16 cde16 "cleared" = true)
    (A17 : nsIn K mainGlobals "without" = some (some (.ref g17)))
    (L17 : K.lookup g17 = some ⟨oce17, ode17, .func (PySem.W.fnOf "without" "without" (defArgs (topS 17)) (defBody (topS 17)) (defScope (topS 17)) .none kVe17 dce17 pme17 ane17 cde17 cte17), sle17⟩)
    (H17 : initB K g17 cde17 "without" = true)
    (A18 : nsIn K mainGlobals "first_used" = some (some (.ref g18)))
    (L18 : K.lookup g18 = some ⟨oce18, ode18, .func (PySem.W.fnOf "first_used" "first_used" (defArgs (topS 18)) (defBody (topS 18)) (defScope (topS 18)) .none kVe18 dce18 pme18 ane18 cde18 cte18), sle18⟩)
    (H18 : initB K g18 cde18 "first_used" = true)
    (A19 : nsIn K mainGlobals "unseen_values" = some (some (.ref g19)))
    (L19 : K.lookup g19 = some ⟨oce19, ode19, .func (PySem.W.fnOf "unseen_values" "unseen_values" (defArgs (topS 19)) (defBody (topS 19)) (defScope (topS 19)) .none kVe19 dce19 pme19 ane19 cde19 cte19), sle19⟩)
    (H19 : initB K g19 cde19 "unseen_values" = true)
    (A21 : nsIn K mainGlobals "_law_draws" = some (some (.ref g21)))
    (L21 : K.lookup g21 = some ⟨oce21, ode21, .func (PySem.W.fnOf "_law_draws" "_law_draws" (defArgs (topS 21)) (defBody (topS 21)) (defScope (topS 21)) .none kVe21 dce21 pme21 ane21 cde21 cte21), sle21⟩)
    (H21 : initB K g21 cde21 "_law_draws" = true)
    (A22 : nsIn K mainGlobals "_law_below" = some (some (.ref g22)))
    (L22 : K.lookup g22 = some ⟨oce22, ode22, .func (PySem.W.fnOf "_law_below" "_law_below" (defArgs (topS 22)) (defBody (topS 22)) (defScope (topS 22)) .none kVe22 dce22 pme22 ane22 cde22 cte22), sle22⟩)
    (H22 : initB K g22 cde22 "_law_below" = true)
    (A23 : nsIn K mainGlobals "_law_pick" = some (some (.ref g23)))
    (L23 : K.lookup g23 = some ⟨oce23, ode23, .func (PySem.W.fnOf "_law_pick" "_law_pick" (defArgs (topS 23)) (defBody (topS 23)) (defScope (topS 23)) .none kVe23 dce23 pme23 ane23 cde23 cte23), sle23⟩)
    (H23 : initB K g23 cde23 "_law_pick" = true)
    (A24 : nsIn K mainGlobals "_law_gcd" = some (some (.ref g24)))
    (L24 : K.lookup g24 = some ⟨oce24, ode24, .func (PySem.W.fnOf "_law_gcd" "_law_gcd" (defArgs (topS 24)) (defBody (topS 24)) (defScope (topS 24)) .none kVe24 dce24 pme24 ane24 cde24 cte24), sle24⟩)
    (H24 : initB K g24 cde24 "_law_gcd" = true)
    (A25 : nsIn K mainGlobals "_law_samplers" = some (some (.ref g25)))
    (L25 : K.lookup g25 = some ⟨oce25, ode25, .func (PySem.W.fnOf "_law_samplers" "_law_samplers" (defArgs (topS 25)) (defBody (topS 25)) (defScope (topS 25)) .none kVe25 dce25 pme25 ane25 cde25 cte25), sle25⟩)
    (H25 : initB K g25 cde25 "_law_samplers" = true)
    (A26 : nsIn K mainGlobals "_law_shuffled" = some (some (.ref g26)))
    (L26 : K.lookup g26 = some ⟨oce26, ode26, .func (PySem.W.fnOf "_law_shuffled" "_law_shuffled" (defArgs (topS 26)) (defBody (topS 26)) (defScope (topS 26)) .none kVe26 dce26 pme26 ane26 cde26 cte26), sle26⟩)
    (H26 : initB K g26 cde26 "_law_shuffled" = true)
    (A27 : nsIn K mainGlobals "_law_marks" = some (some (.ref g27)))
    (L27 : K.lookup g27 = some ⟨oce27, ode27, .func (PySem.W.fnOf "_law_marks" "_law_marks" (defArgs (topS 27)) (defBody (topS 27)) (defScope (topS 27)) .none kVe27 dce27 pme27 ane27 cde27 cte27), sle27⟩)
    (H27 : initB K g27 cde27 "_law_marks" = true)
    (A28 : nsIn K mainGlobals "_law_seen" = some (some (.ref g28)))
    (L28 : K.lookup g28 = some ⟨oce28, ode28, .func (PySem.W.fnOf "_law_seen" "_law_seen" (defArgs (topS 28)) (defBody (topS 28)) (defScope (topS 28)) .none kVe28 dce28 pme28 ane28 cde28 cte28), sle28⟩)
    (H28 : initB K g28 cde28 "_law_seen" = true)
    (A29 : nsIn K mainGlobals "_law_mean" = some (some (.ref g29)))
    (L29 : K.lookup g29 = some ⟨oce29, ode29, .func (PySem.W.fnOf "_law_mean" "_law_mean" (defArgs (topS 29)) (defBody (topS 29)) (defScope (topS 29)) .none kVe29 dce29 pme29 ane29 cde29 cte29), sle29⟩)
    (H29 : initB K g29 cde29 "_law_mean" = true)
    (A30 : nsIn K mainGlobals "_law_is_mean" = some (some (.ref g30)))
    (L30 : K.lookup g30 = some ⟨oce30, ode30, .func (PySem.W.fnOf "_law_is_mean" "_law_is_mean" (defArgs (topS 30)) (defBody (topS 30)) (defScope (topS 30)) .none kVe30 dce30 pme30 ane30 cde30 cte30), sle30⟩)
    (H30 : initB K g30 cde30 "_law_is_mean" = true)
    (A31 : nsIn K mainGlobals "_law_blind_right" = some (some (.ref g31)))
    (L31 : K.lookup g31 = some ⟨oce31, ode31, .func (PySem.W.fnOf "_law_blind_right" "_law_blind_right" (defArgs (topS 31)) (defBody (topS 31)) (defScope (topS 31)) .none kVe31 dce31 pme31 ane31 cde31 cte31), sle31⟩)
    (H31 : initB K g31 cde31 "_law_blind_right" = true)
    (A32 : nsIn K mainGlobals "_law_weights_right" = some (some (.ref g32)))
    (L32 : K.lookup g32 = some ⟨oce32, ode32, .func (PySem.W.fnOf "_law_weights_right" "_law_weights_right" (defArgs (topS 32)) (defBody (topS 32)) (defScope (topS 32)) .none kVe32 dce32 pme32 ane32 cde32 cte32), sle32⟩)
    (H32 : initB K g32 cde32 "_law_weights_right" = true)
    (A33 : nsIn K mainGlobals "law" = some (some (.ref g33)))
    (L33 : K.lookup g33 = some ⟨oce33, ode33, .func (PySem.W.fnOf "law" "law" (defArgs (topS 33)) (defBody (topS 33)) (defScope (topS 33)) .none kVe33 dce33 pme33 ane33 cde33 cte33), sle33⟩)
    (H33 : initB K g33 cde33 "law" = true)
    (z_len : nsIn K mainGlobals "len" = some none)
    (z_abs : nsIn K mainGlobals "abs" = some none)
    (z_int : nsIn K mainGlobals "int" = some none)
    (z_bool : nsIn K mainGlobals "bool" = some none)
    (z_isinstance : nsIn K mainGlobals "isinstance" = some none)
    (z_range : nsIn K mainGlobals "range" = some none)
    (z_max : nsIn K mainGlobals "max" = some none)
    (z_min : nsIn K mainGlobals "min" = some none)
    (z_sum : nsIn K mainGlobals "sum" = some none)
    (z_repr : nsIn K mainGlobals "repr" = some none)
    (z_divmod : nsIn K mainGlobals "divmod" = some none)
    (z_tuple : nsIn K mainGlobals "tuple" = some none)
    (z_sorted : nsIn K mainGlobals "sorted" = some none)
    (z_set : nsIn K mainGlobals "set" = some none)
    (z_enumerate : nsIn K mainGlobals "enumerate" = some none)
    (z_zip : nsIn K mainGlobals "zip" = some none)
    (z_list : nsIn K mainGlobals "list" = some none)
    (z_dict : nsIn K mainGlobals "dict" = some none)
    (z_any : nsIn K mainGlobals "any" = some none)
    (z_all : nsIn K mainGlobals "all" = some none)
    (z_str : nsIn K mainGlobals "str" = some none)
    (z_reversed : nsIn K mainGlobals "reversed" = some none)
    : ∃ fd : FuncData, (∀ (s : Shared) (u : Value), BindsTo s fd ⟨[u], []⟩ [("_law_script", u)]) ∧
      ∀ base : Heap, K.In base → base.Ns mainGlobals mg → (∃ mm, base.Ns sysModules mm) → FnG P w K mg base CX0 8 fa fd ["_law_script"] (spLaw K) := by
  have e := hfa.symm.trans (PySem.W.mg_of X G A33)
  cases e
  obtain ⟨t1, u1, v1⟩ := initB_ok H1
  have F1 := fun_mk (st := topS 1) L1 u1 v1
  have m1 := PySem.W.mg_of X G A1
  have b1 := F1.binds (ps := ["value"]) fun _ _ _ _ _ _ us hl => match us, hl with | [_], _ => rfl
  obtain ⟨t2, u2, v2⟩ := initB_ok H2
  have F2 := fun_mk (st := topS 2) L2 u2 v2
  have m2 := PySem.W.mg_of X G A2
  have b2 := F2.binds (ps := ["one", "other"]) fun _ _ _ _ _ _ us hl => match us, hl with | [_, _], _ => rfl
  obtain ⟨t3, u3, v3⟩ := initB_ok H3
  have F3 := fun_mk (st := topS 3) L3 u3 v3
  have m3 := PySem.W.mg_of X G A3
  have b3 := F3.binds (ps := ["numerator", "denominator"]) fun _ _ _ _ _ _ us hl => match us, hl with | [_, _], _ => rfl
  obtain ⟨t5, u5, v5⟩ := initB_ok H5
  have F5 := fun_mk (st := topS 5) L5 u5 v5
  have m5 := PySem.W.mg_of X G A5
  have b5 := F5.binds (ps := ["length", "samplers"]) fun _ _ _ _ _ _ us hl => match us, hl with | [_, _], _ => rfl
  obtain ⟨t6, u6, v6⟩ := initB_ok H6
  have F6 := fun_mk (st := topS 6) L6 u6 v6
  have m6 := PySem.W.mg_of X G A6
  have b6 := F6.binds (ps := ["length", "samplers", "value"]) fun _ _ _ _ _ _ us hl => match us, hl with | [_, _, _], _ => rfl
  obtain ⟨t7, u7, v7⟩ := initB_ok H7
  have F7 := fun_mk (st := topS 7) L7 u7 v7
  have m7 := PySem.W.mg_of X G A7
  have b7 := F7.binds (ps := ["length", "samplers"]) fun _ _ _ _ _ _ us hl => match us, hl with | [_, _], _ => rfl
  obtain ⟨t8, u8, v8⟩ := initB_ok H8
  have F8 := fun_mk (st := topS 8) L8 u8 v8
  have m8 := PySem.W.mg_of X G A8
  have b8 := F8.binds (ps := ["length", "samplers", "value"]) fun _ _ _ _ _ _ us hl => match us, hl with | [_, _, _], _ => rfl
  obtain ⟨t9, u9, v9⟩ := initB_ok H9
  have F9 := fun_mk (st := topS 9) L9 u9 v9
  have m9 := PySem.W.mg_of X G A9
  have b9 := F9.binds (ps := ["length", "samplers"]) fun _ _ _ _ _ _ us hl => match us, hl with | [_, _], _ => rfl
  obtain ⟨t10, u10, v10⟩ := initB_ok H10
  have F10 := fun_mk (st := topS 10) L10 u10 v10
  have m10 := PySem.W.mg_of X G A10
  have b10 := F10.binds (ps := ["value"]) fun _ _ _ _ _ _ us hl => match us, hl with | [_], _ => rfl
  obtain ⟨t11, u11, v11⟩ := initB_ok H11
  have F11 := fun_mk (st := topS 11) L11 u11 v11
  have m11 := PySem.W.mg_of X G A11
  have b11 := F11.binds (ps := ["tick", "classes", "fractions"]) fun _ _ _ _ _ _ us hl => match us, hl with | [_, _, _], _ => rfl
  obtain ⟨t12, u12, v12⟩ := initB_ok H12
  have F12 := fun_mk (st := topS 12) L12 u12 v12
  have m12 := PySem.W.mg_of X G A12
  have b12 := F12.binds (ps := ["length", "value"]) fun _ _ _ _ _ _ us hl => match us, hl with | [_, _], _ => rfl
  obtain ⟨t13, u13, v13⟩ := initB_ok H13
  have F13 := fun_mk (st := topS 13) L13 u13 v13
  have m13 := PySem.W.mg_of X G A13
  have b13 := F13.binds (ps := ["length", "classes", "at"]) fun _ _ _ _ _ _ us hl => match us, hl with | [_, _, _], _ => rfl
  obtain ⟨t14, u14, v14⟩ := initB_ok H14
  have F14 := fun_mk (st := topS 14) L14 u14 v14
  have m14 := PySem.W.mg_of X G A14
  have b14 := F14.binds (ps := ["length", "classes"]) fun _ _ _ _ _ _ us hl => match us, hl with | [_, _], _ => rfl
  obtain ⟨t15, u15, v15⟩ := initB_ok H15
  have F15 := fun_mk (st := topS 15) L15 u15 v15
  have m15 := PySem.W.mg_of X G A15
  have b15 := F15.binds (ps := ["length", "classes"]) fun _ _ _ _ _ _ us hl => match us, hl with | [_, _], _ => rfl
  obtain ⟨t16, u16, v16⟩ := initB_ok H16
  have F16 := fun_mk (st := topS 16) L16 u16 v16
  have m16 := PySem.W.mg_of X G A16
  have b16 := F16.binds (ps := ["row", "pivots"]) fun _ _ _ _ _ _ us hl => match us, hl with | [_, _], _ => rfl
  obtain ⟨t17, u17, v17⟩ := initB_ok H17
  have F17 := fun_mk (st := topS 17) L17 u17 v17
  have m17 := PySem.W.mg_of X G A17
  have b17 := F17.binds (ps := ["row", "place", "pivot"]) fun _ _ _ _ _ _ us hl => match us, hl with | [_, _, _], _ => rfl
  obtain ⟨t18, u18, v18⟩ := initB_ok H18
  have F18 := fun_mk (st := topS 18) L18 u18 v18
  have m18 := PySem.W.mg_of X G A18
  have b18 := F18.binds (ps := ["row"]) fun _ _ _ _ _ _ us hl => match us, hl with | [_], _ => rfl
  obtain ⟨t19, u19, v19⟩ := initB_ok H19
  have F19 := fun_mk (st := topS 19) L19 u19 v19
  have m19 := PySem.W.mg_of X G A19
  have b19 := F19.binds (ps := ["length", "pivots", "free"]) fun _ _ _ _ _ _ us hl => match us, hl with | [_, _, _], _ => rfl
  obtain ⟨t21, u21, v21⟩ := initB_ok H21
  have F21 := fun_mk (st := topS 21) L21 u21 v21
  have m21 := PySem.W.mg_of X G A21
  have b21 := F21.binds (ps := ["_law_script", "_law_k"]) fun _ _ _ _ _ _ us hl => match us, hl with | [_, _], _ => rfl
  obtain ⟨t22, u22, v22⟩ := initB_ok H22
  have F22 := fun_mk (st := topS 22) L22 u22 v22
  have m22 := PySem.W.mg_of X G A22
  have b22 := F22.binds (ps := ["_law_draws_here", "_law_many"]) fun _ _ _ _ _ _ us hl => match us, hl with | [_, _], _ => rfl
  obtain ⟨t23, u23, v23⟩ := initB_ok H23
  have F23 := fun_mk (st := topS 23) L23 u23 v23
  have m23 := PySem.W.mg_of X G A23
  have b23 := F23.binds (ps := ["_law_draws_here", "_law_items"]) fun _ _ _ _ _ _ us hl => match us, hl with | [_, _], _ => rfl
  obtain ⟨t24, u24, v24⟩ := initB_ok H24
  have F24 := fun_mk (st := topS 24) L24 u24 v24
  have m24 := PySem.W.mg_of X G A24
  have b24 := F24.binds (ps := ["_law_one", "_law_other"]) fun _ _ _ _ _ _ us hl => match us, hl with | [_, _], _ => rfl
  obtain ⟨t25, u25, v25⟩ := initB_ok H25
  have F25 := fun_mk (st := topS 25) L25 u25 v25
  have m25 := PySem.W.mg_of X G A25
  have b25 := F25.binds (ps := ["_law_draws_here", "_law_many"]) fun _ _ _ _ _ _ us hl => match us, hl with | [_, _], _ => rfl
  obtain ⟨t26, u26, v26⟩ := initB_ok H26
  have F26 := fun_mk (st := topS 26) L26 u26 v26
  have m26 := PySem.W.mg_of X G A26
  have b26 := F26.binds (ps := ["_law_draws_here", "_law_items"]) fun _ _ _ _ _ _ us hl => match us, hl with | [_, _], _ => rfl
  obtain ⟨t27, u27, v27⟩ := initB_ok H27
  have F27 := fun_mk (st := topS 27) L27 u27 v27
  have m27 := PySem.W.mg_of X G A27
  have b27 := F27.binds (ps := ["_law_count", "_law_some"]) fun _ _ _ _ _ _ us hl => match us, hl with | [_, _], _ => rfl
  obtain ⟨t28, u28, v28⟩ := initB_ok H28
  have F28 := fun_mk (st := topS 28) L28 u28 v28
  have m28 := PySem.W.mg_of X G A28
  have b28 := F28.binds (ps := ["_law_count", "_law_sampler"]) fun _ _ _ _ _ _ us hl => match us, hl with | [_, _], _ => rfl
  obtain ⟨t29, u29, v29⟩ := initB_ok H29
  have F29 := fun_mk (st := topS 29) L29 u29 v29
  have m29 := PySem.W.mg_of X G A29
  have b29 := F29.binds (ps := ["_law_values", "_law_sampler"]) fun _ _ _ _ _ _ us hl => match us, hl with | [_, _], _ => rfl
  obtain ⟨t30, u30, v30⟩ := initB_ok H30
  have F30 := fun_mk (st := topS 30) L30 u30 v30
  have m30 := PySem.W.mg_of X G A30
  have b30 := F30.binds (ps := ["_law_some", "_law_found", "_law_values"]) fun _ _ _ _ _ _ us hl => match us, hl with | [_, _, _], _ => rfl
  obtain ⟨t31, u31, v31⟩ := initB_ok H31
  have F31 := fun_mk (st := topS 31) L31 u31 v31
  have m31 := PySem.W.mg_of X G A31
  have b31 := F31.binds (ps := ["_law_count", "_law_some", "_law_pair"]) fun _ _ _ _ _ _ us hl => match us, hl with | [_, _, _], _ => rfl
  obtain ⟨t32, u32, v32⟩ := initB_ok H32
  have F32 := fun_mk (st := topS 32) L32 u32 v32
  have m32 := PySem.W.mg_of X G A32
  have b32 := F32.binds (ps := ["_law_draws_here", "_law_count", "_law_some", "_law_found"]) fun _ _ _ _ _ _ us hl => match us, hl with | [_, _, _, _], _ => rfl
  obtain ⟨t33, u33, v33⟩ := initB_ok H33
  have F33 := fun_mk (st := topS 33) L33 u33 v33
  have m33 := PySem.W.mg_of X G A33
  have n_len := PySem.W.mg_none_of X G z_len
  have n_abs := PySem.W.mg_none_of X G z_abs
  have n_int := PySem.W.mg_none_of X G z_int
  have n_bool := PySem.W.mg_none_of X G z_bool
  have n_isinstance := PySem.W.mg_none_of X G z_isinstance
  have n_range := PySem.W.mg_none_of X G z_range
  have n_max := PySem.W.mg_none_of X G z_max
  have n_min := PySem.W.mg_none_of X G z_min
  have n_sum := PySem.W.mg_none_of X G z_sum
  have n_repr := PySem.W.mg_none_of X G z_repr
  have n_divmod := PySem.W.mg_none_of X G z_divmod
  have n_tuple := PySem.W.mg_none_of X G z_tuple
  have n_sorted := PySem.W.mg_none_of X G z_sorted
  have n_set := PySem.W.mg_none_of X G z_set
  have n_enumerate := PySem.W.mg_none_of X G z_enumerate
  have n_zip := PySem.W.mg_none_of X G z_zip
  have n_list := PySem.W.mg_none_of X G z_list
  have n_dict := PySem.W.mg_none_of X G z_dict
  have n_any := PySem.W.mg_none_of X G z_any
  have n_all := PySem.W.mg_none_of X G z_all
  have n_str := PySem.W.mg_none_of X G z_str
  have n_reversed := PySem.W.mg_none_of X G z_reversed
  have nb : NB mg := fun x hx => by
    rw [nbs] at hx
    rcases List.mem_cons.mp hx with rfl | hx
    · exact n_len
    rcases List.mem_cons.mp hx with rfl | hx
    · exact n_abs
    rcases List.mem_cons.mp hx with rfl | hx
    · exact n_int
    rcases List.mem_cons.mp hx with rfl | hx
    · exact n_bool
    rcases List.mem_cons.mp hx with rfl | hx
    · exact n_isinstance
    rcases List.mem_cons.mp hx with rfl | hx
    · exact n_range
    rcases List.mem_cons.mp hx with rfl | hx
    · exact n_max
    rcases List.mem_cons.mp hx with rfl | hx
    · exact n_min
    rcases List.mem_cons.mp hx with rfl | hx
    · exact n_sum
    rcases List.mem_cons.mp hx with rfl | hx
    · exact n_repr
    rcases List.mem_cons.mp hx with rfl | hx
    · exact n_divmod
    rcases List.mem_cons.mp hx with rfl | hx
    · exact n_tuple
    rcases List.mem_cons.mp hx with rfl | hx
    · exact n_sorted
    rcases List.mem_cons.mp hx with rfl | hx
    · exact n_set
    rcases List.mem_cons.mp hx with rfl | hx
    · exact n_enumerate
    rcases List.mem_cons.mp hx with rfl | hx
    · exact n_zip
    rcases List.mem_cons.mp hx with rfl | hx
    · exact n_list
    rcases List.mem_cons.mp hx with rfl | hx
    · exact n_dict
    rcases List.mem_cons.mp hx with rfl | hx
    · exact n_any
    rcases List.mem_cons.mp hx with rfl | hx
    · exact n_all
    rcases List.mem_cons.mp hx with rfl | hx
    · exact n_str
    rcases List.mem_cons.mp hx with rfl | hx
    · exact n_reversed
    cases hx
  refine ⟨PySem.W.fnOf "law" "law" (defArgs (topS 33)) (defBody (topS 33)) (defScope (topS 33)) .none kVe33 dce33 pme33 ane33 cde33 cte33, fun s u => .of_eq rfl, fun base XB _ hm => ?_⟩
  have D_is_whole : Def K mg "is_whole" (topS 1) ["value"] := ⟨_, _, F1, b1, m1⟩
  have D_common_divisor : Def K mg "common_divisor" (topS 2) ["one", "other"] := ⟨_, _, F2, b2, m2⟩
  have D_reduced : Def K mg "reduced" (topS 3) ["numerator", "denominator"] := ⟨_, _, F3, b3, m3⟩
  have D_weights : Def K mg "weights" (topS 5) ["length", "samplers"] := ⟨_, _, F5, b5, m5⟩
  have D_shows_weights : Def K mg "shows_weights" (topS 6) ["length", "samplers", "value"] := ⟨_, _, F6, b6, m6⟩
  have D_blind_pair : Def K mg "blind_pair" (topS 7) ["length", "samplers"] := ⟨_, _, F7, b7, m7⟩
  have D_shows_blind : Def K mg "shows_blind" (topS 8) ["length", "samplers", "value"] := ⟨_, _, F8, b8, m8⟩
  have D_classes_of : Def K mg "classes_of" (topS 9) ["length", "samplers"] := ⟨_, _, F9, b9, m9⟩
  have D_is_fraction : Def K mg "is_fraction" (topS 10) ["value"] := ⟨_, _, F10, b10, m10⟩
  have D_is_weighed_once : Def K mg "is_weighed_once" (topS 11) ["tick", "classes", "fractions"] := ⟨_, _, F11, b11, m11⟩
  have D_is_values : Def K mg "is_values" (topS 12) ["length", "value"] := ⟨_, _, F12, b12, m12⟩
  have D_class_row : Def K mg "class_row" (topS 13) ["length", "classes", "at"] := ⟨_, _, F13, b13, m13⟩
  have D_row_of_ones : Def K mg "row_of_ones" (topS 14) ["length", "classes"] := ⟨_, _, F14, b14, m14⟩
  have D_pivots_of : Def K mg "pivots_of" (topS 15) ["length", "classes"] := ⟨_, _, F15, b15, m15⟩
  have D_cleared : Def K mg "cleared" (topS 16) ["row", "pivots"] := ⟨_, _, F16, b16, m16⟩
  have D_without : Def K mg "without" (topS 17) ["row", "place", "pivot"] := ⟨_, _, F17, b17, m17⟩
  have D_first_used : Def K mg "first_used" (topS 18) ["row"] := ⟨_, _, F18, b18, m18⟩
  have D_unseen_values : Def K mg "unseen_values" (topS 19) ["length", "pivots", "free"] := ⟨_, _, F19, b19, m19⟩
  have D__law_draws : Def K mg "_law_draws" (topS 21) ["_law_script", "_law_k"] := ⟨_, _, F21, b21, m21⟩
  have D__law_below : Def K mg "_law_below" (topS 22) ["_law_draws_here", "_law_many"] := ⟨_, _, F22, b22, m22⟩
  have D__law_pick : Def K mg "_law_pick" (topS 23) ["_law_draws_here", "_law_items"] := ⟨_, _, F23, b23, m23⟩
  have D__law_gcd : Def K mg "_law_gcd" (topS 24) ["_law_one", "_law_other"] := ⟨_, _, F24, b24, m24⟩
  have D__law_samplers : Def K mg "_law_samplers" (topS 25) ["_law_draws_here", "_law_many"] := ⟨_, _, F25, b25, m25⟩
  have D__law_shuffled : Def K mg "_law_shuffled" (topS 26) ["_law_draws_here", "_law_items"] := ⟨_, _, F26, b26, m26⟩
  have D__law_marks : Def K mg "_law_marks" (topS 27) ["_law_count", "_law_some"] := ⟨_, _, F27, b27, m27⟩
  have D__law_seen : Def K mg "_law_seen" (topS 28) ["_law_count", "_law_sampler"] := ⟨_, _, F28, b28, m28⟩
  have D__law_mean : Def K mg "_law_mean" (topS 29) ["_law_values", "_law_sampler"] := ⟨_, _, F29, b29, m29⟩
  have D__law_is_mean : Def K mg "_law_is_mean" (topS 30) ["_law_some", "_law_found", "_law_values"] := ⟨_, _, F30, b30, m30⟩
  have D__law_blind_right : Def K mg "_law_blind_right" (topS 31) ["_law_count", "_law_some", "_law_pair"] := ⟨_, _, F31, b31, m31⟩
  have D__law_weights_right : Def K mg "_law_weights_right" (topS 32) ["_law_draws_here", "_law_count", "_law_some", "_law_found"] := ⟨_, _, F32, b32, m32⟩
  have Flaw := F33
  have CGc := ok_gcd (P := P) (w := w) (base := base) D_common_divisor nb
  have CFu := ok_fu (P := P) (w := w) (base := base) D_first_used nb
  have CWo := ok_wo D_without CGc nb
  have CCl := ok_cl D_cleared CWo nb
  have CCr := ok_cr (P := P) (w := w) (base := base) D_class_row nb
  have CRo := ok_ro (P := P) (w := w) (base := base) D_row_of_ones nb
  have CPv := ok_pvo D_pivots_of CCl CCr CFu CWo nb
  have CRq := ok_rq D_reduced CGc nb
  have CCo := ok_cof D_classes_of CGc nb
  have CWt := ok_wts D_weights CCo CCl CRo CPv CRq nb
  have CUv := ok_uv D_unseen_values CGc nb
  have CBp := ok_bp D_blind_pair CCo CCl CRo CPv CFu CUv nb
  have C1 := ok_draws (P := P) (w := w) (base := base) D__law_draws nb
  have C2 := ok_below (P := P) (w := w) (base := base) D__law_below nb
  have C3 := ok_pick D__law_pick C2 nb
  have CSh := ok_sh D__law_shuffled C2 nb
  have CSm := ok_samQ D__law_samplers C2 C3 CSh nb
  have C4 := ok_lg (P := P) (w := w) (base := base) D__law_gcd nb
  have CMu := ok_mkU D__law_marks C4 nb
  have CMk := CMu.imp fun _ _ _ _ h => Or.inl h
  have CMl := CMu.imp fun _ _ _ _ h => Or.inr h
  have CSn := ok_snQ D__law_seen CMl nb
  have CWh := ok_whQ (P := P) (w := w) (base := base) D_is_whole nb
  have CIf := ok_ifP D_is_fraction CWh CGc nb
  have CW1 := ok_w1 D_is_weighed_once CRq nb
  have CSw := ok_swP D_shows_weights CIf CCo CW1 nb
  have CVl := ok_vl D_is_values CWh nb
  have CSb := ok_sbP D_shows_blind CVl CCo nb
  have CMn := ok_mn D__law_mean CSn nb
  have CIm := ok_im D__law_is_mean CMn nb
  have CBr := ok_br D__law_blind_right CMn CSb CSw nb
  have CWr := ok_wr D__law_weights_right C2 C3 CIm CSb CSw nb
  exact ok_law84 hm Flaw C1 C3 CSm CWt CBp CBr CWr nb
end Ev

open PySem PySem.W PyProof.Rows
set_option maxRecDepth 100000 in
set_option maxHeartbeats 0 in
theorem PySem.Challenge.cw_evensamples_k84_whole_weights_or_a_blind_holds : PySem.Challenge.rw_evensamples_k84_whole_weights_or_a_blind.Holds := by
  w_on; o_law; k_head; (case hw => w_witness2)
  k_fill
  refine Ev.walkG (l := PySem.Challenge.rw_evensamples_k84_whole_weights_or_a_blind) (n := 63) (k := 8) (x := "_law_script") (CX := L2.CX0) (sp := Ev.spLaw) ?noImports rfl (by decide) rfl ⟨rfl, by decide, by decide⟩ (fun w h Y => PySem.W.kIn_of Y) ?F
    (fun _ _ a ns _ _ hS => ⟨a, ns, rfl, hS, fun _ => rfl⟩) (fun _ _ _ _ h => h)
  case noImports => decide +kernel
  case F =>
    intro w mg fa h KX G hmg
    refine' Ev.all_mk KX G hmg ?A1 ?L1 ?H1 ?A2 ?L2 ?H2 ?A3 ?L3 ?H3 ?A5 ?L5 ?H5 ?A6 ?L6 ?H6 ?A7 ?L7 ?H7 ?A8 ?L8 ?H8 ?A9 ?L9 ?H9 ?A10 ?L10 ?H10 ?A11 ?L11 ?H11 ?A12 ?L12 ?H12 ?A13 ?L13 ?H13 ?A14 ?L14 ?H14 ?A15 ?L15 ?H15 ?A16 ?L16 ?H16 ?A17 ?L17 ?H17 ?A18 ?L18 ?H18 ?A19 ?L19 ?H19 ?A21 ?L21 ?H21 ?A22 ?L22 ?H22 ?A23 ?L23 ?H23 ?A24 ?L24 ?H24 ?A25 ?L25 ?H25 ?A26 ?L26 ?H26 ?A27 ?L27 ?H27 ?A28 ?L28 ?H28 ?A29 ?L29 ?H29 ?A30 ?L30 ?H30 ?A31 ?L31 ?H31 ?A32 ?L32 ?H32 ?A33 ?L33 ?H33 ?z_len ?z_abs ?z_int ?z_bool ?z_isinstance ?z_range ?z_max ?z_min ?z_sum ?z_repr ?z_divmod ?z_tuple ?z_sorted ?z_set ?z_enumerate ?z_zip ?z_list ?z_dict ?z_any ?z_all ?z_str ?z_reversed
    (case A1 => k_is)
    (case L1 => k_is)
    (case H1 => kernel_rfl)
    (case A2 => k_is)
    (case L2 => k_is)
    (case H2 => kernel_rfl)
    (case A3 => k_is)
    (case L3 => k_is)
    (case H3 => kernel_rfl)
    (case A5 => k_is)
    (case L5 => k_is)
    (case H5 => kernel_rfl)
    (case A6 => k_is)
    (case L6 => k_is)
    (case H6 => kernel_rfl)
    (case A7 => k_is)
    (case L7 => k_is)
    (case H7 => kernel_rfl)
    (case A8 => k_is)
    (case L8 => k_is)
    (case H8 => kernel_rfl)
    (case A9 => k_is)
    (case L9 => k_is)
    (case H9 => kernel_rfl)
    (case A10 => k_is)
    (case L10 => k_is)
    (case H10 => kernel_rfl)
    (case A11 => k_is)
    (case L11 => k_is)
    (case H11 => kernel_rfl)
    (case A12 => k_is)
    (case L12 => k_is)
    (case H12 => kernel_rfl)
    (case A13 => k_is)
    (case L13 => k_is)
    (case H13 => kernel_rfl)
    (case A14 => k_is)
    (case L14 => k_is)
    (case H14 => kernel_rfl)
    (case A15 => k_is)
    (case L15 => k_is)
    (case H15 => kernel_rfl)
    (case A16 => k_is)
    (case L16 => k_is)
    (case H16 => kernel_rfl)
    (case A17 => k_is)
    (case L17 => k_is)
    (case H17 => kernel_rfl)
    (case A18 => k_is)
    (case L18 => k_is)
    (case H18 => kernel_rfl)
    (case A19 => k_is)
    (case L19 => k_is)
    (case H19 => kernel_rfl)
    (case A21 => k_is)
    (case L21 => k_is)
    (case H21 => kernel_rfl)
    (case A22 => k_is)
    (case L22 => k_is)
    (case H22 => kernel_rfl)
    (case A23 => k_is)
    (case L23 => k_is)
    (case H23 => kernel_rfl)
    (case A24 => k_is)
    (case L24 => k_is)
    (case H24 => kernel_rfl)
    (case A25 => k_is)
    (case L25 => k_is)
    (case H25 => kernel_rfl)
    (case A26 => k_is)
    (case L26 => k_is)
    (case H26 => kernel_rfl)
    (case A27 => k_is)
    (case L27 => k_is)
    (case H27 => kernel_rfl)
    (case A28 => k_is)
    (case L28 => k_is)
    (case H28 => kernel_rfl)
    (case A29 => k_is)
    (case L29 => k_is)
    (case H29 => kernel_rfl)
    (case A30 => k_is)
    (case L30 => k_is)
    (case H30 => kernel_rfl)
    (case A31 => k_is)
    (case L31 => k_is)
    (case H31 => kernel_rfl)
    (case A32 => k_is)
    (case L32 => k_is)
    (case H32 => kernel_rfl)
    (case A33 => k_is)
    (case L33 => k_is)
    (case H33 => kernel_rfl)
    (case z_len => k_is)
    (case z_abs => k_is)
    (case z_int => k_is)
    (case z_bool => k_is)
    (case z_isinstance => k_is)
    (case z_range => k_is)
    (case z_max => k_is)
    (case z_min => k_is)
    (case z_sum => k_is)
    (case z_repr => k_is)
    (case z_divmod => k_is)
    (case z_tuple => k_is)
    (case z_sorted => k_is)
    (case z_set => k_is)
    (case z_enumerate => k_is)
    (case z_zip => k_is)
    (case z_list => k_is)
    (case z_dict => k_is)
    (case z_any => k_is)
    (case z_all => k_is)
    (case z_str => k_is)
    (case z_reversed => k_is)

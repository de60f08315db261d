import PyProof.Rows.All
import Wide.All
import OpenK.AllK
import Wide.FinOn
import PySem.Challenge.RW_evensamples_k44_exact_covers_or_not
import HandS.ForMost
import HandS.Wide
import HandS.More
import HandS.Set
import HandS.SetBool
import HandS.SetFor
import HandS.TupSets
import HandS.IsInst
import HandS.TupAny
import HandS.TupMul
import HandS.DictComp
import HandS.WideBits
import HandS.Zip
import HandS.Conv
import HandS.Iter
import KE.GoesMore
import HandS.Walk
import PyProof.PureInt
import PyProof.NeKinds
import PyProof.EqKinds
import PyProof.FactsAll.dict
import KE.KEqNest
import PyProof.Rows.IntBool
import PyProof.CallStr
import HandS.Exc
import HandS.ExcInit
import KE.KExcIs
import HandS.ExcOwn
import HandS.WordsExc
import HandS.ExcValue
import HandS.EndTab
import KE.KNestM
set_option Elab.async false
set_option linter.all false
set_option maxRecDepth 100000
set_option maxHeartbeats 4000000
/-! ## Promises of defs that are called while no repr is under way -/
namespace Ev
open PySem PySem.Spec PyProof.Rows L2

/-- the promise of a def, for a stack without a repr that is under way -/
structure FnG (P : Program) (w : World) (K : PySem.W.Frag) (mg : Str → Option Value)
    (base : Heap) (CX : CXT) (k : Nat) (f : Addr) (fd : FuncData) (ps : List Str) (sp : Sp) : Prop where
  many : ∀ vs H Q E, sp vs H Q E → vs.length = ps.length
  go : ∀ (A : Around) (outer : List Env) (s : Shared) (H : Hp) (args : Args)
      (us : List Value) (vs : List V) (Q : VK) (E : XK),
    Room k A → A.guards = some [] → Env0 P w K mg base A outer s H → BindsTo s fd args (ps.zip us) →
      Vals vs us → sp vs H Q E → codeAny (model P w) A (.call (.ref f) args) (CR CX outer P w H s Q E) s

section
variable {P : Program} {w : World} {K : PySem.W.Frag} {mg : Str → Option Value} {base : Heap} {CX : CXT}
variable {k : Nat} {f : Addr} {fd : FuncData} {ps : List Str} {sp : Sp}
theorem FnG.of (F : FnOk P w K mg base CX k f fd ps sp) : FnG P w K mg base CX k f fd ps sp :=
  ⟨F.len, fun A o s H args us vs Q E hr _ => F.run A o s H args us vs Q E hr⟩
theorem FnG.up {j : Nat} (F : FnG P w K mg base CX j f fd ps sp) (h : j ≤ k) : FnG P w K mg base CX k f fd ps sp :=
  ⟨F.many, fun A o s H args us vs Q E hr => F.go A o s H args us vs Q E (hr.mono h)⟩
end

section
variable {X : Cx} {CX : CXT} {k : Nat} {f : Addr} {fd : FuncData} {ps : List Str} {sp : Sp}
variable {dvs : List V} {ds : List Value} {E : XK} {x : Str} {p pos : Pos} {e : Expr} {es : List Expr} {t : TA}
theorem runG {pins : List (Addr × Obj)} {σ : L2.St} {H : Hp} {s : Shared} {Q : VK} {us : List Value} {vs : List V}
    (F : FnG X.prog X.w X.K X.mg X.base CX k f fd ps sp) (hr : Room k X.A) (gd : X.A.guards = some [])
    (hb : Binds X.K fd ps ds) (hd : Vals dvs ds) (hx : Passes CX X E) (I : Inv X pins σ H s) (r : Vals vs us)
    (h : sp (vs ++ dvs) H Q E) : wpAny (model X.prog X.w) X.A (call (.ref f) us) (EP X pins σ Q) X.xe s := by
  have rr : Vals (vs ++ dvs) (us ++ ds) := r.append hd
  have hl : (us ++ ds).length = ps.length := rr.length.symm.trans (F.many _ _ _ _ h)
  have z := F.go X.A X.stack s H ⟨us, []⟩ (us ++ ds) (vs ++ dvs) Q E hr gd I.env0 (hb s us I.kIn hl) rr h
  refine wpAny_call (codeAny_mono z fun res s' hq => ?_)
  match res, hq with
  | .error e, hq => exact hx pins σ H s e s' I hq
  | .ok (.ret u), hq => exact I.after hq
  | .ok .next, hq => exact False.elim hq
  | .ok .brk, hq => exact False.elim hq
  | .ok .cont, hq => exact False.elim hq
theorem pe_callG (F : FnG X.prog X.w X.K X.mg X.base CX k f fd ps sp) (hr : Room k X.A) (gd : X.A.guards = some [])
    (hg : Gl X x) (hm : X.mg x = some (.ref f)) (hk : PySem.W.keepIn X.K (.ref f) = true) (hb : Binds X.K fd ps ds)
    (hd : Vals dvs ds) (hx : Passes CX X E) (ha : PA X (e :: es) t)
    (hdb : (x == ("__debug__" : Str)) = false := by decide)
    (he : starEach (e :: es) X.env = (false, eval e X.env) :: starEach es X.env := by rfl)
    (hpl : (backTo pos (starEach es X.env)).any (·.1) = false := by rfl) :
    PE X (.Call (.Name x p) (e :: es) [] pos) (tCall sp dvs E t) := by
  constructor
  intro pins s σ H Q I h
  refine wpAny_Call_Name_kw (ld_glob I hg hm ?_ hdb)
  have z := ha.run pos pins s σ H _ I h
  refine PySem.W.callWith_K (h₀ := X.base) I.ok.mod.kin hk (thn z ?_) he hpl
  rintro us s1 ⟨vs, H1, I1, r, q⟩
  exact ⟨I1.kIn, runG F hr gd hb hd hx I1 r q⟩
theorem pe_callG0 (F : FnG X.prog X.w X.K X.mg X.base CX k f fd ps sp) (hr : Room k X.A) (gd : X.A.guards = some [])
    (hg : Gl X x) (hm : X.mg x = some (.ref f)) (hk : PySem.W.keepIn X.K (.ref f) = true) (hb : Binds X.K fd ps ds)
    (hd : Vals dvs ds) (hx : Passes CX X E) (hdb : (x == ("__debug__" : Str)) = false := by decide) :
    PE X (.Call (.Name x p) [] [] pos) (tCall sp dvs E tNil) := by
  constructor
  intro pins s σ H Q I h
  refine wpAny_Call_Name_kw (ld_glob I hg hm ?_ hdb)
  have z := runG (us := []) F hr gd hb hd hx I .nil h
  exact PySem.W.callWith_K0 I.kIn hk z
end

/-- a def by its body -/
theorem fnG_of {CX : CXT} {P : Program} {w : World} {K : PySem.W.Frag} {mg : Str → Option Value} {base : Heap}
    {k : Nat} {f : Addr} {name qual : Str} {params : Arguments} {body : List Stmt} {scope : Scope}
    {dV kV doc pm cdv ct oc : Value} {an od : Option Addr} {osl : Array (Option Value)} {N ps : List Str} {sp : Sp}
    (lk : K.lookup f = some ⟨oc, od, .func (PySem.W.fnOf name qual params body scope dV kV doc pm an cdv ct), osl⟩)
    (hcd : PySem.W.codeIn K cdv qual = true) (S : FnScope N ps scope)
    (len : ∀ vs H Q E, sp vs H Q E → vs.length = ps.length)
    (hbody : ∀ (A : Around) (outer : List Env) (s : Shared) (H : Hp) (vs : List V) (Q : VK) (E : XK),
      Room k (A.deeper (envOfC qual scope s.heap.objs.size f cdv)) → A.guards = some [] → sp vs H Q E →
      ∃ t, PSs (cxOf CX P w K mg base N qual scope f cdv A outer s H E) body t ∧
        t { nx := fun _ H' => Q .non H', rt := Q } (start N vs) H) :
    FnG P w K mg base CX (k + 1) f (PySem.W.fnOf name qual params body scope dV kV doc pm an cdv ct) ps sp := by
  constructor
  · exact len
  intro A outer s H args us vs Q E hr gd e0 hb r hsp
  have old : ∀ b o, base.get? b = some o → s.heap.get? b = some o := fun b o e => (e0.bs b o e).1
  have KX : K.In s.heap := e0.mod.kin.keeps old
  have lim : s.heap.NoLimit := e0.mod.nolimit.keeps old
  have hkind : ∀ y ∈ ps.zip us, scope.names.lookup y.1 = some .local ∨
      (scope.names.lookup y.1 = some .cell ∧
        ((cellsFrom (s.heap.objs.size + 1) scope.names []).lookup y.1).isSome = true) := by
    rintro ⟨n, v⟩ hy
    have hn := (List.of_mem_zip hy).1
    rcases S.par n hn with q | q
    · exact Or.inl q
    · exact Or.inr ⟨q, PySem.W.cellsFrom_some _ _ _ (Or.inl q)⟩
  refine codeAny_call_function hr.depth (KX _ _ lk) rfl S.co S.gen rfl (PySem.W.codeRec_of KX hcd) (hb _ _ _ _ ?_)
  refine wpAny_newFunctionEnv_cells S.kind hkind ?_
  rintro env rfl s1 x
  refine ⟨lim.keeps x.toInCall.keep, codeAny_func ?_⟩
  obtain ⟨t, ht, hq⟩ := hbody A outer s H vs Q E (hr.deeper _) gd hsp
  have I := inv_start (CX := CX) (E := E) S hr.hd e0 (len _ _ _ _ hsp) r x
  refine wpAny_mono (ht.run [] s1 (start N vs) H _ I hq) ?_ (fun _ _ z => z)
  intro fl s' hs
  match fl, hs with
  | .ret u, ⟨v, σ', H', J, rv, q⟩ => exact ⟨v, H', J.os, J.bare, J.base, J.hok, rv, q⟩
  | .next, ⟨σ', H', J, q⟩ => exact ⟨V.non, H', J.os, J.bare, J.base, J.hok, rfl, q⟩
  | .brk, ⟨_, _, _, q⟩ => exact False.elim q
  | .cont, ⟨_, _, _, q⟩ => exact False.elim q

section
variable {P : Program} {w : World} {K : PySem.W.Frag} {mg : Str → Option Value} {base : Heap}
theorem okG {x qual : Str} {st : Stmt} {f : Addr} {fd : FuncData} {N ps : List Str} {k : Nat} {sp : Sp}
    (F : Fun K x qual st f fd) (S : FnScope N ps (defScope st))
    (len : ∀ vs H Q E, sp vs H Q E → vs.length = ps.length)
    (hbody : ∀ (cdv : Value) (A : Around) (outer : List Env) (s : Shared) (H : Hp) (vs : List V) (Q : VK) (E : XK),
      Room k (A.deeper (envOfC qual (defScope st) s.heap.objs.size f cdv)) → A.guards = some [] → sp vs H Q E →
      ∃ t, PSs (cxOf CX0 P w K mg base N qual (defScope st) f cdv A outer s H E).nox (defBody st) t ∧
        t { nx := fun _ H' => Q .non H', rt := Q } (start N vs) H) :
    FnG P w K mg base CX0 (k + 1) f fd ps sp := by
  obtain ⟨oc, od, kV, doc, pm, an, cdv, ct, osl, e, lk, hcd⟩ := F.ex
  subst e
  refine fnG_of lk hcd S len ?_
  intro A outer s H vs Q E hr gd hsp
  obtain ⟨t, h, q⟩ := hbody cdv A outer s H vs Q E hr gd hsp
  exact ⟨t, h.nox, q⟩
end

/-! ### the end of a law, by such a promise -/
theorem law_end {P : Program} {w : World} {K : PySem.W.Frag} {mg mb : Str → Option Value} {CX : CXT} {k : Nat}
    {fa a : Addr} {fd : FuncData} {x : Str} {sp : Sp} {s₁ : Shared} {vs : List Value} {ns : List Int}
    (KX : K.In s₁.heap) (hns : s₁.heap.Ns mainGlobals mg) (hb : s₁.heap.Ns builtinsNs mb)
    (hbb : ∀ x : Str, x ≠ "__name__" → mb x = bootBuiltins x) (hlim : s₁.heap.NoLimit) (hg : s₁.gens = #[])
    (ha : s₁.heap.get? a = some { cls := .type "list", data := .seq vs.toArray }) (hi : IntsAre vs ns)
    (hl : ns.length ≤ sizeLine) (hr : Room k callerA) (hsm : ∃ mm, s₁.heap.Ns sysModules mm)
    (F : ∀ base : Heap, K.In base → base.Ns mainGlobals mg → (∃ mm, base.Ns sysModules mm) → FnG P w K mg base CX k fa fd [x] sp)
    (hbind : ∀ (s : Shared) (u : Value), BindsTo s fd ⟨[u], []⟩ [(x, u)])
    (hsp : ∀ H : Hp, Only H → SqL K H a (ns.map V.int) → sp [.ref a] H (fun v _ => v = .bl true) fun _ _ _ => False)
    (hCX : ∀ H e s', CX [] H s₁ (fun _ _ _ => False) e s' → False) :
    codeAny (model P w) callerA (.call (.ref fa) ⟨[.ref a], []⟩)
      (fun r s' => r = .ok (.ret (.bool true)) ∧ OldK s₁.heap s'.heap ∧ s'.os = s₁.os ∧ AllBare s'.gens) s₁ := by
  have rv := vals_ints hi
  have lenV := hi.length
  have core : ∀ H : Hp, Only H → SqL K H a (ns.map V.int) → HOk P w H s₁.heap → (∀ b, H b ≠ none → b = a) →
      (H a ≠ none → K.lookup a = none) →
      codeAny (model P w) callerA (.call (.ref fa) ⟨[.ref a], []⟩)
        (fun r s' => r = .ok (.ret (.bool true)) ∧ OldK s₁.heap s'.heap ∧ s'.os = s₁.os ∧ AllBare s'.gens) s₁ := by
    intro H hO hS hok hA hK
    have at_a : ∀ {b : Addr} {u : HO}, H b = some u → b = a := fun {b u} q => hA b (by rw [q]; simp)
    have noA : ∀ {b : Addr} {o : Obj} {es : Array DictEntry} {ep : Nat}, s₁.heap.get? b = some o →
        o.data = .dict es ep → H b = none := by
      intro b o es ep e d
      cases q : H b with
      | none => rfl
      | some u =>
        rw [at_a q, ha] at e
        cases e
        exact nomatch d
    have nsK : ∀ {b : Addr} {m : Str → Option Value}, s₁.heap.Ns b m → (hidT s₁.heap H).Ns b m := by
      rintro b m ⟨o, es, ep, e, d, r⟩
      exact ⟨o, es, ep, hidT_get e (noA e d), d, r⟩
    have hKb : K.In (hidT s₁.heap H) := by
      intro b o e
      refine hidT_get (KX b o e) ?_
      cases q : H b with
      | none => rfl
      | some u =>
        have e' := at_a q
        subst e'
        rw [hK (by rw [q]; simp)] at e
        cases e
    have hM : Mod K mg (hidT s₁.heap H) := by
      obtain ⟨mc, h1, h2⟩ := hlim
      exact ⟨hKb, nsK hns, ⟨mb, nsK hb, hbb⟩, ⟨mc, nsK h1, h2⟩⟩
    have e0 : Env0 P w K mg (hidT s₁.heap H) callerA [] s₁ H := by
      refine ⟨rfl, hM, fun b o e => of_hidT e, Nat.le_of_eq (hidT_size _ _), trivial, ?_, hok, .of_eq hg⟩
      intro b hb
      exact absurd (show b ∈ ([] : List Addr) from hb) (by simp)
    have hmods : ∃ mm, (hidT s₁.heap H).Ns sysModules mm := by
      obtain ⟨mm, h1⟩ := hsm
      exact ⟨mm, nsK h1⟩
    have z := (F _ hKb (nsK hns) hmods).go callerA [] s₁ H ⟨[.ref a], []⟩ [.ref a] [.ref a] _ _ hr rfl e0
      (hbind s₁ (.ref a)) (.cons rfl .nil) (hsp H hO hS)
    refine codeAny_mono z fun r s' h => ?_
    match r, h with
    | .error e, h => exact (hCX H e s' h).elim
    | .ok .next, h => exact False.elim h
    | .ok .brk, h => exact False.elim h
    | .ok .cont, h => exact False.elim h
    | .ok (.ret u), ⟨v, H', os, bare, un, hok', r', q⟩ =>
      have q' : v = .bl true := q
      subst q'
      obtain rfl : u = Value.bool true := r'
      refine ⟨rfl, OldK.of_keep ?_, os, bare⟩
      intro b o e
      cases q : H b with
      | none =>
        refine un.keep b o e q ?_ (by simp)
        intro z
        exact absurd (show b ∈ ([] : List Addr) from z) (by simp)
      | some u =>
        rcases hO b with z | ⟨ob, xs, z⟩
        · rw [q] at z
          cases z
        · obtain ⟨e1, _⟩ := hok b _ z
          obtain ⟨e2, _⟩ := hok' b _ (un.frzs b ob _ z)
          rw [e] at e1
          cases e1
          exact e2
  cases hk : K.lookup a with
  | some o =>
    have e := KX a o hk
    rw [ha] at e
    cases e
    refine core (fun _ => none) (fun _ => Or.inl rfl) (Or.inr ⟨_, vs.toArray, _, hk, rfl, rfl, rfl, ?_, ?_⟩) ?_ ?_ ?_
    · rw [List.size_toArray, lenV]
      exact hl
    · simpa using rv
    · intro b u z
      cases (show (none : Option HO) = some u from z)
    · intro b z
      exact absurd rfl z
    · intro z
      exact absurd rfl z
  | none =>
    let o₁ : Obj := { cls := .type "list", data := .seq vs.toArray }
    let H₁ : Hp := fun b => if b = a then some (.frz o₁ (.lst (ns.map V.int))) else none
    have at1 : H₁ a = some (.frz o₁ (.lst (ns.map V.int))) := if_pos rfl
    have off : ∀ b, b ≠ a → H₁ b = none := fun b h => if_neg h
    refine core H₁ (fun b => ?_) (Or.inl (Or.inr ⟨o₁, at1⟩)) (fun b u z => ?_) (fun b z => ?_) fun _ => hk
    · by_cases hb : b = a
      · subst hb
        exact Or.inr ⟨_, _, at1⟩
      · exact Or.inl (off b hb)
    · by_cases hb : b = a
      · subst hb
        rw [at1] at z
        cases z
        refine ⟨ha, ?_, vs, _, rv, ha⟩
        rw [List.length_map]
        exact hl
      · rw [off b hb] at z
        cases z
    · by_cases hb : b = a
      · exact hb
      · exact absurd (off b hb) z

theorem walkG {l : PySem.W.OpenLaw} {n k : Nat} {q : Program} {loose : List Str} {XP : (Str → Option Value) → Heap → Prop}
    {YP : World → Heap → Prop} {d : DefRec} {K : Params → PySem.W.Frag} {CX : CXT} {sp : PySem.W.Frag → Sp} {x : Str}
    (hq : importsNone q = true) (hn : l.most = some n) (hn2 : n ≤ sizeLine) (hdf : d.params.defaults = []) (hr : Room k callerA)
    (hY : ∀ (w : World) (h : Heap), YP w h → (K w.params).In h)
    (F : ∀ (w : World) (mg : Str → Option Value) (fa : Addr) (h : Heap), (K w.params).In h → h.Ns mainGlobals mg →
      mg d.name = some (.ref fa) →
      ∃ fd : FuncData, (∀ (s : Shared) (u : Value), BindsTo s fd ⟨[u], []⟩ [(x, u)]) ∧
        ∀ base : Heap, (K w.params).In base → base.Ns mainGlobals mg → (∃ mm, base.Ns sysModules mm) →
          FnG l.prog w (K w.params) mg base CX k fa fd [x] (sp (K w.params)))
    (hsp : ∀ (K : PySem.W.Frag) (H : Hp) (a : Addr) (ns : List Int), ns.length ≤ n → Only H →
      SqL K H a (ns.map V.int) → sp K [.ref a] H (fun v _ => v = .bl true) fun _ _ _ => False)
    (hCX : ∀ (H : Hp) (s : Shared) (e : Value) (s' : Shared), CX [] H s (fun _ _ _ => False) e s' → False) :
    PySem.W.WalkO q loose XP YP l.row.toRowW d [] (fun f vs => PySem.call f vs) := by
  refine Att.attach_call hn hdf ?_
  intro w s₀ s₁ mg mb fa o pm cd doc a vs ns G Y ho hd hcd hmg hobj hints hlen hg
  have KX := hY w _ Y
  obtain ⟨fd, hb, hF⟩ := F w mg fa _ KX G.T.g hmg
  have hz := Nat.le_trans hlen hn2
  obtain ⟨mm, hmm, _⟩ := (G.T.seer hq).mods
  refine law_end KX G.T.g G.T.b G.T.builtins G.T.nolimit hg hobj hints hz hr ⟨mm, hmm⟩ hF hb ?_ ?_
  · exact fun H hO hS => hsp _ H a ns hlen hO hS
  · exact fun H e s' => hCX H s₁ e s'

/-! ### powers of great numbers -/
def CPowG (i j : Int) : Prop := 0 ≤ j ∧ (Builtin.Int.intBits i : Int) * j ≤ 2 ^ 27
theorem op_powG {X : Cx} : OpR X (binaryOp .Pow) (rI CPowG fun i j => .int (i ^ j.toNat)) :=
  opI fun _ _ _ _ _ _ _ hc q => pow_int hc.1 hc.2 q

/-! ### data at any depth, dicts among them -/
def kD : Key → PyData
  | .inl i => .int i
  | .inr x => .str x
mutual
inductive Da (K : PySem.W.Frag) (H : Hp) : V → PyData → Prop
  | non : Da K H .non .none
  | bl (b : Bool) : Da K H (.bl b) (.bool b)
  | int (i : Int) : Da K H (.int i) (.int i)
  | str (x : Str) : Da K H (.str x) (.str x)
  | lst {a : Addr} {xs : List V} {ds : List PyData} (h : SqL K H a xs) (t : DaAll K H xs ds) : Da K H (.ref a) (.list ds)
  | tup {a : Addr} {xs : List V} {ds : List PyData} (h : SqT K H a xs) (t : DaAll K H xs ds) : Da K H (.ref a) (.tuple ds)
  | dic {a : Addr} {kvs : List (Key × V)} {ds : List (PyData × PyData)} (h : H a = some (.dK kvs)) (t : DaKv K H kvs ds) : Da K H (.ref a) (.dict ds)
inductive DaAll (K : PySem.W.Frag) (H : Hp) : List V → List PyData → Prop
  | nil : DaAll K H [] []
  | cons {v : V} {vs : List V} {d : PyData} {ds : List PyData} (h : Da K H v d) (t : DaAll K H vs ds) : DaAll K H (v :: vs) (d :: ds)
inductive DaKv (K : PySem.W.Frag) (H : Hp) : List (Key × V) → List (PyData × PyData) → Prop
  | nil : DaKv K H [] []
  | cons {k : Key} {v : V} {kvs : List (Key × V)} {d : PyData} {ds : List (PyData × PyData)} (h : Da K H v d) (t : DaKv K H kvs ds) :
      DaKv K H ((k, v) :: kvs) ((kD k, d) :: ds)
end
section
variable {K : PySem.W.Frag} {H H' : Hp}
theorem seqT_mono (s : Same H H') {a : Addr} {xs : List V} (h : SqT K H a xs) : SqT K H' a xs := by
  rcases h with (e | ⟨o, e⟩) | e
  · exact .inl (.inl (s _ _ e))
  · exact .inl (.inr ⟨o, s _ _ e⟩)
  · exact .inr e
mutual
theorem Da.mono (s : Same H H') : ∀ {v : V} {d : PyData}, Da K H v d → Da K H' v d
  | _, _, .non => .non
  | _, _, .bl b => .bl b
  | _, _, .int i => .int i
  | _, _, .str x => .str x
  | _, _, .lst h t => .lst (s.seq h) (DaAll.mono s t)
  | _, _, .tup h t => .tup (seqT_mono s h) (DaAll.mono s t)
  | _, _, .dic h t => .dic (s _ _ h) (DaKv.mono s t)
theorem DaAll.mono (s : Same H H') : ∀ {vs : List V} {ds : List PyData}, DaAll K H vs ds → DaAll K H' vs ds
  | _, _, .nil => .nil
  | _, _, .cons h t => .cons (Da.mono s h) (DaAll.mono s t)
theorem DaKv.mono (s : Same H H') : ∀ {vs : List (Key × V)} {ds : List (PyData × PyData)}, DaKv K H vs ds → DaKv K H' vs ds
  | _, _, .nil => .nil
  | _, _, .cons h t => .cons (Da.mono s h) (DaKv.mono s t)
end
end
section
variable {X : Cx} {pins : List (Addr × Obj)} {σ : L2.St} {H : Hp} {s : Shared}
theorem key_reads {h : Heap} {k : Key} {u : Value} (e : keyIs k u = true) : Reads h u (kD k) [] := by
  rcases keyIs_shape e with ⟨i, t, rfl, rfl⟩ | ⟨x, t, rfl, rfl⟩
  · exact .int i t
  · exact .str x t
/-- a list does not stand where the modules' dict stands -/
theorem not_mods (hm : ∃ mm, X.base.Ns sysModules mm) (I : Inv X pins σ H s) {a : Addr} {o : Obj} {vs : Array Value} {n : Nat}
    (ho : s.heap.get? a = some o) (hd : o.data = .seq vs n) : sysModules ≠ a := by
  rintro rfl
  obtain ⟨mm, om, es, ep, e1, e2, _⟩ := hm
  have e3 := I.bk _ _ e1
  rw [ho] at e3
  cases e3
  rw [hd] at e2
  cases e2
mutual
theorem Da.reads (hm : ∃ mm, X.base.Ns sysModules mm) (I : Inv X pins σ H s) : ∀ (d : PyData) (v : V) (u : Value), Da X.K H v d → RelV v u → ∃ as, Reads s.heap u d as ∧ sysModules ∉ as
  | .none, _, _, h, r => by
    cases h
    cases r
    exact ⟨_, .none, by simp⟩
  | .bool b, _, _, h, r => by
    cases h
    cases r
    exact ⟨_, .bool b, by simp⟩
  | .int i, _, _, h, r => by
    cases h
    obtain ⟨t, rfl⟩ := r
    exact ⟨_, .int i t, by simp⟩
  | .str x, _, _, h, r => by
    cases h
    obtain ⟨t, rfl⟩ := r
    exact ⟨_, .str x t, by simp⟩
  | .list ds, _, _, h, r => by
    cases h with
    | lst hs ha =>
      cases r
      obtain ⟨its, rv, ⟨o, n, ho, hc, _, hd⟩, _⟩ := I.list hs
      obtain ⟨as, hr, no⟩ := Da.readsAll hm I ds _ its ha rv
      refine ⟨_, .list ho hc hd hr, ?_⟩
      rw [List.mem_cons, not_or]
      exact ⟨not_mods hm I ho hd, no⟩
  | .tuple ds, _, _, h, r => by
    cases h with
    | tup hs ha =>
      cases r
      obtain ⟨its, rv, ⟨o, ho, hc, n, hd⟩, _⟩ := I.tuple hs
      obtain ⟨as, hr, no⟩ := Da.readsAll hm I ds _ its ha rv
      exact ⟨_, .tuple ho hc hd hr, no⟩
  | .dict ds, _, _, h, r => by
    cases h with
    | @dic a kvs _ he hk =>
      cases r
      have ok : ObjOk X.prog X.w H s.heap a (.dK kvs) := I.hok a _ he
      obtain ⟨_, ns, vs, kv, o, es, ep, ho, ex, hd, _, ps, _⟩ := ok
      obtain ⟨as, bs, h1, h2, n1, n2⟩ := Da.readsKv hm I ds kvs vs es.toList hk kv ps
      refine ⟨_, .dict ho ex.1 hd h1 h2, ?_⟩
      rw [List.mem_append, List.mem_cons, not_or, not_or]
      refine ⟨⟨fun z => ?_, n1⟩, n2⟩
      rw [← z] at ns
      exact absurd ns (by decide)
theorem Da.readsAll (hm : ∃ mm, X.base.Ns sysModules mm) (I : Inv X pins σ H s) : ∀ (ds : List PyData) (vs : List V) (us : List Value), DaAll X.K H vs ds → Vals vs us → ∃ as, ReadsAll s.heap us ds as ∧ sysModules ∉ as
  | [], _, _, h, r => by
    cases h
    cases r
    exact ⟨_, .nil, by simp⟩
  | d :: ds, _, _, h, r => by
    cases h with
    | cons h1 h2 =>
      cases r with
      | cons r1 r2 =>
        obtain ⟨as, q1, n1⟩ := Da.reads hm I d _ _ h1 r1
        obtain ⟨bs, q2, n2⟩ := Da.readsAll hm I ds _ _ h2 r2
        refine ⟨_, .cons q1 q2, ?_⟩
        rw [List.mem_append, not_or]
        exact ⟨n1, n2⟩
theorem Da.readsKv (hm : ∃ mm, X.base.Ns sysModules mm) (I : Inv X pins σ H s) : ∀ (ds : List (PyData × PyData)) (kvs : List (Key × V)) (vs : List (Key × Value)) (es : List DictEntry), DaKv X.K H kvs ds → KV kvs vs →
    Pairs (mixKind X.prog X.w) es vs → ∃ as bs, ReadsAll s.heap (es.map (·.key)) (ds.map (·.1)) as ∧ ReadsAll s.heap (es.map (·.val)) (ds.map (·.2)) bs ∧ sysModules ∉ as ∧ sysModules ∉ bs
  | [], _, _, _, h, r, p => by
    cases h
    cases r
    cases p
    exact ⟨_, _, .nil, .nil, by simp, by simp⟩
  | d :: ds, _, _, _, h, r, p => by
    cases h with
    | cons h1 h2 =>
      cases r with
      | cons r1 r2 =>
        cases p with
        | cons p1 p2 p3 =>
          obtain ⟨e1, e2⟩ := r1
          obtain ⟨as, q1, n1⟩ := Da.reads hm I _ _ _ h1 e2
          obtain ⟨cs, bs, q2, q3, n2, n3⟩ := Da.readsKv hm I ds _ _ _ h2 r2 p3
          rw [← p2] at q1
          rw [← e1] at p1
          refine ⟨_, _, .cons (key_reads p1) q2, .cons q1 q3, by simpa using n2, ?_⟩
          rw [List.mem_append, not_or]
          exact ⟨n1, n3⟩
end
end
/-! ### repr of data -/
def rRepr (K : PySem.W.Frag) : List V → Hp → VK → Prop := fun xs H Q =>
  ∃ (a : Addr) (d : PyData), xs = [.ref a] ∧ Da K H (.ref a) d ∧ d.showable = true ∧ d.depth ≤ 64 ∧ d.shown.length ≤ sizeLine ∧ Q (.str d.shown) H
theorem call_repr {X : Cx} (hm : ∃ mm, X.base.Ns sysModules mm) (gd : X.A.guards = some []) (hu : X.A.units + 70 < cLine) :
    CallR X (.builtin "repr") (rRepr X.K) := by
  intro pins s σ H xs us Q I r h
  obtain ⟨a, d, rfl, hs, sh, dp, sz, q⟩ := h
  cases r with
  | cons r1 r2 =>
    cases r2
    obtain ⟨as, rd, sy⟩ := Da.reads hm I d _ _ hs r1
    obtain rfl := r1
    refine repr_of_reads' rd sh (fun _ => sy) gd (by omega) (fun _ _ e => e) (fun h' u tk k => ?_) sz
    exact ⟨.str d.shown, H, I.kept (h' := h') (t' := tk) k, ⟨u, rfl⟩, q⟩
end Ev

/-! ## What an expression gives, while all that is tracked stands -/
namespace Ev
open PySem PySem.Spec PyProof.Rows L2
theorem PE.imp {X : Cx} {e : Expr} {t t' : TE} (h : PE X e t) (i : ∀ σ H Q, t' σ H Q → t σ H Q) : PE X e t' :=
  ⟨fun pins s σ H Q I z => h.run pins s σ H Q I (i σ H Q z)⟩
theorem Same.rfl' {H : Hp} : Same H H := fun _ _ e => e
theorem same_put {H : Hp} {p : Addr} {o : HO} (h : H p = none) : Same H (upd H p o) := fun b x e => by
  rw [upd_ne (ne_of_none e h)]
  exact e
/-- all but p stands as it stood -/
def Bu (p : Addr) (H H' : Hp) : Prop := ∀ b o, b ≠ p → H b = some o → H' b = some o
theorem Bu.refl {p : Addr} {H : Hp} : Bu p H H := fun _ _ _ e => e
theorem Bu.trans {p : Addr} {H H1 H2 : Hp} (h : Bu p H H1) (k : Bu p H1 H2) : Bu p H H2 := fun b o n e => k b o n (h b o n e)
theorem Bu.put {p : Addr} {H : Hp} {o : HO} : Bu p H (upd H p o) := fun b _ n e => by
  rw [upd_ne n]
  exact e
theorem Bu.new {p q : Addr} {H : Hp} {o : HO} (h : H q = none) : Bu p H (upd H q o) := fun b _ _ e => by
  rw [upd_ne (ne_of_none e h)]
  exact e
theorem Bu.of {p : Addr} {H H' : Hp} (h : Same H H') : Bu p H H' := fun b o _ e => h b o e
structure GP where
  p : Hp → V → Prop
  mono : ∀ {H H' : Hp} {u : V}, Same H H' → p H u → p H' u
def AllG (Gs : List GP) (H : Hp) (us : List V) : Prop := Paired (fun (G : GP) u => G.p H u) Gs us
theorem AllG.mono {H H' : Hp} (s : Same H H') : ∀ {Gs : List GP} {us : List V}, AllG Gs H us → AllG Gs H' us
  | _, _, .nil => .nil
  | G :: _, _, .cons h t => .cons (G.mono s h) (AllG.mono s t)
theorem AllG.append {H : Hp} : ∀ {Gs Gs' : List GP} {us us' : List V}, AllG Gs H us → AllG Gs' H us' → AllG (Gs ++ Gs') H (us ++ us')
  | _, _, _, _, .nil, k => k
  | _ :: _, _, _, _, .cons h t, k => .cons h (AllG.append t k)
def gEq (v : V) : GP := ⟨fun _ u => u = v, fun _ h => h⟩
def gLst (Gs : List GP) : GP := ⟨fun H u => ∃ p us, u = .ref p ∧ H p = some (.lst us) ∧ AllG Gs H us, fun s ⟨p, us, h1, h2, h3⟩ => ⟨p, us, h1, s _ _ h2, h3.mono s⟩⟩
def Gives (H0 : Hp) (te : TE) (G : GP) (σ : L2.St) : Prop := ∀ (H : Hp) (Q : VK), Same H0 H → (∀ H' u, Same H H' → G.p H' u → Q u H') → te σ H Q
def GivesL (H0 : Hp) (ta : TA) (Gs : List GP) (σ : L2.St) : Prop := ∀ (H : Hp) (Q : List V → Hp → Prop), Same H0 H → (∀ H' us, Same H H' → AllG Gs H' us → Q us H') → ta σ H Q
section
variable {H0 : Hp} {σ : L2.St} {te te' : TE} {ta : TA} {G : GP} {Gs Gs' : List GP} {i : Nat} {v : V} {C : Addr} {D : Ends} {rest : TS}
theorem g_nil : GivesL H0 tNil [] σ := fun H Q _ q => q H [] Same.rfl' .nil
theorem g_cons (h : Gives H0 te G σ) (t : GivesL H0 ta Gs σ) : GivesL H0 (tCons te ta) (G :: Gs) σ := fun H Q s q =>
  h H _ s fun H1 u s1 g1 => t H1 _ (s.trans s1) fun H2 us s2 g2 => q H2 (u :: us) (s1.trans s2) (.cons (G.mono s2 g1) g2)
theorem g_lst (h : GivesL H0 ta Gs σ) (hz : Gs.length ≤ 1000 := by simp) : Gives H0 (tLst ta) (gLst Gs) σ := fun H Q s q =>
  h H _ s fun H1 us s1 g1 => by
    have hl : us.length = Gs.length := (Paired.length g1).symm
    refine ⟨?_, fun p np => ?_⟩
    · have y := sizeLine_eq
      omega
    · have s2 := same_put (o := .lst us) np
      exact q _ _ (s1.trans s2) ⟨p, us, rfl, upd_same, g1.mono s2⟩
theorem g_cat (h : Gives H0 te (gLst Gs) σ) (h' : Gives H0 te' (gLst Gs') σ) (hz : Gs.length + Gs'.length ≤ 1000 := by simp) :
    Gives H0 (tOp rCat te te') (gLst (Gs ++ Gs')) σ := fun H Q s q =>
  h H _ s fun H1 u s1 ⟨p, us, e1, h1, g1⟩ => h' H1 _ (s.trans s1) fun H2 u' s2 ⟨p', us', e2, h2, g2⟩ => by
    have l1 : us.length = Gs.length := (Paired.length g1).symm
    have l2 : us'.length = Gs'.length := (Paired.length g2).symm
    refine ⟨p, p', us, us', e1, e2, s2 _ _ h1, h2, ?_, fun r nr => ?_⟩
    · have y := sizeLine_eq
      omega
    · have s3 := same_put (o := .lst (us ++ us')) nr
      exact q _ _ ((s1.trans s2).trans s3) ⟨r, us ++ us', rfl, upd_same, AllG.append (g1.mono (s2.trans s3)) (g2.mono s3)⟩
theorem g_var (hv : σ[i]? = some (some v)) (g : G.p H0 v) : Gives H0 (tVar i) G σ := fun H Q s q => ⟨v, hv, q H v Same.rfl' (G.mono s g)⟩
theorem g_eq (hv : σ[i]? = some (some v)) : Gives H0 (tVar i) (gEq v) σ := g_var hv rfl
theorem s_set (h : Gives H0 te G σ) (k : ∀ H' u, Same H0 H' → G.p H' u → rest D (σ.set i (some u)) H') : tSeq (tAsg te (gName i)) rest D σ H0 :=
  h H0 _ Same.rfl' fun H' u s g => k H' u s g
theorem s_ret (h : Gives H0 te G σ) (k : ∀ H' u, Same H0 H' → G.p H' u → D.rt u H') : tRet te D σ H0 :=
  h H0 _ Same.rfl' fun H' u s g => k H' u s g
end
/-- the abstract heap without p -/
def but (H : Hp) (p : Addr) : Hp := fun b => if b = p then none else H b
theorem but_ne {H : Hp} {p b : Addr} (h : b ≠ p) : but H p b = H b := if_neg h
theorem but_same {H H' : Hp} {p : Addr} (s : Same H H') : Same (but H p) (but H' p) := fun b o e => by
  by_cases h : b = p
  · rw [h] at e
    have z : but H p p = none := if_pos rfl
    rw [z] at e
    cases e
  · rw [but_ne h] at e ⊢
    exact s _ _ e
theorem but_le {H H' : Hp} {p : Addr} (s : Bu p H H') : Same (but H p) H' := fun b o e => by
  by_cases h : b = p
  · rw [h] at e
    have z : but H p p = none := if_pos rfl
    rw [z] at e
    cases e
  · rw [but_ne h] at e
    exact s _ _ h e
/-- data that do not hold p -/
def gDa (K : PySem.W.Frag) (p : Addr) (d : PyData) : GP := ⟨fun H u => Da K (but H p) u d, fun s h => h.mono (but_same s)⟩
section
variable {K : PySem.W.Frag} {p : Addr} {op : HO} {H0 : Hp} {σ : L2.St} {te : TE} {ta : TA} {G : GP} {Gs : List GP} {v : V} {d : PyData} {ds : List PyData}
theorem ne_new {H : Hp} {q : Addr} (hp : H0 p = some op) (s : Same H0 H) (nq : H q = none) : q ≠ p := fun z => by
  rw [z, s _ _ hp] at nq
  cases nq
theorem g_c (h : ∀ H, G.p H v) : Gives H0 (tC v) G σ := fun H Q _ q => q H v Same.rfl' (h H)
theorem g_neg {i : Int} : Gives H0 (tUn (rU fun i => .int (-i)) (tC (.int i))) (gDa K p (.int (-i))) σ := fun H Q _ q => ⟨i, rfl, q H _ Same.rfl' (.int _)⟩
theorem g_pow {i j : Int} (h : CPow i j) : Gives H0 (tOp (rI CPow fun i j => .int (i ^ j.toNat)) (tC (.int i)) (tC (.int j))) (gDa K p (.int (i ^ j.toNat))) σ :=
  fun H Q _ q => ⟨i, j, rfl, rfl, h, q H _ Same.rfl' (.int _)⟩
theorem allDa {H : Hp} : ∀ {ds : List PyData} {us : List V}, AllG (ds.map (gDa K p)) H us → DaAll K (but H p) us ds
  | [], _, .nil => .nil
  | _ :: _, _, .cons h t => .cons h (allDa t)
theorem g_lstD (hp : H0 p = some op) (h : GivesL H0 ta (ds.map (gDa K p)) σ) (hz : ds.length ≤ 1000 := by simp) : Gives H0 (tLst ta) (gDa K p (.list ds)) σ := fun H Q s q =>
  h H _ s fun H1 us s1 g1 => by
    have hl : us.length = ds.length := by rw [← Paired.length g1, List.length_map]
    refine ⟨?_, fun r nr => ?_⟩
    · have y := sizeLine_eq
      omega
    · have s2 := same_put (o := .lst us) nr
      have ne := ne_new hp (s.trans s1) nr
      refine q _ _ (s1.trans s2) (.lst (.inl (.inl ?_)) ((allDa g1).mono (but_same s2)))
      rw [but_ne ne, upd_same]
theorem g_tupD (hp : H0 p = some op) (h : GivesL H0 ta (ds.map (gDa K p)) σ) (hz : ds.length ≤ 1000 := by simp) : Gives H0 (tTup ta) (gDa K p (.tuple ds)) σ := fun H Q s q =>
  h H _ s fun H1 us s1 g1 => by
    have hl : us.length = ds.length := by rw [← Paired.length g1, List.length_map]
    refine ⟨?_, fun r nr => ?_⟩
    · have y := sizeLine_eq
      omega
    · have s2 := same_put (o := .tup us) nr
      have ne := ne_new hp (s.trans s1) nr
      refine q _ _ (s1.trans s2) (.tup (.inl (.inl ?_)) ((allDa g1).mono (but_same s2)))
      rw [but_ne ne, upd_same]
theorem g_dnew (hp : H0 p = some op) : Gives H0 tDNewK (gDa K p (.dict [])) σ := fun H Q s q r nr => by
  refine q _ _ (same_put nr) (.dic ?_ .nil)
  rw [but_ne (ne_new hp s nr), upd_same]
theorem g_disp {x : Str} (hp : H0 p = some op) : Gives H0 (tDisp [(tC (.str x), tTup (tCons (tC .non) tNil))]) (gDa K p (.dict [(.str x, .tuple [.none])])) σ := fun H Q s q r nr => by
  refine ⟨(by show 1 ≤ sizeLine; decide), fun t nt => ?_⟩
  have ne : t ≠ r := fun z => by
    rw [z, upd_same] at nt
    cases nt
  have n1 := ne_new hp s nr
  have n2 := ne_new hp (s.trans (same_put nr)) nt
  refine ⟨by rw [upd_ne ne.symm, upd_same], [(.inr x, .ref t)], rfl, (by show 1 ≤ 15; decide), q _ _ ?_ (.dic (kvs := [(.inr x, .ref t)]) ?_ (.cons (.tup (xs := [.non]) (.inl (.inl ?_)) (.cons .non .nil)) .nil))⟩
  · intro b o e
    have nb : b ≠ r := ne_of_none e nr
    have nbt : b ≠ t := fun z => by
      rw [z] at e
      rw [upd_ne ne, e] at nt
      cases nt
    rw [upd_ne nb, upd_ne nbt, upd_ne nb]
    exact e
  · rw [but_ne n1]
    exact upd_same
  · rw [but_ne n2, upd_ne ne, upd_same]
theorem allEq {H : Hp} : ∀ {ys : List V}, AllG (ys.map gEq) H ys
  | [] => .nil
  | _ :: _ => .cons rfl allEq
/-- [elt for .. in xs], the elements plain values -/
theorem g_lcP {a : Addr} {xs ys : List V} {i : Nat} {g : TG} {vs : List Nat} (hi : σ[i]? = some (some (.ref a))) (hx : SqL K H0 a xs) (hz : xs.length ≤ 1000) (hl : ys.length = xs.length)
    (he : ∀ (j : Nat) (x y : V), xs[j]? = some x → ys[j]? = some y → ∀ (H : Hp) (R : VK), Same H0 H → R y H →
      g x (wipe σ vs) H fun σ2 H2 => wipe σ2 vs = wipe σ vs ∧ te σ2 H2 R) :
    Gives H0 (tLc (iList K (tVar i)) g tYes te vs) (gLst (ys.map gEq)) σ := fun H Q s q => by
  refine ⟨_, hi, a, rfl, ⟨xs, s.seq hx⟩, fun D nD => ?_⟩
  have sD : Same H (upd H D (.lst [])) := same_put nD
  have y := sizeLine_eq
  refine lc_list (K := K) (a := a) (xs := xs) (fun k H' => Same H H' ∧ H' D = some (.lst (ys.take k))) ⟨sD, upd_same⟩ (fun k H' _ ⟨s', _⟩ => s'.seq (s.seq hx)) ?_ ?_
  · rintro k x H' hk ⟨s', eD⟩
    have hk' : k < ys.length := by
      obtain ⟨h, _⟩ := List.getElem?_eq_some_iff.mp hk
      omega
    have hy := List.getElem?_eq_getElem hk'
    refine cast ?_ (he k x ys[k] hk hy H' (fun y H4 => ∃ acc, H4 D = some (.lst acc) ∧ acc.length < sizeLine ∧ Same H (upd H4 D (.lst (acc ++ [y]))) ∧ upd H4 D (.lst (acc ++ [y])) D = some (.lst (ys.take (k + 1)))) (s.trans s') ⟨_, eD, ?_, ?_, ?_⟩)
    · rfl
    · rw [List.length_take]
      omega
    · intro b o e
      rw [upd_ne (ne_of_none e nD)]
      exact s' _ _ e
    · rw [upd_same, List.take_add_one, hy]
      rfl
  · rintro H' ⟨s', eD⟩
    rw [← hl, List.take_length] at eD
    exact q H' _ s' ⟨D, ys, rfl, eD, allEq⟩
/-- [elt for i in range(m)], the elements plain values -/
theorem g_lcR {ys : List V} {m : Int} {g : TG} {vs : List Nat} (hm : -(2 ^ 62) ≤ m ∧ m < 2 ^ 62) (hl : ys.length = m.toNat) (hz : ys.length ≤ 1000)
    (he : ∀ (j : Nat) (y : V), ys[j]? = some y → ∀ (H : Hp) (R : VK), Same H0 H → R y H →
      g (.int (0 + j)) (wipe σ vs) H fun σ2 H2 => wipe σ2 vs = wipe σ vs ∧ te σ2 H2 R) :
    Gives H0 (tLc (iRng1 (tCons (tC (.int m)) tNil)) g tYes te vs) (gLst (ys.map gEq)) σ := fun H Q s q => by
  refine ⟨m, rfl, hm.1, hm.2, fun D nD => ?_⟩
  have sD : Same H (upd H D (.lst [])) := same_put nD
  have y := sizeLine_eq
  refine lc_range (lo := 0) (n := m.toNat) (fun k H' => Same H H' ∧ H' D = some (.lst (ys.take k))) ⟨sD, upd_same⟩ ?_ ?_
  · rintro k H' hk ⟨s', eD⟩
    have hk' : k < ys.length := by omega
    have hy := List.getElem?_eq_getElem hk'
    refine cast ?_ (he k ys[k] hy H' (fun y H4 => ∃ acc, H4 D = some (.lst acc) ∧ acc.length < sizeLine ∧ Same H (upd H4 D (.lst (acc ++ [y]))) ∧ upd H4 D (.lst (acc ++ [y])) D = some (.lst (ys.take (k + 1)))) (s.trans s') ⟨_, eD, ?_, ?_, ?_⟩)
    · rfl
    · rw [List.length_take]
      omega
    · intro b o e
      rw [upd_ne (ne_of_none e nD)]
      exact s' _ _ e
    · rw [upd_same, List.take_add_one, hy]
      rfl
  · rintro H' ⟨s', eD⟩
    rw [← hl, List.take_length] at eD
    exact q H' _ s' ⟨D, ys, rfl, eD, allEq⟩
/-! ### tests whose answer is known -/
def GivesT (H0 : Hp) (tt : TT) (b : Bool) (σ : L2.St) : Prop := ∀ (H : Hp) (Q : Bool → Hp → Prop), Same H0 H → (∀ H', Same H H' → Q b H') → tt σ H Q
theorem s_skip {tt : TT} {t rest : TS} {D : Ends} (h : GivesT H0 tt false σ) (k : ∀ H', Same H0 H' → rest D σ H') : tSeq (tIfS tt t tNext) rest D σ H0 :=
  h H0 _ Same.rfl' fun H' s => iteF (k H' s)
theorem s_skip1 {tt : TT} {t : TS} {D : Ends} (h : GivesT H0 tt false σ) (k : ∀ H', Same H0 H' → D.nx σ H') : tIfS tt t tNext D σ H0 :=
  h H0 _ Same.rfl' fun H' s => iteF (k H' s)
theorem g_repr (h : Gives H0 te G σ) (hd : ∀ H u, Same H0 H → G.p H u → ∃ a, u = .ref a ∧ Da K H u d) (h1 : d.showable = true) (h2 : d.depth ≤ 64) (h3 : d.shown.length ≤ sizeLine) :
    Gives H0 (tCB (rRepr K) (tCons te tNil)) (gEq (.str d.shown)) σ := fun H Q s q =>
  h H _ s fun H1 u s1 g1 => by
    obtain ⟨a, rfl, da⟩ := hd H1 u (s.trans s1) g1
    exact ⟨a, d, rfl, da, h1, h2, h3, q H1 _ s1 rfl⟩
theorem t_neS {te' : TE} {x : Str} (h : Gives H0 te (gEq (.str x)) σ) (h' : Gives H0 te' (gEq (.str x)) σ) : GivesT H0 (tTest (tOp rNe te te')) false σ := fun H Q s q =>
  h H _ s fun H1 u s1 e1 => h' H1 _ (s.trans s1) fun H2 u' s2 e2 => by
    have e1 : u = .str x := e1
    have e2 : u' = .str x := e2
    subst e1
    subst e2
    refine ⟨rfl, _, rfl, ?_⟩
    rw [decide_eq_true rfl]
    exact q H2 (s1.trans s2)
theorem dp_bools {H : Hp} : ∀ bs : List Bool, DpAll K H (bs.map V.bl) (bs.map PyData.bool)
  | [] => .nil
  | b :: bs => .cons (.bl b) (dp_bools bs)
theorem eqv_bools : ∀ bs : List Bool, PyData.eqvAll (bs.map PyData.bool) (bs.map PyData.bool) = true
  | [] => by simp [PyData.eqvAll]
  | b :: bs => by simp [PyData.eqvAll, PyData.eqv, eqv_bools bs]
theorem lay_bools : ∀ bs : List Bool, PyData.canLayAll0 (bs.map PyData.bool) = true
  | [] => by simp [PyData.canLayAll0]
  | b :: bs => by simp [PyData.canLayAll0, PyData.canLay0, lay_bools bs]
theorem depth_bools : ∀ bs : List Bool, PyData.depthAll (bs.map PyData.bool) = 0
  | [] => by simp [PyData.depthAll]
  | b :: bs => by simp [PyData.depthAll, PyData.depth, depth_bools bs]
theorem shaped_bools (bs : List Bool) : SeqAt.shaped (.list (bs.map PyData.bool)) = true := by
  show (PyData.canLay0 (.list (bs.map .bool)) && decide (PyData.depth (.list (bs.map .bool)) ≤ 64)) = true
  simp [PyData.canLay0, PyData.depth, lay_bools, depth_bools]
theorem all_bl {H : Hp} : ∀ {bs : List Bool} {us : List V}, AllG (bs.map fun b => gEq (.bl b)) H us → us = bs.map V.bl
  | [], _, .nil => rfl
  | _ :: _, _, .cons h t => by
    have h : _ = V.bl _ := h
    rw [h, all_bl t]
    rfl
theorem t_neB {te' : TE} {bs : List Bool} (h : Gives H0 te (gLst (bs.map fun b => gEq (.bl b))) σ) (h' : Gives H0 te' (gLst (bs.map fun b => gEq (.bl b))) σ) :
    GivesT H0 (tTest (tOp (rNeD K) te te')) false σ := fun H Q s q =>
  h H _ s fun H1 u s1 ⟨p1, us1, e1, l1, g1⟩ => h' H1 _ (s.trans s1) fun H2 u' s2 ⟨p2, us2, e2, l2, g2⟩ => by
    subst e1
    subst e2
    rw [all_bl g1] at l1
    rw [all_bl g2] at l2
    refine ⟨_, _, .lst (.inl (.inl (s2 _ _ l1))) (dp_bools bs), .lst (.inl (.inl l2)) (dp_bools bs), shaped_bools bs, shaped_bools bs, _, rfl, ?_⟩
    have z : PyData.eqv (.list (bs.map .bool)) (.list (bs.map .bool)) = true := by
      simp only [PyData.eqv]
      exact eqv_bools bs
    rw [z]
    exact q H2 (s1.trans s2)
theorem t_not {tt : TT} {b : Bool} (h : GivesT H0 tt b σ) : GivesT H0 (tNot tt) (!b) σ := fun H Q s q => h H _ s q
theorem t_orF {tt uu : TT} (h : GivesT H0 tt false σ) (k : GivesT H0 uu false σ) : GivesT H0 (tOr tt uu) false σ := fun H Q s q =>
  h H _ s fun H1 s1 => iteF (k H1 Q (s.trans s1) fun H2 s2 => q H2 (s1.trans s2))
end
section
variable {K : PySem.W.Frag} {p : Addr} {H0 : Hp} {σ : L2.St}
theorem g_nonD : Gives H0 (tC .non) (gDa K p .none) σ := g_c fun _ => Da.non
theorem g_blD {b : Bool} : Gives H0 (tC (.bl b)) (gDa K p (.bool b)) σ := g_c fun _ => Da.bl b
theorem g_intD {i : Int} : Gives H0 (tC (.int i)) (gDa K p (.int i)) σ := g_c fun _ => Da.int i
theorem g_strD {x : Str} : Gives H0 (tC (.str x)) (gDa K p (.str x)) σ := g_c fun _ => Da.str x
end
theorem sum_le_all (m : Nat) : ∀ l : List Nat, (∀ n ∈ l, n ≤ m) → l.sum ≤ m * l.length
  | [], _ => by simp
  | n :: l, h => by
    have h1 := h n (List.mem_cons_self ..)
    have h2 := sum_le_all m l fun k hk => h k (List.mem_cons_of_mem _ hk)
    rw [List.sum_cons, List.length_cons, Nat.mul_succ]
    omega
theorem mem_all {H : Hp} : ∀ {Gs : List GP} {us : List V}, AllG Gs H us → ∀ v ∈ us, ∃ G ∈ Gs, G.p H v
  | _, _, .nil, _, h => nomatch h
  | G :: _, _, .cons h t, v, hv => by
    rcases List.mem_cons.mp hv with rfl | hv
    · exact ⟨G, List.mem_cons_self .., h⟩
    · obtain ⟨G', h1, h2⟩ := mem_all t v hv
      exact ⟨G', List.mem_cons_of_mem _ h1, h2⟩
theorem all_eq {H : Hp} : ∀ {ys us : List V}, AllG (ys.map gEq) H us → us = ys
  | [], _, .nil => rfl
  | _ :: _, _, .cons h t => by
    have h : _ = _ := h
    rw [h, all_eq t]
end Ev

/-! ## General steps -/
namespace Ev
open PySem PySem.Spec PyProof.Rows L2
section
variable {K : PySem.W.Frag} {B H0 : Hp} {σ : L2.St} {te tf : TE} {ta : TA} {i : Nat} {x v : V} {d : PyData} {ds : List PyData} {b c : Bool} {T : String} {tt uu : TT} {t rest : TS} {D : Ends} {a : Addr} {xs : List V} {k : Int} {G : GP}
theorem t_or (h : GivesT H0 tt b σ) (k : b = false → GivesT H0 uu c σ) : GivesT H0 (tOr tt uu) (b || c) σ := fun H Q s q =>
  h H _ s fun H1 s1 => by
    cases b with
    | true => exact iteT (q H1 s1)
    | false => exact iteF (k rfl H1 Q (s.trans s1) fun H2 s2 => q H2 (s1.trans s2))
theorem s_ifB (h : GivesT H0 tt b σ) (k1 : b = true → ∀ H', Same H0 H' → t { D with nx := rest D } σ H') (k2 : b = false → ∀ H', Same H0 H' → rest D σ H') : tSeq (tIfS tt t tNext) rest D σ H0 :=
  h H0 _ Same.rfl' fun H' s => by
    cases b with
    | true => exact iteT (k1 rfl H' s)
    | false => exact iteF (k2 rfl H' s)
theorem t_andB (h : GivesT H0 tt b σ) (k : b = true → GivesT H0 uu c σ) : GivesT H0 (tAnd tt uu) (b && c) σ := fun H Q s q =>
  h H _ s fun H1 s1 => by
    cases b with
    | true => exact iteT (k rfl H1 Q (s.trans s1) fun H2 s2 => q H2 (s1.trans s2))
    | false => exact iteF (q H1 s1)
theorem s_ifB1 (h : GivesT H0 tt b σ) (k1 : b = true → ∀ H', Same H0 H' → t D σ H') (k2 : b = false → ∀ H', Same H0 H' → D.nx σ H') : tIfS tt t tNext D σ H0 :=
  h H0 _ Same.rfl' fun H' s => by
    cases b with
    | true => exact iteT (k1 rfl H' s)
    | false => exact iteF (k2 rfl H' s)
theorem s_set1 (h : Gives H0 te G σ) (k : ∀ H' u, Same H0 H' → G.p H' u → D.nx (σ.set i (some u)) H') : tAsg te (gName i) D σ H0 :=
  h H0 _ Same.rfl' fun H' u s g => k H' u s g
theorem t_eqI2 {r k : Int} (h : Gives H0 te (gEq (.int r)) σ) : GivesT H0 (tTest (tOp rEq te (tC (.int k)))) (decide (r = k)) σ := fun H Q s q =>
  h H _ s fun H1 u s1 e => by
    have e : u = .int r := e
    subst e
    refine ⟨rfl, _, rfl, ?_⟩
    have z : decide (V.int r = V.int k) = decide (r = k) := decide_eq_decide.mpr ⟨fun h => V.int.inj h, fun h => by rw [h]⟩
    rw [z]
    exact q H1 s1
theorem t_eqI {r k : Int} (h : σ[i]? = some (some (.int r))) : GivesT H0 (tTest (tOp rEq (tVar i) (tC (.int k)))) (decide (r = k)) σ := fun H Q s q => by
  refine ⟨_, h, rfl, _, rfl, ?_⟩
  have z : decide (V.int r = V.int k) = decide (r = k) := decide_eq_decide.mpr ⟨fun h => V.int.inj h, fun h => by rw [h]⟩
  rw [z]
  exact q H Same.rfl'
theorem t_neI {r k : Int} (h : Gives H0 te (gEq (.int r)) σ) : GivesT H0 (tTest (tOp rNe te (tC (.int k)))) (!decide (r = k)) σ := fun H Q s q =>
  h H _ s fun H1 u s1 e => by
    have e : u = .int r := e
    subst e
    refine ⟨rfl, _, rfl, ?_⟩
    have z : decide (V.int r = V.int k) = decide (r = k) := decide_eq_decide.mpr ⟨fun h => V.int.inj h, fun h => by rw [h]⟩
    rw [z]
    exact q H1 s1
theorem g_and (h : Gives H0 te (gEq (.bl b)) σ) (k : b = true → Gives H0 tf (gEq (.bl c)) σ) : Gives H0 (tAndV te tf) (gEq (.bl (b && c))) σ := fun H Q s q =>
  h H _ s fun H1 u s1 e => by
    refine ⟨b, e, ?_⟩
    cases b with
    | true => exact iteT (k rfl H1 Q (s.trans s1) fun H2 u2 s2 e2 => q H2 u2 (s1.trans s2) e2)
    | false => exact iteF (q H1 _ s1 rfl)
theorem t_valB (h : Gives H0 te (gEq (.bl b)) σ) : GivesT H0 (tB te) b σ := fun H Q s q => h H _ s fun H1 u s1 e => ⟨b, e, q H1 s1⟩
end
abbrev rGtI : R2 := rI0 fun i j => .bl (decide (j < i))
abbrev rLeI : R2 := rI0 fun i j => .bl (decide (i ≤ j))
abbrev rLtI : R2 := rI0 fun i j => .bl (decide (i < j))
theorem g_all {K : PySem.W.Frag} {H0 : Hp} {σ : L2.St} {te : TE} {bs : List Bool} (h : Gives H0 te (gLst (bs.map fun b => gEq (.bl b))) σ) : Gives H0 (tCB (rAll K) (tCons te tNil)) (gEq (.bl (bs.all id))) σ := fun H Q s q =>
  h H _ s fun H1 u s1 g1 => by
    obtain ⟨p, us, rfl, hp, ha⟩ := g1
    have eu := all_bl ha
    subst eu
    exact ⟨p, bs, rfl, .inl (.inl hp), q H1 _ s1 rfl⟩
def rReprA (K : PySem.W.Frag) : List V → Hp → VK → Prop := fun xs H Q =>
  ∃ (x : V) (d : PyData), xs = [x] ∧ Da K H x d ∧ d.showable = true ∧ d.depth ≤ 64 ∧ d.shown.length ≤ sizeLine ∧ Q (.str d.shown) H
theorem call_reprA {X : Cx} (hm : ∃ mm, X.base.Ns sysModules mm) (gd : X.A.guards = some []) (hu : X.A.units + 70 < cLine) :
    CallR X (.builtin "repr") (rReprA X.K) := by
  intro pins s σ H xs us Q I r h
  obtain ⟨x, d, rfl, hs, sh, dp, sz, q⟩ := h
  have big : ∀ a, x = .ref a → wpAny (model X.prog X.w) X.A (call (.builtin "repr") us) (EP X pins σ Q) X.xe s := by
    rintro a rfl
    exact call_repr hm gd hu pins s σ H _ us Q I r ⟨a, d, rfl, hs, sh, dp, sz, q⟩
  cases hs with
  | non =>
    cases r with
    | cons r1 r2 =>
      cases r2
      cases r1
      rw [PyData.shown] at q
      exact PySem.P.repr_of_none ⟨.str _, H, I.tok _, ⟨_, rfl⟩, q⟩
  | bl b =>
    cases r with
    | cons r1 r2 =>
      cases r2
      cases r1
      rw [PyData.shown] at q
      exact PySem.P.repr_of_bool ⟨.str _, H, I.tok _, ⟨_, rfl⟩, q⟩
  | int i =>
    cases r with
    | cons r1 r2 =>
      cases r2
      obtain ⟨t, rfl⟩ := r1
      rw [PyData.shown] at q
      exact PySem.P.repr_of_int (by rw [PyData.showable] at sh; exact of_decide_eq_true sh) ⟨.str _, H, I.tok _, ⟨_, rfl⟩, q⟩
  | str z =>
    cases r with
    | cons r1 r2 =>
      cases r2
      obtain ⟨t, rfl⟩ := r1
      rw [PyData.shown] at q sz
      exact PySem.P.repr_of_str ⟨.str _, H, I.tok _, ⟨_, rfl⟩, q⟩ sz
  | lst h1 h2 => exact big _ rfl
  | tup h1 h2 => exact big _ rfl
  | dic h1 h2 => exact big _ rfl
theorem s_par {H0 : Hp} {σ : L2.St} {ta : TA} {G1 G2 : GP} {i j : Nat} {D : Ends} {rest : TS} (h : GivesL H0 ta [G1, G2] σ) (k : ∀ H' u1 u2, Same H0 H' → G1.p H' u1 → G2.p H' u2 → rest D ((σ.set i (some u1)).set j (some u2)) H') : tSeq (tPar i j ta) rest D σ H0 :=
  h H0 _ Same.rfl' fun H' us s g => by
    cases g with
    | @cons _ u1 _ _ g1 g =>
    cases g with
    | @cons _ u2 _ _ g2 g =>
    cases g
    exact ⟨u1, u2, rfl, k H' u1 u2 s g1 g2⟩
section
variable {K : PySem.W.Frag} {B H0 : Hp} {σ : L2.St} {te tf : TE} {ta : TA} {i : Nat} {x v : V} {d : PyData} {ds : List PyData} {b c : Bool} {T : String} {tt uu : TT} {t rest : TS} {D : Ends} {a : Addr} {xs : List V} {k : Int} {G : GP}
theorem g_reprA (h : σ[i]? = some (some x)) (hd : Da K H0 x d) (h1 : d.showable = true) (h2 : d.depth ≤ 64) (h3 : d.shown.length ≤ sizeLine) : Gives H0 (tCB (rReprA K) (tCons (tVar i) tNil)) (gEq (.str d.shown)) σ := fun H Q s q =>
  ⟨_, h, x, d, rfl, hd.mono s, h1, h2, h3, q H _ Same.rfl' rfl⟩
theorem g_eqS {y z : Str} (h : Gives H0 te (gEq (.str y)) σ) (h' : Gives H0 tf (gEq (.str z)) σ) : Gives H0 (tOp rEq te tf) (gEq (.bl (decide (y = z)))) σ := fun H Q s q =>
  h H _ s fun H1 u s1 e1 => h' H1 _ (s.trans s1) fun H2 u' s2 e2 => by
    have e1 : u = .str y := e1
    have e2 : u' = .str z := e2
    subst e1
    subst e2
    refine ⟨rfl, q H2 _ (s1.trans s2) ?_⟩
    show _ = _
    congr 1
    exact decide_eq_decide.mpr ⟨fun h => V.str.inj h, fun h => by rw [h]⟩
end
theorem Gives.imp {H0 : Hp} {te : TE} {G G' : GP} {σ : L2.St} (h : Gives H0 te G σ) (i : ∀ H u, Same H0 H → G.p H u → G'.p H u) : Gives H0 te G' σ := fun H Q s q =>
  h H _ s fun H1 u s1 g => q H1 u s1 (i H1 u (s.trans s1) g)
theorem keepA {a p : Addr} {H1 H H' : Hp} (np : H1 p = none) (h : ∀ o, H1 a = some o → H a = some o) (b : Bu p H H') : ∀ o, H1 a = some o → H' a = some o := fun o e => b _ _ (ne_of_none e np) (h o e)
theorem sq_of {K : PySem.W.Frag} {a : Addr} {H H' : Hp} {zs : List V} (s : SqL K H a zs) (h : ∀ o, H a = some o → H' a = some o) : SqL K H' a zs := by
  rcases s with (e | ⟨o, e⟩) | e
  · exact .inl (.inl (h _ e))
  · exact .inl (.inr ⟨o, h _ e⟩)
  · exact .inr e
theorem mm_at (z : Int) (h : z ≤ 3) : -(2 ^ 62) ≤ (if z > 1 then z else 1) ∧ (if z > 1 then z else 1) < 2 ^ 62 ∧ (if z > 1 then z else 1).toNat ≤ 3 := by
  split <;> omega
theorem mm_le (n : Int) : (if n < 3 then n else 3) ≤ 3 := by
  split <;> omega
section
variable {K : PySem.W.Frag} {B H0 : Hp} {σ : L2.St} {te tf : TE} {ta : TA} {i : Nat} {x v : V} {d : PyData} {ds : List PyData} {b c : Bool} {T : String} {tt uu : TT} {t rest : TS} {D : Ends} {a : Addr} {xs : List V} {k : Int} {G : GP}
theorem g_lcQ {a : Addr} {xs ys : List V} {i : Nat} {g : TG} {vs : List Nat} (hi : σ[i]? = some (some (.ref a))) (hx : SqL K H0 a xs) (hz : xs.length ≤ 1000) (hl : ys.length = xs.length)
    (he : ∀ (j : Nat) (x y : V), xs[j]? = some x → ys[j]? = some y → ∀ (H : Hp) (R : VK), Same H0 H → (∀ H', Same H H' → R y H') →
      g x (wipe σ vs) H fun σ2 H2 => wipe σ2 vs = wipe σ vs ∧ te σ2 H2 R) :
    Gives H0 (tLc (iList K (tVar i)) g tYes te vs) (gLst (ys.map gEq)) σ := fun H Q s q => by
  refine ⟨_, hi, a, rfl, ⟨xs, s.seq hx⟩, fun D nD => ?_⟩
  have sD : Same H (upd H D (.lst [])) := same_put nD
  have y := sizeLine_eq
  refine lc_list (K := K) (a := a) (xs := xs) (fun k H' => Same H H' ∧ H' D = some (.lst (ys.take k))) ⟨sD, upd_same⟩ (fun k H' _ ⟨s', _⟩ => s'.seq (s.seq hx)) ?_ ?_
  · rintro k x H' hk ⟨s', eD⟩
    have hk' : k < ys.length := by
      obtain ⟨h, _⟩ := List.getElem?_eq_some_iff.mp hk
      omega
    have hy := List.getElem?_eq_getElem hk'
    refine cast ?_ (he k x ys[k] hk hy H' (fun y H4 => ∃ acc, H4 D = some (.lst acc) ∧ acc.length < sizeLine ∧ Same H (upd H4 D (.lst (acc ++ [y]))) ∧ upd H4 D (.lst (acc ++ [y])) D = some (.lst (ys.take (k + 1)))) (s.trans s') fun H4 s4 => ⟨_, s4 _ _ eD, ?_, ?_, ?_⟩)
    · rfl
    · rw [List.length_take]
      omega
    · intro b o e
      rw [upd_ne (ne_of_none e nD)]
      exact s4 _ _ (s' _ _ e)
    · rw [upd_same, List.take_add_one, hy]
      rfl
  · rintro H' ⟨s', eD⟩
    rw [← hl, List.take_length] at eD
    exact q H' _ s' ⟨D, ys, rfl, eD, allEq⟩
end
/-! ### f(k = v, ..), keywords alone -/
section
variable {X : Cx} {CX : CXT} {k : Nat} {f : Addr} {fd : FuncData} {ps ks : List Str} {sp : Sp} {E : XK} {x : Str} {p pos : Pos} {kws : List Keyword} {tk : TA} {pm : {α : Type} → List α → List α}
def tCallKs (pm : {α : Type} → List α → List α) (sp : Sp) (E : XK) (tk : TA) : TE := fun σ H Q => tk σ H fun zs H2 => sp (pm zs) H2 Q E
theorem pe_callKs (pm : {α : Type} → List α → List α) (F : FnOk X.prog X.w X.K X.mg X.base CX k f fd ps sp) (hr : Room k X.A) (hg : Gl X x) (hm : X.mg x = some (.ref f)) (hk : PySem.W.keepIn X.K (.ref f) = true)
    (hb : ∀ (s : Shared) (us : List Value), us.length = ks.length → BindsTo s fd ⟨[], ks.zip us⟩ (ps.zip (pm us))) (hpm : ∀ (zs : List V) (us : List Value), zs.length = ks.length → Vals zs us → Vals (pm zs) (pm us)) (hx : Passes CX X E)
    (hkw : PK X kws tk) (hl : ∀ zs H Q E, sp (pm zs) H Q E → zs.length = ks.length) (hall : (backToKw pos (keywordEach kws X.env)).all (·.1.isSome) = true := by rfl) (hks : (backToKw pos (keywordEach kws X.env)).filterMap (·.1) = ks := by rfl)
    (hdb : (x == ("__debug__" : Str)) = false := by decide) (hpl : ((backTo pos (starEach [] X.env)).any (·.1) || (backToKw pos (keywordEach kws X.env)).any (·.1.isNone)) = false := by rfl) :
    PE X (.Call (.Name x p) [] kws pos) (tCallKs pm sp E tk) := by
  refine ⟨fun pins s σ H Q I h => ?_⟩
  refine wpAny_Call_Name_kw (ld_glob I hg hm ?_ hdb)
  refine PySem.W.callWith_KW0 (h₀ := X.base) I.ok.mod.kin hk hall ?_ hpl
  refine thn (hkw.run pos pins s σ H _ I h) fun ws s2 ⟨zs, H2, I2, rz, q2⟩ => ⟨I2.kIn, ?_⟩
  rw [hks]
  have hz := hl _ _ _ _ q2
  refine wpAny_call (codeAny_mono (F.run X.A X.stack s2 H2 ⟨[], ks.zip ws⟩ (pm ws) (pm zs) Q E hr I2.env0 (hb s2 ws (rz.length.symm.trans hz)) (hpm zs ws hz rz) q2) fun r s' hq => ?_)
  cases r with
  | error e => exact hx pins σ H2 s2 e s' I2 hq
  | ok fl =>
    cases fl with
    | ret u => exact I2.after hq
    | next => exact False.elim hq
    | brk => exact False.elim hq
    | cont => exact False.elim hq
end
end Ev

/-! ## Sets of texts, whose members can be walked -/
namespace Ev
open PySem PySem.Spec PyProof.Rows L2
def keyS (e : Int × Value) : Str := match e.2 with
  | .str x _ => x
  | _ => ""
def goodS (w : World) (e : Int × Value) : Prop := ∃ x tk, e = (hashStr w x, Value.str x tk)
/-- what is left when k comes in -/
def addN (ks : List Str) (k : Str) : List Str := if k ∈ ks then ks else ks ++ [k]
theorem mem_addN {ks : List Str} {k x : Str} : x ∈ addN ks k ↔ x ∈ ks ∨ x = k := by
  unfold addN
  split
  · exact ⟨.inl, fun z => z.elim id fun e => by rw [e]; assumption⟩
  · rw [List.mem_append, List.mem_singleton]
theorem addN_nodup {ks : List Str} {k : Str} (h : ks.Nodup) : (addN ks k).Nodup := by
  unfold addN
  split
  · exact h
  · rename_i n
    rw [List.nodup_append]
    refine ⟨h, by simp, fun x hx y hy e => ?_⟩
    rw [List.mem_singleton.mp hy] at e
    rw [e] at hx
    exact n hx
theorem addN_len {ks : List Str} {k : Str} : (addN ks k).length ≤ ks.length + 1 := by
  unfold addN
  split
  · exact Nat.le_succ _
  · rw [List.length_append]
    exact Nat.le_refl _
/-- the set of the texts ks at a -/
def SetS (w : World) (h : Heap) (a : Addr) (ks : List Str) : Prop := ∃ (o : Obj) (es : Array (Int × Value)) (ep : Nat) (t : SetTable), h.get? a = some o ∧ o.ExactSet ∧ o.data = .set es ep t ∧ (∀ e ∈ es.toList, goodS w e) ∧
  (es.toList.map keyS).Perm ks ∧ ks.Nodup ∧ es.size < scanBound ∧ t.fits es.size = true ∧ Ris t.place.toList ∧ (w.params.followText "set-order" = true ∨ t.led = true)
section
variable {P : Program} {w : World} {A : Around} {E : Value → Shared → Prop} {s : Shared} {h h' : Heap} {a : Addr} {ks : List Str}
theorem SetS.at (R : SetS w h a ks) (k : ∀ o, h.get? a = some o → h'.get? a = some o) : SetS w h' a ks := by
  obtain ⟨o, es, ep, t, ho, r⟩ := R
  exact ⟨o, es, ep, t, k o ho, r⟩
theorem goodS_elems {l : List (Int × Value)} (g : ∀ e ∈ l, goodS w e) : ElemsOf (PySem.strKind P w) l := fun e he => by
  obtain ⟨x, tk, rfl⟩ := g e he
  refine ⟨⟨x, ?_, rfl⟩, rfl⟩
  show Value.isStrOf x (.str x tk) = true
  simp [Value.isStrOf]
theorem goodS_is {e : Int × Value} (g : goodS w e) (x : Str) : (PySem.strKind P w).is x e.2 = true ↔ keyS e = x := by
  obtain ⟨y, tk, rfl⟩ := g
  show Value.isStrOf x (.str y tk) = true ↔ y = x
  simp [Value.isStrOf]
theorem SetS.kind (R : SetS w h a ks) : h.SetOf (PySem.strKind P w) a (fun k => decide (k ∈ ks)) ks.length := by
  obtain ⟨o, es, ep, t, ho, hx, hd, g, pm, nd, hb, hf, _⟩ := R
  refine ⟨o, es, ep, t, ho, hx, hd, goodS_elems g, fun k => ?_, hb, hf, ?_⟩
  · rw [decide_eq_true_iff, ← pm.mem_iff, List.mem_map]
    constructor
    · rintro ⟨e, he, q⟩
      exact ⟨e, he, (goodS_is (g e he) k).2 q⟩
    · rintro ⟨e, he, q⟩
      exact ⟨e, he, (goodS_is (g e he) k).1 q⟩
  · have z := pm.length_eq
    rw [List.length_map, Array.length_toList] at z
    exact z
theorem setS_new (w : World) (h : Heap) : SetS w (h.push { cls := .type "set", dict := none, data := .set #[] 0 (.fresh 0 0 (!w.params.followText "set-order")) }) h.objs.size [] := by
  refine ⟨_, #[], 0, _, Heap.get?_push_size _ rfl, ⟨rfl, rfl, rfl⟩, rfl, fun e he => ?_, .nil, .nil, by decide, by rfl, .nil, ?_⟩
  · cases he
  · by_cases z : w.params.followText "set-order" = true
    · exact .inl z
    · refine .inr ?_
      show (!w.params.followText "set-order") = true
      rw [Bool.eq_false_iff.mpr z]
      rfl
/-- the entries es1 in the table t1 are written, and laid anew where the table is full -/
theorem lay_S {g : Bool → Sem Unit} (hg : ∀ (b : Bool) (s1 : Shared) (Q' : Unit → Shared → Prop), Q' () s1 → wpAny (model P w) A (g b) Q' E s1) {o : Obj} {es es1 : Array (Int × Value)} {ep : Nat} {t t1 : SetTable}
    (ho : s.heap.get? a = some o) (hx : o.ExactSet) (hd : o.data = .set es ep t) (g1 : ∀ e ∈ es1.toList, goodS w e) (pm : (es1.toList.map keyS).Perm ks) (nd : ks.Nodup) (hb : es1.size < scanBound) (hf : t1.fits es1.size = true)
    (hr : Ris t1.place.toList) (hl : w.params.followText "set-order" = true ∨ t1.led = true) {was : Bool} {R : Option Bool → Shared → Prop} (k : ∀ h', Heap.SameBut a s.heap h' → SetS w h' a ks → R (some true) { s with heap := h' }) :
    wpAny (model P w) A (do
        storeSet a es1 t1
        if (!was && t1.tooFull) = true then do
            g (relayAll t1 es1 (SetTable.grown es1.size)).2.2
            storeSet a (relayAll t1 es1 (SetTable.grown es1.size)).1 (relayAll t1 es1 (SetTable.grown es1.size)).2.1
            pure (some true)
          else pure (some true)) R E s := by
  have put : ∀ {hh : Heap} {oo : Obj} {e0 e1 : Array (Int × Value)} {n : Nat} {t0 t2 : SetTable}, hh.get? a = some oo → oo.data = .set e0 n t0 → (hh.update a (Obj.putSet e1 t2)).get? a = some { oo with data := .set e1 (n + 1) t2 } := by
    intro hh oo e0 e1 n t0 t2 x y
    have z := Heap.get?_update_self (Obj.putSet e1 t2) x (by rw [putSet_of e1 t2 y]; rfl)
    rw [putSet_of e1 t2 y] at z
    exact z
  have o1 := put (e1 := es1) (t2 := t1) ho hd
  have b1 := Heap.SameBut.update s.heap a (Obj.putSet es1 t1)
  refine wpAny_bind (wpAny_storeSet_of ho hd ?_ (fits_of_scanBound hb))
  by_cases full : (!was && t1.tooFull) = true
  · rw [if_pos full]
    have q1 := relayAll_perm t1 es1 (SetTable.grown es1.size)
    have q2 := relayAll_fits t1 es1 (SetTable.grown es1.size)
    have q3 := relayAll_ris t1 es1 (SetTable.grown es1.size)
    have q4 := relayAll_led t1 es1 (SetTable.grown es1.size)
    revert q1 q2 q3 q4
    generalize relayAll t1 es1 (SetTable.grown es1.size) = Z
    obtain ⟨e2, t2, gv⟩ := Z
    intro q1 q2 q3 q4
    have sz : e2.size = es1.size := by
      have z := q1.length_eq
      rwa [Array.length_toList, Array.length_toList] at z
    refine wpAny_bind (hg _ _ _ (wpAny_bind (wpAny_storeSet_of o1 rfl (wpAny_pure (k _ (b1.trans (Heap.SameBut.update _ a _)) ?_)) (fits_of_scanBound (by rw [sz]; exact hb)))))
    refine ⟨_, e2, _, t2, put o1 rfl, hx, rfl, fun e he => g1 e (q1.mem_iff.mp he), (q1.map keyS).trans pm, nd, by rw [sz]; exact hb, q2, q3, ?_⟩
    rcases hl with z | z
    · exact .inl z
    · exact .inr (q4.trans z)
  · rw [if_neg full]
    exact wpAny_pure (k _ b1 ⟨_, es1, _, t1, o1, hx, rfl, g1, pm, nd, hb, hf, hr, hl⟩)
theorem lay_in {k : Str} {tk : Tok} {Q : Bool → Shared → Prop} (R : SetS w s.heap a ks) (room : ks.length + 1 < scanBound)
    (q : ∀ h', Heap.SameBut a s.heap h' → SetS w h' a (addN ks k) → ∀ b, Q b { s with heap := h' }) : wpAny (model P w) A (setAddHashed a (.str k tk) ((PySem.strKind P w).hash k)) Q E s := by
  obtain ⟨o, es, ep, t, ho, hx, hd, g, pm, nd, hb, hf, hr, hl⟩ := R
  have hel : ElemsOf (PySem.strKind P w) es.toList := goodS_elems g
  have me : (PySem.strKind P w).is k (.str k tk) = true := by
    show Value.isStrOf k (.str k tk) = true
    simp [Value.isStrOf]
  have sc : (Value.str k tk).scannable = true := rfl
  have quiet : ∀ (b : Bool) (s1 : Shared) (Q' : Unit → Shared → Prop), Q' () s1 → wpAny (model P w) A (match b with | true => rule "set.scan.the-table-gave-way" | false => pure ()) Q' E s1 := fun b s1 Q' z => by
    cases b
    · exact wpAny_pure z
    · exact wpAny_rule z
  unfold setAddHashed setAddHashedIn
  refine wpAny_holding (wpAny_bind (wpAny_setState_of ho hd hf ?_))
  dsimp only
  rw [byScan_of sc hb hel]
  simp only [↓reduceIte]
  unfold setAddByScan
  refine wpAny_bind (wpAny_bind (wpAny_rule (wpAny_bind (wpAny_setScan_of me ho hd hf hel ?_))))
  cases hi : List.findIdx? (fun e => (PySem.strKind P w).is k e.2) es.toList with
  | some j =>
    dsimp only
    obtain ⟨hj, pj, _⟩ := List.findIdx?_eq_some_iff_getElem.mp hi
    have inn : k ∈ ks := by
      refine pm.mem_iff.mp (List.mem_map.mpr ⟨es.toList[j], List.getElem_mem hj, ?_⟩)
      exact (goodS_is (P := P) (g _ (List.getElem_mem hj)) k).1 pj
    have e : addN ks k = ks := if_pos inn
    rw [e] at q
    exact wpAny_pure (wpAny_pure (q s.heap (Heap.SameBut.refl a s.heap) ⟨o, es, ep, t, ho, hx, hd, g, pm, nd, hb, hf, hr, hl⟩ _))
  | none =>
    dsimp only
    have out : k ∉ ks := fun z => by
      obtain ⟨e, he, ek⟩ := List.mem_map.mp (pm.mem_iff.mpr z)
      have c := List.findIdx?_eq_none_iff.mp hi e he
      rw [(goodS_is (P := P) (g e he) k).2 ek] at c
      cases c
    have e : addN ks k = ks ++ [k] := if_neg out
    have nd1 : (ks ++ [k]).Nodup := by
      rw [← e]
      exact addN_nodup nd
    have q1 := layNew_perm t es ((PySem.strKind P w).hash k) (.str k tk)
    have q2 := layNew_fits t es ((PySem.strKind P w).hash k) (.str k tk)
    have q3 := layNew_ris t es ((PySem.strKind P w).hash k) (.str k tk) hr
    have q4 := layNew_led t es ((PySem.strKind P w).hash k) (.str k tk)
    revert q1 q2 q3 q4
    generalize layNew t es ((PySem.strKind P w).hash k) (.str k tk) = Z
    obtain ⟨es1, t1, was, gave⟩ := Z
    intro q1 q2 q3 q4
    dsimp only at q1 q2 q3 q4 ⊢
    rw [Array.toList_push] at q1
    have g1 : ∀ x ∈ es1.toList, goodS w x := fun x hx => by
      rcases List.mem_append.mp (q1.mem_iff.mp hx) with z | z
      · exact g x z
      · rw [List.mem_singleton.mp z]
        exact ⟨k, tk, rfl⟩
    have pm1 : (es1.toList.map keyS).Perm (ks ++ [k]) := by
      have z := q1.map keyS
      rw [List.map_append] at z
      exact z.trans (List.Perm.append_right _ pm)
    have sz : es1.size < scanBound := by
      have z := pm1.length_eq
      rw [List.length_map, Array.length_toList, List.length_append] at z
      rw [z]
      exact room
    have l1 : w.params.followText "set-order" = true ∨ t1.led = true := by
      rcases hl with z | z
      · exact .inl z
      · exact .inr (q4.trans z)
    rw [e] at q
    refine wpAny_bind (quiet _ _ _ ?_)
    split
    · refine wpAny_bind ?_
      rw [hashByValue_scannable 8 sc]
      refine wpAny_pure ?_
      refine lay_S ?_ ho hx hd g1 pm1 nd1 sz ?_ ?_ ?_ fun h' sb r => ?_
      · intro b s1 Q' z
        cases b <;> first | exact wpAny_pure z | exact wpAny_rule z
      · first | exact q2 | (split <;> first | exact q2 | exact SetTable.fits_plain_off q2)
      · first | exact q3 | (split <;> exact q3)
      · first | exact l1 | (split <;> exact l1)
      · exact wpAny_pure (q h' sb r _)
    · refine wpAny_bind (wpAny_pure ?_)
      simp only [↓reduceIte]
      refine lay_S ?_ ho hx hd g1 pm1 nd1 sz q2 q3 l1 fun h' sb r => ?_
      · intro b s1 Q' z
        cases b <;> first | exact wpAny_pure z | exact wpAny_rule z
      · exact wpAny_pure (q h' sb r _)
/-- a text comes into a set -/
theorem add_S {k : Str} {tk : Tok} {Q : Value → Shared → Prop} (R : SetS w s.heap a ks) (room : ks.length + 1 < scanBound)
    (q : ∀ h', Heap.SameBut a s.heap h' → SetS w h' a (addN ks k) → Q .none { s with heap := h', toks := s.toks + 1 }) : wpAny (model P w) A (call (.builtin "set.add") [.ref a, .str k tk]) Q E s := by
  have me : (PySem.strKind P w).is k (.str k tk) = true := by
    show Value.isStrOf k (.str k tk) = true
    simp [Value.isStrOf]
  refine wpAny_call_entry F.slot_set_add (R.kind (P := P)).typeIs F.entry_set_add ?_ (F.args_set_add_2 _ _)
  unfold Builtin.«set.add» Builtin.Frozenset.oneOther
  simp only [List.isEmpty_nil, bind_assoc]
  unfold Builtin.Frozenset.addrOf setAdd
  refine wpAny_bind (wpAny_pure ?_)
  try dsimp only
  refine wpAny_bind (wpAny_pure ?_)
  try dsimp only
  refine wpAny_bind (wpAny_holding (wpAny_bind ((PySem.strKind P w).pyHash me ?_)))
  refine lay_in (s := { s with toks := s.toks + 1 }) R room fun h' sb r b => ?_
  show wpAny _ _ (ret Value.none) _ _ _
  exact wpAny_pure ⟨_, rfl, q h' sb r⟩
end
end Ev

/-! ## {text for .. in ..}, sorted of a set of texts -/
namespace Ev
open PySem PySem.Spec PyProof.Rows L2
def SetSO (w : World) (a : Addr) (ks : List Str) : HO := .ext fun h => SetS w h a ks
theorem setSO_ok {w : World} {P : Program} {H : Hp} {h : Heap} {a : Addr} {ks : List Str} (R : SetS w h a ks) : ObjOk P w H h a (SetSO w a ks) := by
  refine ⟨R, ?_, fun h1 h2 p k => p.at k⟩
  obtain ⟨o, _, _, _, ho, _⟩ := R
  exact ⟨o, ho⟩
section
variable {X : Cx}
theorem setSO_at {pins : List (Addr × Obj)} {σ : L2.St} {H : Hp} {s : Shared} {a : Addr} {ks : List Str} (I : Inv X pins σ H s) (ha : H a = some (SetSO X.w a ks)) : SetS X.w s.heap a ks := (I.hok a _ ha).1
theorem addSO {pins : List (Addr × Obj)} {σ : L2.St} {H : Hp} {s : Shared} {E : Value → Shared → Prop} {a : Addr} {ks : List Str} {k : Str} {tk : Tok} {Q : Value → Shared → Prop} (I : Inv X pins σ H s) (ha : H a = some (SetSO X.w a ks)) (room : ks.length + 1 < scanBound)
    (q : ∀ s', Inv X pins σ (upd H a (SetSO X.w a (addN ks k))) s' → Q .none s') : wpAny (model X.prog X.w) X.A (call (.builtin "set.add") [.ref a, .str k tk]) Q E s := by
  refine add_S (setSO_at I ha) room fun h' sb R => q _ ?_
  have he : ∃ u, h'.get? a = some u := by
    obtain ⟨o, _, _, _, ho, _⟩ := R
    exact ⟨o, ho⟩
  exact I.write (e := a) (t' := s.toks + 1) (by rw [ha]; trivial) (.inl rfl) (fun b u hb hu => (sb.2 b hb).trans hu) he (setSO_ok R)
/-- a set comprehension whose elements are texts -/
def tScS (w : World) (wi : TI) (g : TG) (tt : TT) (te : TE) (vs : List Nat) : TE := fun σ H Q => wi σ H fun J H1 => ∀ D, H1 D = none → ∃ W : Nat → Nat → Hp → Prop, (∃ m, W 0 m (upd H1 D (SetSO w D []))) ∧ ∀ i m H, W i m H →
  (J.stop i H ∧ Q (.ref D) H) ∨ (J.go i H ∧ ∃ Nx : Hp → Prop, (∀ H', Nx H' → ∃ m', m' < m ∧ W (i + 1) m' H') ∧ ∀ x H', J.yld i H x H' → g x (wipe σ vs) H' fun σ2 H2 => wipe σ2 vs = wipe σ vs ∧ tt σ2 H2 fun b H3 =>
    if b = true then te σ2 H3 fun y H4 => ∃ (c : Str) (ks : List Str), y = .str c ∧ H4 D = some (SetSO w D ks) ∧ ks.length + 1 < scanBound ∧ Nx (upd H4 D (SetSO w D (addN ks c))) else Nx H3)
theorem pe_scS {elt tg iter : Expr} {ifs : List Expr} {scope : Scope} {own : List (Str × Nat)} {pos : Pos} {wi : TI} {g : TG} {tt : TT} {te : TE} (hc : X.calm = true) (hN : X.N.Nodup) (hi : PI X tg iter wi) (ok : BlkOk X.N X.env.scope scope own)
    (hg : ∀ (s : Shared) (H : Hp) (C : Addr) (cl : List (Str × Addr)) (fp : List Addr), PG (X.blk s H scope (compEnvC scope cl C X.env) fp) tg g) (ht : ∀ (s : Shared) (H : Hp) (C : Addr) (cl : List (Str × Addr)) (fp : List Addr), PTs (X.blk s H scope (compEnvC scope cl C X.env) fp) ifs tt)
    (he : ∀ (s : Shared) (H : Hp) (C : Addr) (cl : List (Str × Addr)) (fp : List Addr), PE (X.blk s H scope (compEnvC scope cl C X.env) fp) elt te) (hs : ∀ x, foldedSetIterable iter X.env x = pure x := by intro _; rfl) :
    PE X (.SetComp elt [⟨tg, iter, ifs, 0⟩] scope pos) (tScS X.w wi g tt te (own.map (·.2))) := by
  refine ⟨fun pins s σ H Q I h => ?_⟩
  rw [PpSet.eval_SetComp]
  have fr : ∀ y ∈ scope.names, y.2 = .free → ∃ c, X.env.cells.lookup y.1 = some c := fun y hy e => (ok.free y hy e).elim (fun k => I.ok.has _ (.inl k)) fun k => I.ok.has _ (.inr k)
  refine wpAny_comprehension_free (use := none) rfl hs (closure_ok fr) ok.kind (fun y hy e => by rw [ok.uniq y hy, e]) (thn (hi.run pins s σ H _ I h) fun xv s1 hx => thn hx fun itv s2 h2 => ?_)
  obtain ⟨it, fp, tn, J, H2, rfl, I2, T, st2, f2, q⟩ := h2
  refine PpSet.newSet_ok (newEnv_comp ?_)
  -- the set, new at D, and the block's own context
  obtain ⟨D, hD⟩ : ∃ D, s2.heap.objs.size = D := ⟨_, rfl⟩
  obtain ⟨s3, hs3⟩ : ∃ s3 : Shared, { s2 with heap := s2.heap.push { cls := .type "set", dict := none, data := .set #[] 0 (.fresh 0 0 (!X.w.params.followText "set-order")) } } = s3 := ⟨_, rfl⟩
  have h3 : s3.heap = s2.heap.push { cls := .type "set", dict := none, data := .set #[] 0 (.fresh 0 0 (!X.w.params.followText "set-order")) } := by rw [← hs3]
  have old3 : ∀ b o, s2.heap.get? b = some o → s3.heap.get? b = some o := fun b o e => by
    rw [h3]
    exact Heap.get?_push_of_some _ e
  obtain ⟨W, ⟨m0, w0⟩, turn⟩ := q D (I2.hok.fresh (Nat.le_of_eq hD))
  obtain ⟨H3, hH3⟩ : ∃ H3 : Hp, upd H2 D (SetSO X.w D []) = H3 := ⟨_, rfl⟩
  rw [hH3] at w0
  have I3 : Inv X pins σ H3 s3 := by
    rw [← hs3, ← hH3, ← hD]
    exact I2.laid (t' := s2.toks) (fun b o e => Heap.get?_push_of_some _ e) (Nat.le_refl _) (setSO_ok (setS_new X.w s2.heap))
  have f3 : ∀ b ∈ fp, FpOk X pins H3 b ∧ b < s3.heap.objs.size := fun b hb => by
    obtain ⟨o, eo, _⟩ := T.obj _ _ st2 b hb
    have lt2 := Heap.lt_size eo
    have ne : b ≠ D := by
      rw [← hD]
      exact Nat.ne_of_lt lt2
    refine ⟨⟨?_, (f2 b hb).2⟩, Heap.lt_size (old3 b o eo)⟩
    rw [← hH3, upd_ne ne]
    exact (f2 b hb).1
  have I4 := block_start I3 ok hN f3
  have pg := hg s3 H3 s3.heap.objs.size (cellsFrom (s3.heap.objs.size + 1) scope.names (cloFrom X.env.cells scope.names [])) fp
  have pt := ht s3 H3 s3.heap.objs.size (cellsFrom (s3.heap.objs.size + 1) scope.names (cloFrom X.env.cells scope.names [])) fp
  have pe := he s3 H3 s3.heap.objs.size (cellsFrom (s3.heap.objs.size + 1) scope.names (cloFrom X.env.cells scope.names [])) fp
  rw [hs3]
  show codeAny _ _ (.compStart (.SetComp elt [⟨tg, iter, ifs, 0⟩] scope pos) 0 (.ref it) (.ref s2.heap.objs.size) (compEnvC scope (cellsFrom (s3.heap.objs.size + 1) scope.names (cloFrom X.env.cells scope.names [])) s3.heap.objs.size X.env)) (compPost (model X.prog X.w) X.A X.xe none _ (.ref s2.heap.objs.size) s3.heap.objs.size) { s3 with heap := pushCells (s3.heap.push { cls := .type "dict", data := .dict #[] }) scope.names }
  rw [hD]
  obtain ⟨ce, hce⟩ : ∃ ce, compEnvC scope (cellsFrom (s3.heap.objs.size + 1) scope.names (cloFrom X.env.cells scope.names [])) s3.heap.objs.size X.env = ce := ⟨_, rfl⟩
  have cL : ce.locals = s3.heap.objs.size := by
    rw [← hce]
    rfl
  obtain ⟨s4, hs4⟩ : ∃ s4 : Shared, { s3 with heap := pushCells (s3.heap.push { cls := .type "dict", data := .dict #[] }) scope.names } = s4 := ⟨_, rfl⟩
  rw [hce] at I4 pg pt pe ⊢
  rw [hs4] at I4 ⊢
  have st4 : tn 0 s4.heap := T.keep _ _ _ st2 fun b _ o e => by
    rw [← hs4]
    exact pushCells_keeps _ _ _ _ (Heap.get?_push_of_some _ (old3 b o e))
  let Y := X.blk s3 H3 scope ce fp
  have out : ∀ {σ' : L2.St} {H' : Hp} {s' : Shared}, Inv Y [] σ' H' s' → (∀ b ∈ fp, H' b = none) → ∀ b ∈ fp, FpOk Y [] H' b := fun {σ' H' s'} I' hn b hb =>
    ⟨hn b hb, (I'.ok.exf b hb).1, I'.ok.exfs b hb, .inl hb, fun x c e => (I'.ok.exf b hb).2 x c e, fun p hp => absurd (show p ∈ ([] : List (Addr × Obj)) ++ [] from hp) (by simp)⟩
  -- what holds between two turns
  let Mid : Nat → Shared → Prop := fun n s' => ∃ i H', Inv Y [] (wipe σ (own.map (·.2))) H' s' ∧ tn i s'.heap ∧ (∀ b ∈ fp, H' b = none) ∧ W i n H'
  have loop : codeAny (model X.prog X.w) X.A (.compLoop (.SetComp elt [⟨tg, iter, ifs, 0⟩] scope pos) 0 (.ref it) (.ref D) ce) (compPost (model X.prog X.w) X.A X.xe none (EP X pins σ Q) (.ref D) s3.heap.objs.size) s4 := by
    refine PpSet.compLoopS_any Mid (fun n s5 ⟨i, H5, I5, st5, n5, w5⟩ => ?_) m0 ⟨0, H3, I4, st4, fun b hb => (f3 b hb).1.1, w0⟩
    rcases turn i n H5 w5 with ⟨stop, qq⟩ | ⟨go, Nx, hNx, step⟩
    · refine thnF (T.done Y rfl rfl rfl hc i [] s5 _ H5 (fun _ _ => False) I5 (out I5 n5) st5 stop) fun r s6 ⟨hr, I6⟩ => ?_
      subst hr
      have I7 : Inv X pins σ H5 s6 := I3.call' (ch := fp) I6.os I6.base I6.hok I6.bare fun b hb => ⟨(f3 b hb).1.2.2.2.1, (f3 b hb).1.2.1, (f3 b hb).1.2.2.2.2.1, (f3 b hb).1.2.2.2.2.2⟩
      have nC : H5 s3.heap.objs.size = none := by
        rw [← cL]
        exact I6.free
      obtain ⟨m, hn, _⟩ := I6.loc
      have hn : s6.heap.Ns ce.locals m := hn
      rw [cL] at hn
      obtain ⟨z0, z1, _, z3, z4, z5⟩ := I3.fpOk (Nat.le_refl _) nC
      exact ⟨m, hn, fun h'' sb => ⟨.ref D, H5, I7.turned (t' := s6.toks) (fun b o hb e => (sb.2 b hb).trans e) z0 z1 z3 z4 z5, rfl, qq⟩⟩
    · refine thnF (T.item Y rfl rfl rfl hc i [] s5 _ H5 (fun _ _ => False) I5 (out I5 n5) st5 go) fun r s6 ⟨u, hr, h6⟩ => ?_
      subst hr
      refine thnF h6 fun _ s7 ⟨x, H7, I7, r7, y7, st7, n7⟩ => ?_
      refine thnF (pg.run _ s7 _ H7 x u _ (I7.pinned (out I7 n7) (T.obj _ _ st7)) r7 (step x H7 y7)) fun _ s8 ⟨σ8, H8, I8, hw8, q8⟩ => ?_
      refine thnF (pt.run _ s8 σ8 H8 _ I8 q8) fun b s9 ⟨H9, I9, q9⟩ => ?_
      have next : ∀ {s' : Shared} {H' : Hp}, Inv Y ([] ++ pinsAt fp s7.heap) σ8 H' s' → Nx H' → ∃ m, m < n ∧ Mid m s' := fun {s' H'} I' nx => by
        obtain ⟨m', hm, w'⟩ := hNx H' nx
        have pin' : ∀ b ∈ fp, ∀ o, s7.heap.get? b = some o → s'.heap.get? b = some o ∧ H' b = none := fun b hb o e => by
          have z := I'.pin (b, o) (List.mem_append_right _ (List.mem_append_right _ (mem_pinsAt hb e)))
          exact ⟨z.1, z.2.1⟩
        have hl : (wipe σ (own.map (·.2))).length = σ8.length := by
          rw [← hw8, wipe_length]
        refine ⟨m', hm, i + 1, H', (I'.unpinned (pins := [])).weak hl (fun j v e => ?_), T.keep _ _ _ st7 fun b hb o e => (pin' b hb o e).1, fun b hb => ?_, w'⟩
        · rw [← hw8] at e
          exact (wipe_some e).1
        · obtain ⟨o, e, _⟩ := T.obj _ _ st7 b hb
          exact (pin' b hb o e).2
      dsimp only at q9
      by_cases hb : b = true
      · subst hb
        rw [if_pos rfl] at q9 ⊢
        refine thnF (pe.run _ s9 σ8 H9 _ I9 q9) fun z s10 ⟨yv, H10, I10, r10, c0, ks, ey, hD10, hz10, nx⟩ => ?_
        subst ey
        obtain ⟨tk, rfl⟩ := (show ∃ tk, z = Value.str c0 tk from r10)
        exact addSO (X := Y) I10 hD10 hz10 fun s11 I11 => next I11 nx
      · rw [if_neg hb] at q9 ⊢
        exact next I9 q9
  exact PpSet.codeAny_compStart_set loop (T.self X.A 0 _ _ _ st4 loop)
end
end Ev

/-! ## sorted(set of texts), set(list of texts) -/
namespace Ev
open PySem PySem.Spec PyProof.Rows L2
section
variable {P : Program} {w : World} {A : Around} {E : Value → Shared → Prop} {s : Shared} {a : Addr} {ks : List Str}
theorem strs_map {w : World} : ∀ {vs : List Value}, (∀ v ∈ vs, ∃ x tk, v = Value.str x tk) → StrsAre vs (vs.map fun v => keyS (0, v))
  | [], _ => .nil
  | v :: vs, h => by
    obtain ⟨x, tk, rfl⟩ := h v (List.mem_cons_self ..)
    exact .cons x tk (strs_map (w := w) fun u hu => h u (List.mem_cons_of_mem _ hu))
theorem sorted_S {Q : Value → Shared → Prop} (R : SetS w s.heap a ks) (hh : A.handled = none) (few : ks.length < 64)
    (q : ∀ s' p (out : Array Value) (c : Nat) (ys : List Str), (∀ b o, s.heap.get? b = some o → s'.heap.get? b = some o) → s'.gens = s.gens → s'.os = s.os → s.heap.objs.size ≤ p →
      s'.heap.get? p = some (seqObj "list" out c) → StrsAre out.toList ys → ys.Perm ks → sortedS ys = true → Q (.ref p) s') : wpAny (model P w) A (call (.builtin "sorted") [.ref a]) Q E s := by
  obtain ⟨o, es, ep, t, ho, hx, hd, g, pm, nd, hb, hf, hr, hl⟩ := R
  refine Calls.call_function_entry kind_sorted plain_sorted entry_sorted (args_sorted1 _) ?_
  unfold Builtin.«sorted»
  refine wpAny_bind (m := checkCount "sorted" 1 1 _) (wpAny_pure ?_)
  refine wpAny_bind (collect_set (A := A.in1) hh ⟨o, ho, hx.1, hd⟩ hf hb hr hl fun s1 vs k1 hz g1 o1 pv => ?_)
  have all : ∀ v ∈ vs, ∃ x tk, v = Value.str x tk := fun v hv => by
    obtain ⟨e, he, rfl⟩ := List.mem_map.mp (pv.mem_iff.mp hv)
    obtain ⟨x, tk, rfl⟩ := g e he
    exact ⟨x, tk, rfl⟩
  have hS := strs_map (w := w) all
  have pk : (vs.map fun v => keyS (0, v)).Perm ks := by
    refine (pv.map fun v => keyS (0, v)).trans ?_
    rw [List.map_map]
    exact pm
  have hvl : vs.length = ks.length := by
    have z := pk.length_eq
    rw [List.length_map] at z
    exact z
  refine wpAny_bind (wpAny_newList ?_ (by rw [hvl, sizeLine_eq]; omega))
  have hoL : (s1.heap.push (seqObj "list" vs.toArray 0)).get? s1.heap.objs.size = some (seqObj "list" vs.toArray 0) := Heap.get?_push_size _ rfl
  refine wpAny_bind (wpAny_holding (wpAny_call_entry slot_list_sort ⟨_, hoL, rfl⟩ entry_list_sort
    (list_sort_treeK strKind_oneLt hoL hS.keysOf (fun v₁ v₂ rest e => keyKind_strs (by rw [← e]; exact hS)) (by rw [hvl]; exact few) fun st' hp hs => ⟨_, rfl, ?_⟩) (args_list_sort _)))
  obtain ⟨ys, y1, y2, y3⟩ := sorted_out_str hS hp hs
  obtain ⟨c, hc⟩ := sortedHeap_at (vs := vs) (out := (arrOf st').map (·.2)) hoL
  refine wpAny_pure ⟨_, rfl, q _ s1.heap.objs.size _ c ys (fun b u e => ?_) g1 o1 hz hc y1 (y2.trans pk) y3⟩
  have z := k1 b u e
  have lt := Heap.lt_size z
  show (sortedHeap (s1.heap.push (seqObj "list" vs.toArray 0)) s1.heap.objs.size vs ((arrOf st').map (·.2))).get? b = some u
  rw [sortedHeap_old (Nat.ne_of_lt lt) (by rw [size_push']; exact Nat.lt_succ_of_lt lt)]
  exact Heap.get?_push_of_some _ z
/-- the members, in the order in which they came -/
def uniq : List Str → List Str → List Str
  | acc, [] => acc
  | acc, x :: xs => uniq (addN acc x) xs
theorem uniq_snoc : ∀ (xs acc : List Str) (x : Str), uniq acc (xs ++ [x]) = addN (uniq acc xs) x
  | [], _, _ => rfl
  | y :: xs, acc, x => uniq_snoc xs (addN acc y) x
theorem uniq_len : ∀ (xs acc : List Str), (uniq acc xs).length ≤ acc.length + xs.length
  | [], _ => Nat.le_refl _
  | x :: xs, acc => by
    have h := uniq_len xs (addN acc x)
    have h2 := addN_len (ks := acc) (k := x)
    show (uniq (addN acc x) xs).length ≤ acc.length + (xs.length + 1)
    omega
theorem uniq_mem : ∀ (xs acc : List Str) (z : Str), z ∈ uniq acc xs ↔ z ∈ acc ∨ z ∈ xs
  | [], acc, z => by
    rw [show uniq acc [] = acc from rfl]
    simp
  | x :: xs, acc, z => by
    show z ∈ uniq (addN acc x) xs ↔ _
    rw [uniq_mem xs, mem_addN, List.mem_cons, or_assoc]
theorem uniq_nodup : ∀ (xs acc : List Str), acc.Nodup → (uniq acc xs).Nodup
  | [], _, h => h
  | x :: xs, acc, h => uniq_nodup xs (addN acc x) (addN_nodup h)
/-- the loop of set.update, over texts -/
theorem update_S {I : Addr} {fp wr : List Addr} {G : Array GenState → Array GenState → Prop} {n : Nat} {Pv : Nat → Value → Prop} {St : Nat → Shared → Prop} {R : Result → Shared → Prop} (W : WalksS P w A.in1 I fp wr G n Pv St) (D : Addr) (hDf : D ∉ fp)
    (zs : List Str) (hn : n = zs.length) (hv : ∀ i v, Pv i v → ∃ x tk, zs[i]? = some x ∧ v = .str x tk) (few : zs.length + 1 < scanBound) :
    ∀ (k i : Nat) (s : Shared), n - i = k → i ≤ n → St i s → SetS w s.heap D (uniq [] (zs.take i)) → (∀ s', Moved (D :: wr) G s s' → SetS w s'.heap D (uniq [] zs) → R (.ok (.ret .none)) s') →
      codeAny (model P w) A (.builtin "set.update.loop" ⟨[.ref D, .ref I], []⟩) R s := by
  have hDw : D ∉ wr := fun z => hDf (W.sub _ z)
  have sub : ∀ b ∈ wr, b ∈ D :: wr := fun b hb => List.mem_cons_of_mem _ hb
  intro k
  induction k with
  | zero =>
    intro i s hk hi hst hS q
    have hin : i = zs.length := by omega
    rw [hin, List.take_length] at hS
    have hin' : i = n := by omega
    subst hin'
    refine codeAny_builtin F.entry_set_update_loop ?_
    rw [Around.under_plainId F.plain_set_update_loop _]
    show wpAny _ A.in1 (pyNext (.ref I) >>= _) _ _ s
    refine wpAny_bind (W.done s _ _ hst fun s' hm => ?_)
    show wpAny _ A.in1 (ret Value.none) _ _ s'
    exact wpAny_pure (q s' (hm.mono sub) (hS.at fun o e => hm.heap D o hDw e))
  | succ k ih =>
    intro i s hk hi hst hS q
    have hlt : i < n := by omega
    refine codeAny_builtin F.entry_set_update_loop ?_
    rw [Around.under_plainId F.plain_set_update_loop _]
    show wpAny _ A.in1 (pyNext (.ref I) >>= _) _ _ s
    refine wpAny_bind (W.item i s _ _ hlt hst fun v s' hP hst' hm => ?_)
    obtain ⟨x, tk, hx, rfl⟩ := hv i v hP
    have hS' : SetS w s'.heap D (uniq [] (zs.take i)) := hS.at fun o e => hm.heap D o hDw e
    show wpAny _ A.in1 (holding [Value.str x tk] (setAdd D (.str x tk)) >>= _) _ _ s'
    refine wpAny_bind (wpAny_holding ?_)
    unfold setAdd
    have me : (PySem.strKind P w).is x (.str x tk) = true := by
      show Value.isStrOf x (.str x tk) = true
      simp [Value.isStrOf]
    refine wpAny_holding (wpAny_bind ((PySem.strKind P w).pyHash me ?_))
    have room : (uniq [] (zs.take i)).length + 1 < scanBound := by
      have z := uniq_len (zs.take i) []
      rw [List.length_take] at z
      have z0 : ([] : List Str).length = 0 := rfl
      omega
    refine lay_in (s := { s' with toks := s'.toks + 1 }) hS' room fun h' sb R2 b => ?_
    rw [← uniq_snoc, show zs.take i ++ [x] = zs.take (i + 1) by rw [List.take_add_one, hx]; rfl] at R2
    refine wpAny_pure ⟨plainId_quiet F.plain_set_update_loop _, ih (i + 1) _ (by omega) hlt (W.frame _ s' _ _ hst' (Nat.le_add_right _ _) fun b hb o e => ?_) R2 fun s'' hm'' hS'' => ?_⟩
    · rw [sb.2 b (fun z : b = D => hDf (by rw [← z]; exact hb))]
      exact e
    · refine q s'' (Moved.trans W.gtrans ((hm.mono sub).then_heap (Nat.le_add_right _ _) fun b o hb e => ?_) hm'') hS''
      rw [sb.2 b (fun z : b = D => hb (by rw [z]; exact List.mem_cons_self))]
      exact e
end
section
variable {X : Cx}
/-- sorted(set of texts) -/
def rSortSS (w : World) : List V → Hp → VK → Prop := fun vs H Q => ∃ (a : Addr) (ks : List Str), vs = [V.ref a] ∧ H a = some (SetSO w a ks) ∧ ks.length < 64 ∧ ∀ (ys : List Str) (p : Addr), ys.Perm ks → sortedS ys = true → H p = none → Q (.ref p) (upd H p (.lst (ys.map V.str)))
theorem cr_sortSS (hc : X.calm = true) : CallR X (.builtin "sorted") (rSortSS X.w) := by
  intro pins s σ H vs us Q I r h
  obtain ⟨a, ks, rfl, ha, few, q⟩ := h
  rw [Vals.ref1 r]
  refine sorted_S (setSO_at I ha) (I.ok.hd hc) few fun s' p out c ys k g o hp hg hi pm hs => ?_
  have hn : H p = none := I.hok.fresh hp
  have hlen : (ys.map V.str).length ≤ sizeLine := by
    have z := pm.length_eq
    rw [List.length_map, sizeLine_eq]
    omega
  have J : Inv X pins σ (upd H p (.lst (ys.map V.str))) { s with heap := s'.heap, gens := s'.gens, drawn := s'.drawn, toks := s'.toks } :=
    I.call (ch := []) (Un.laid k hp hn) (I.hok.laid k hp ⟨hlen, out.toList, c, vals_of_strs hi, hg⟩) (by rw [g]; exact I.bare) (fun _ z => nomatch z)
  have e : s' = { s with heap := s'.heap, gens := s'.gens, drawn := s'.drawn, toks := s'.toks } := by
    cases s'
    cases s
    cases o
    rfl
  rw [e]
  exact ⟨.ref p, _, J, rfl, q ys p pm hs hn⟩
end
end Ev

/-! ## set(list of texts) -/
namespace Ev
open PySem PySem.Spec PyProof.Rows L2
section
variable {P : Program} {w : World} {A : Around} {E : Value → Shared → Prop} {s : Shared}
theorem strs_get : ∀ {vs : List Value} {zs : List Str} {i : Nat} {v : Value}, StrsAre vs zs → vs[i]? = some v → ∃ x tk, zs[i]? = some x ∧ v = .str x tk
  | _, _, _, _, .nil, e => by cases e
  | _, _, 0, _, .cons x tk _, e => by
    cases e
    exact ⟨x, tk, rfl, rfl⟩
  | _, _, i + 1, _, .cons _ _ h, e => strs_get (i := i) h e
/-- a new empty set behind the heap -/
abbrev emp (w : World) (h : Heap) : Heap := h.push { cls := .type "set", dict := none, data := .set #[] 0 (.fresh 0 0 (!w.params.followText "set-order")) }
theorem set_S {l : Addr} {items : Array Value} {zs : List Str} {Q : Value → Shared → Prop} (hh : A.handled = none) (hl : s.heap.IsList l items) (hit : StrsAre items.toList zs) (few : zs.length + 1 < scanBound)
    (q : ∀ (h' : Heap) (tk : Nat), SetS w h' s.heap.objs.size (uniq [] zs) → (∀ b o, s.heap.get? b = some o → h'.get? b = some o) → Q (.ref s.heap.objs.size) { s with heap := h', toks := tk }) :
    wpAny (model P w) A (call (.type "set") [.ref l]) Q E s := by
  have hz : items.size = zs.length := by
    have z := hit.length
    rw [Array.length_toList] at z
    exact z
  obtain ⟨c, tl, hmro⟩ := F.called_set.mro
  have f1 := F.called_set.made
  have f2 := F.called_set.sub
  have f3 := F.called_set.notType
  have f4 := F.called_set.canCreate
  have f5 := F.typeCall_set_1 (.ref l)
  refine wpAny_call (codeAny_of_tree ?_)
  show wpAny _ _ (callAny (.type "set") _) _ _ _
  refine wpAny_pure ⟨Code.quiet_builtin _ (by decide +kernel), codeAny_builtin F.entry_type_call ?_⟩
  rw [Around.under_plain (weight_type_call_type "set" [.ref l] []) rfl]
  repeat (any_goals (first | assumption | wp_step))
  refine codeAny_mono (code_set_led1 (.ref l) (E := E) (Q₁ := fun v s1 => v = .ref s.heap.objs.size ∧ s1 = { s with heap := emp w s.heap }) ⟨rfl, rfl⟩) fun r s1 hr => ?_
  match r, hr with
  | .error e, hr => exact hr
  | .ok (.ret v), hr =>
    obtain ⟨rfl, rfl⟩ := hr
    have hD : (emp w s.heap).get? s.heap.objs.size = some { cls := .type "set", dict := none, data := .set #[] 0 (.fresh 0 0 (!w.params.followText "set-order")) } := Heap.get?_push_size _ rfl
    have hT : Shared.TypeIs { s with heap := emp w s.heap } (.ref s.heap.objs.size) "set" := ⟨_, hD, rfl⟩
    have f6 := F.called_set.init.lookup
    have f7 := F.called_set.init.bind (.ref s.heap.objs.size)
    repeat (any_goals (first | assumption | wp_step))
    refine codeAny_mono (codeAny_call_builtin (R := wants (fun r s2 => r = .none ∧ ∃ h' tk, s2 = { s with heap := h', toks := tk } ∧ SetS w h' s.heap.objs.size (uniq [] zs) ∧ ∀ b o, s.heap.get? b = some o → h'.get? b = some o) E)
      F.called_set.init.plain F.entry_set_init (check_set_init_1 hT ?_)) fun r2 s2 hr2 => ?_
    · obtain ⟨⟨oc, od, odt, osl⟩, ho, hc, nl, hd⟩ := hl
      simp only at hc hd
      subst hc hd
      have ho1 : (emp w s.heap).get? l = some { cls := .type "list", dict := od, data := .seq items nl, slots := osl } := Heap.get?_push_of_some _ ho
      have l1 : (emp w s.heap).IsList l items := ⟨_, ho1, rfl, nl, rfl⟩
      have f8 := F.sub_list_set
      have f9 := F.sub_list_frozenset
      have f10 : (Value.type "list" == Value.type "dict") = false := by decide
      unfold Builtin.«set.__init__» noKeywords Builtin.Frozenset.updateFrom
      generalize hPI : pyIter = PI
      wp_walk
      subst hPI
      refine wpAny_pyIter_list l1 (wpAny_bind (wpAny_runValue ?_))
      have lt : l < s.heap.objs.size := Heap.lt_size ho
      have h3 : A.in1.in1.in1.handled = none := by simp [hh]
      have sz : (emp w s.heap).objs.size = s.heap.objs.size + 1 := Heap.size_push ..
      have neI : l ≠ (emp w s.heap).objs.size := by
        rw [sz]
        exact Nat.ne_of_lt (Nat.lt_succ_of_lt lt)
      have nf : s.heap.objs.size ∉ [(emp w s.heap).objs.size, l] := by
        rw [sz, List.mem_cons, List.mem_singleton, not_or]
        exact ⟨Nat.ne_of_lt (Nat.lt_succ_self _), Nat.ne_of_gt lt⟩
      have hv : ∀ (i : Nat) (v : Value), items[i]? = some v → ∃ x tk, zs[i]? = some x ∧ v = .str x tk := fun i v e => by
        have z : items.toList[i]? = some v := by
          rw [Array.getElem?_toList]
          exact e
        exact strs_get hit z
      refine update_S ((Walks.list h3 _ l neI items).toS) s.heap.objs.size nf zs hz hv few (items.size - 0) 0 _ (by omega) (Nat.zero_le _) ⟨⟨_, Heap.get?_push_size _ rfl, rfl, rfl⟩, l1.push _⟩
        ((setS_new w s.heap).at fun o e => Heap.get?_push_of_some _ e) fun s' hm hS' => ?_
      obtain ⟨h', g2, d', tk', os'⟩ := s'
      have eg : g2 = s.gens := hm.gens
      have ed : d' = s.drawn := hm.drawn
      have eo : os' = s.os := hm.os
      subst eg
      subst ed
      subst eo
      show wpAny _ _ _ _ _ _
      refine wpAny_pure ?_
      show wpAny _ _ (ret Value.none) _ _ _
      refine wpAny_pure ⟨rfl, h', tk', rfl, hS', fun b o e => ?_⟩
      have lb := Heap.lt_size e
      refine hm.heap b o (fun z => ?_) (Heap.get?_push_of_some _ (Heap.get?_push_of_some _ e))
      rcases List.mem_cons.mp z with z | z
      · rw [z] at lb
        exact Nat.lt_irrefl _ lb
      · have z := List.mem_singleton.mp z
        rw [z, sz] at lb
        exact Nat.not_lt_of_le (Nat.le_succ _) lb
    · match r2, hr2 with
      | .error e, hr2 => exact hr2
      | .ok (.ret v), hr2 =>
        obtain ⟨rfl, h', tk, rfl, hS', hk⟩ := hr2
        repeat (any_goals (first | assumption | wp_step))
        exact q _ _ hS' hk
      | .ok .next, hr2 => exact hr2.elim
      | .ok .brk, hr2 => exact hr2.elim
      | .ok .cont, hr2 => exact hr2.elim
  | .ok .next, hr => exact hr.elim
  | .ok .brk, hr => exact hr.elim
  | .ok .cont, hr => exact hr.elim
end
section
variable {X : Cx}
/-- set(list of texts) -/
def rSetS (K : PySem.W.Frag) (w : World) : List V → Hp → VK → Prop := fun xs H Q => ∃ (l : Addr) (zs : List Str), xs = [V.ref l] ∧ SqL K H l (zs.map V.str) ∧ zs.length < 4000 ∧ ∀ a, H a = none → Q (.ref a) (upd H a (SetSO w a (uniq [] zs)))
theorem cr_setS (hc : X.calm = true) : CallR X (.type "set") (rSetS X.K X.w) := by
  intro pins s σ H xs us Q I r h
  obtain ⟨l, zs, rfl, hl, few, q⟩ := h
  rw [Vals.ref1 r]
  obtain ⟨its, rv, pl, hz⟩ := I.list hl
  have hn : H s.heap.objs.size = none := I.hok.fresh (Nat.le_refl _)
  have hb : scanBound = 4096 := rfl
  refine set_S (P := X.prog) (w := X.w) (I.ok.hd hc) pl.isList (by simpa using rv.strs) (by omega) fun h' tk R k => ?_
  exact ⟨.ref s.heap.objs.size, upd H s.heap.objs.size (SetSO X.w s.heap.objs.size (uniq [] zs)), I.laid (t' := tk) k (Nat.le_refl _) (setSO_ok R), rfl, q _ hn⟩
end
end Ev

/-! ## Programs, pairs, and what comprehensions over them give -/
namespace Ev
open PySem PySem.Spec PyProof.Rows L2
/-- a statement that is never reached -/
theorem ps_dead {X : Cx} {st : Stmt} : PS X st (fun _ _ _ => False) := ⟨fun _ _ _ _ _ _ h => h.elim⟩
theorem pss_dead {X : Cx} {b : List Stmt} : PSs X b (fun _ _ _ => False) := ⟨fun _ _ _ _ _ _ h => h.elim⟩
inductive It where
  | line (x : Str) (t : Int)
  | loop (r : Int) (is : List It)
mutual
def It.d : It → PyData
  | .line x t => .tuple [.str "line", .str x, .int t]
  | .loop r is => .tuple [.str "loop", .int r, .tuple (Its.d is)]
def Its.d : List It → List PyData
  | [] => []
  | i :: is => It.d i :: Its.d is
end
theorem Its.d_map : ∀ is : List It, Its.d is = is.map It.d
  | [] => by rw [Its.d]; rfl
  | i :: is => by rw [Its.d, Its.d_map is]; rfl
/-- loops at most n deep, numbers from 0 below 2 ^ B -/
def Okp (B : Nat) : Nat → It → Prop
  | _, .line _ t => 0 ≤ t ∧ t < (2 ^ B : Nat)
  | 0, .loop _ _ => False
  | n + 1, .loop r is => 0 ≤ r ∧ r < (2 ^ B : Nat) ∧ ∀ i ∈ is, Okp B n i
theorem okp_line {B n : Nat} {x : Str} {t : Int} : Okp B n (.line x t) ↔ 0 ≤ t ∧ t < (2 ^ B : Nat) := by
  cases n <;> exact Iff.rfl
mutual
/-- the lines with their ticks, all rounds r times -/
def It.sp (r : Int) : It → List (Str × Int)
  | .line x t => [(x, r * t)]
  | .loop k is => Its.sp (r * k) is
def Its.sp (r : Int) : List It → List (Str × Int)
  | [] => []
  | i :: is => It.sp r i ++ Its.sp r is
end
theorem Its.sp_app (r : Int) : ∀ is js : List It, Its.sp r (is ++ js) = Its.sp r is ++ Its.sp r js
  | [], js => by
    rw [List.nil_append, Its.sp]
    rfl
  | i :: is, js => by
    rw [List.cons_append, Its.sp, Its.sp, Its.sp_app r is js, List.append_assoc]
theorem Its.sp_one (r : Int) (i : It) : Its.sp r [i] = It.sp r i := by
  rw [Its.sp, Its.sp, List.append_nil]
mutual
/-- how many lines there are -/
def It.nl : It → Nat
  | .line _ _ => 1
  | .loop _ is => Its.nl is
def Its.nl : List It → Nat
  | [] => 0
  | i :: is => It.nl i + Its.nl is
end
mutual
theorem It.sp_len (r : Int) : ∀ i : It, (It.sp r i).length = It.nl i
  | .line x t => by
    rw [It.sp, It.nl]
    rfl
  | .loop k is => by
    rw [It.sp, It.nl, Its.sp_len (r * k) is]
theorem Its.sp_len (r : Int) : ∀ is : List It, (Its.sp r is).length = Its.nl is
  | [] => by
    rw [Its.sp, Its.nl]
    rfl
  | i :: is => by
    rw [Its.sp, Its.nl, List.length_append, It.sp_len r i, Its.sp_len r is]
end
theorem Its.nl_app : ∀ is js : List It, Its.nl (is ++ js) = Its.nl is + Its.nl js
  | [], js => by
    rw [List.nil_append, Its.nl, Nat.zero_add]
  | i :: is, js => by
    rw [List.cons_append, Its.nl, Its.nl, Its.nl_app is js, Nat.add_assoc]
theorem Its.nl_mem : ∀ {is : List It} {i : It}, i ∈ is → It.nl i ≤ Its.nl is
  | j :: is, i, h => by
    rw [Its.nl]
    rcases List.mem_cons.mp h with rfl | h
    · exact Nat.le_add_right _ _
    · exact Nat.le_trans (Its.nl_mem h) (Nat.le_add_left _ _)
/-! ### pairs -/
def pairD (p : Str × Int) : PyData := .tuple [.str p.1, .int p.2]
/-- a list of pairs -/
def gPl (K : PySem.W.Frag) (ps : List (Str × Int)) : GP := ⟨fun H u => ∃ l us, u = .ref l ∧ H l = some (.lst us) ∧ DaAll K H us (ps.map pairD), fun s ⟨l, us, h1, h2, h3⟩ => ⟨l, us, h1, s _ _ h2, h3.mono s⟩⟩
section
variable {K : PySem.W.Frag} {H H' : Hp}
theorem da_app {us vs : List V} {ds es : List PyData} : DaAll K H us ds → DaAll K H vs es → DaAll K H (us ++ vs) (ds ++ es)
  | .nil, k => k
  | .cons h t, k => .cons h (da_app t k)
theorem daAll_len : ∀ {vs : List V} {ds : List PyData}, DaAll K H vs ds → vs.length = ds.length
  | _, _, .nil => rfl
  | _, _, .cons _ t => by
    rw [List.length_cons, List.length_cons, daAll_len t]
theorem daAll_at : ∀ {vs : List V} {ds : List PyData} {j : Nat} {x : V}, DaAll K H vs ds → vs[j]? = some x → ∃ d, ds[j]? = some d ∧ Da K H x d
  | _, _, _, _, .nil, e => by cases e
  | _, _, 0, _, .cons h _, e => by
    cases e
    exact ⟨_, rfl, h⟩
  | _, _, j + 1, _, .cons _ t, e => daAll_at (j := j) t e
mutual
/-- made of tuples alone -/
def tupD : PyData → Bool
  | .tuple ds => tupDs ds
  | .list _ => false
  | .dict _ => false
  | _ => true
def tupDs : List PyData → Bool
  | [] => true
  | d :: ds => tupD d && tupDs ds
end
/-- what is no list stays -/
def Kt (H H' : Hp) : Prop := ∀ b o, H b = some o → (∀ xs, o ≠ .lst xs) → H' b = some o
theorem Kt.of {H H' : Hp} (s : Same H H') : Kt H H' := fun b o e _ => s b o e
theorem Kt.put {H : Hp} {l : Addr} {xs : List V} {o : HO} (h : H l = some (.lst xs)) : Kt H (upd H l o) := fun b u e n => by
  have z : b ≠ l := fun z => by
    rw [z, h] at e
    cases e
    exact n xs rfl
  rw [upd_ne z]
  exact e
theorem Kt.trans {H1 H2 H3 : Hp} (a : Kt H1 H2) (b : Kt H2 H3) : Kt H1 H3 := fun x o e n => b x o (a x o e n) n
mutual
theorem Da.kt (k : Kt H H') : ∀ {v : V} {d : PyData}, tupD d = true → Da K H v d → Da K H' v d
  | _, _, _, .non => .non
  | _, _, _, .bl b => .bl b
  | _, _, _, .int i => .int i
  | _, _, _, .str x => .str x
  | _, _, n, .lst _ _ => by
    rw [tupD] at n
    cases n
  | _, _, n, .tup h t => by
    rw [tupD] at n
    refine .tup ?_ (DaAll.kt k n t)
    rcases h with (e | ⟨o, e⟩) | e
    · exact .inl (.inl (k _ _ e fun xs z => by cases z))
    · exact .inl (.inr ⟨o, k _ _ e fun xs z => by cases z⟩)
    · exact .inr e
  | _, _, n, .dic _ _ => by
    rw [tupD] at n
    cases n
theorem DaAll.kt (k : Kt H H') : ∀ {vs : List V} {ds : List PyData}, tupDs ds = true → DaAll K H vs ds → DaAll K H' vs ds
  | _, _, _, .nil => .nil
  | _, _, n, .cons h t => by
    rw [tupDs, Bool.and_eq_true] at n
    exact .cons (Da.kt k n.1 h) (DaAll.kt k n.2 t)
end
theorem tup_pairs : ∀ ps : List (Str × Int), tupDs (ps.map pairD) = true
  | [] => by rw [List.map_nil, tupDs]
  | p :: ps => by
    rw [List.map_cons, tupDs, tup_pairs ps, Bool.and_true]
    unfold pairD
    simp [tupD, tupDs]
theorem da_pair {x : V} {p : Str × Int} (h : Da K H x (pairD p)) : ∃ a, x = .ref a ∧ SqT K H a [.str p.1, .int p.2] := by
  unfold pairD at h
  cases h with
  | @tup a xs _ hs ha =>
  cases ha with
  | cons h1 ha =>
  cases ha with
  | cons h2 ha =>
  cases ha
  cases h1
  cases h2
  exact ⟨a, rfl, hs⟩
end
/-! ### comprehensions whose elements are plain values -/
section
variable {K : PySem.W.Frag} {H0 : Hp} {σ : L2.St} {te ti : TE} {tt : TT}
/-- over a list that an expression gives -/
theorem g_lcF {ds : List PyData} {f : Nat → Bool} {y : Nat → V} {g : TG} {vs : List Nat} (hi : ∀ (H : Hp) (Q : VK), Same H0 H → (∀ H' l us, Same H H' → SqL K H' l us → DaAll K H' us ds → Q (.ref l) H') → ti σ H Q) (hz : ds.length ≤ 1000000)
    (he : ∀ (j : Nat) (x : V) (d : PyData), ds[j]? = some d → ∀ (H : Hp) (R : VK) (N : Hp → Prop), Same H0 H → Da K H x d → (f j = true → ∀ H', Same H H' → R (y j) H') → (f j = false → ∀ H', Same H H' → N H') →
      g x (wipe σ vs) H fun σ2 H2 => wipe σ2 vs = wipe σ vs ∧ tt σ2 H2 fun b H3 => if b = true then te σ2 H3 R else N H3) :
    Gives H0 (tLc (iList K ti) g tt te vs) (gLst ((((List.range ds.length).filter f).map y).map gEq)) σ := fun H Q s q => by
  refine hi H _ s fun H1 l us s1 hl ha => ⟨l, rfl, ⟨us, hl⟩, fun D nD => ?_⟩
  have sl := sizeLine_eq
  have hlen := daAll_len ha
  refine lc_list (K := K) (a := l) (xs := us) (fun k H' => Same H1 H' ∧ H' D = some (.lst (((List.range k).filter f).map y))) ⟨same_put nD, upd_same⟩ (fun k H' _ ⟨s', _⟩ => s'.seq hl) ?_ ?_
  · rintro k x H' hk ⟨s', eD⟩
    obtain ⟨d, hd, hx⟩ := daAll_at ha hk
    have hkl : k < ds.length := (List.getElem?_eq_some_iff.mp hd).1
    have hll : (((List.range k).filter f).map y).length < sizeLine := by
      rw [List.length_map]
      have z := List.length_filter_le f (List.range k)
      rw [List.length_range] at z
      omega
    refine cast ?_ (he k x d hd H' (fun y' H4 => ∃ acc, H4 D = some (.lst acc) ∧ acc.length < sizeLine ∧ Same H1 (upd H4 D (.lst (acc ++ [y']))) ∧ upd H4 D (.lst (acc ++ [y'])) D = some (.lst (((List.range (k + 1)).filter f).map y)))
      (fun H4 => Same H1 H4 ∧ H4 D = some (.lst (((List.range (k + 1)).filter f).map y))) (s.trans (s1.trans s')) (hx.mono s') (fun e H4 s4 => ⟨_, s4 _ _ eD, hll, ?_, ?_⟩) (fun e H4 s4 => ⟨s'.trans s4, ?_⟩))
    · rfl
    · intro b o e
      rw [upd_ne (ne_of_none e nD)]
      exact s4 _ _ (s' _ _ e)
    · rw [upd_same, List.range_succ, List.filter_append, List.map_append]
      simp [e]
    · rw [List.range_succ, List.filter_append]
      simp [e]
      exact s4 _ _ eD
  · rintro H' ⟨s', eD⟩
    rw [hlen] at eD
    exact q H' _ (s1.trans s') ⟨D, _, rfl, eD, allEq⟩
theorem range_map {α β : Type} (l : List α) (f : α → β) (d : β) : (List.range l.length).map (fun j => ((l[j]?).map f).getD d) = l.map f := by
  apply List.ext_getElem
  · rw [List.length_map, List.length_range, List.length_map]
  · intro i h1 h2
    rw [List.getElem_map, List.getElem_range, List.getElem_map]
    rw [List.length_map] at h2
    rw [List.getElem?_eq_getElem h2]
    rfl
/-- sum of a list of numbers -/
theorem g_sum {ns : List Int} (h : Gives H0 te (gLst ((ns.map V.int).map gEq)) σ) : Gives H0 (tCB (rSum K) (tCons te tNil)) (gEq (.int ns.sum)) σ := fun H Q s q =>
  h H _ s fun H1 u s1 ⟨p, us, e, hp, ha⟩ => by
    have eu := all_eq ha
    subst eu
    subst e
    exact ⟨p, ns, rfl, .inl (.inl hp), q H1 _ s1 rfl⟩
end
end Ev

/-! ## Texts in order -/
namespace Ev
open PySem PySem.Spec PyProof.Rows
theorem lt_irr : ∀ a : List Nat, ltCps a a = false
  | [] => rfl
  | x :: a => by
    show (decide (x < x) || (x == x && ltCps a a)) = false
    rw [lt_irr a]
    simp
theorem lt_tri : ∀ a b : List Nat, ltCps a b = false → ltCps b a = false → a = b
  | [], [], _, _ => rfl
  | [], _ :: _, h, _ => by cases h
  | _ :: _, [], _, h => by cases h
  | x :: a, y :: b, h1, h2 => by
    have h1 : (decide (x < y) || (x == y && ltCps a b)) = false := h1
    have h2 : (decide (y < x) || (y == x && ltCps b a)) = false := h2
    rw [Bool.or_eq_false_iff, decide_eq_false_iff_not] at h1 h2
    have e : x = y := by omega
    subst e
    rw [beq_self_eq_true, Bool.true_and] at h1 h2
    rw [lt_tri a b h1.2 h2.2]
/-- not greater is transitive -/
theorem le_tr : ∀ a b c : List Nat, ltCps b a = false → ltCps c b = false → ltCps c a = false
  | [], [], c, _, h => h
  | [], _ :: _, [], _, h => by cases h
  | [], _ :: _, _ :: _, _, _ => rfl
  | _ :: _, [], _, h, _ => by cases h
  | _ :: _, _ :: _, [], _, h => by cases h
  | x :: a, y :: b, z :: c, h1, h2 => by
    have h1 : (decide (y < x) || (y == x && ltCps b a)) = false := h1
    have h2 : (decide (z < y) || (z == y && ltCps c b)) = false := h2
    show (decide (z < x) || (z == x && ltCps c a)) = false
    rw [Bool.or_eq_false_iff, decide_eq_false_iff_not] at h1 h2 ⊢
    refine ⟨by omega, ?_⟩
    by_cases e : z = x
    · subst e
      have e2 : y = z := by omega
      subst e2
      rw [beq_self_eq_true, Bool.true_and] at h1 h2 ⊢
      exact le_tr a b c h1.2 h2.2
    · have : (z == x) = false := by simpa using e
      rw [this, Bool.false_and]
def LeS (a b : Str) : Prop := ltCps b.cps.toList a.cps.toList = false
theorem LeS.rfl' (a : Str) : LeS a a := lt_irr _
theorem LeS.tr {a b c : Str} (h : LeS a b) (k : LeS b c) : LeS a c := le_tr _ _ _ h k
theorem LeS.anti {a b : Str} (h : LeS a b) (k : LeS b a) : a = b := by
  have e := lt_tri _ _ k h
  obtain ⟨x⟩ := a
  obtain ⟨y⟩ := b
  have e : x.toList = y.toList := e
  rw [Array.toList_inj.mp e]
theorem rising_pw : ∀ (r : List Str) (p : Str), risingS p r = true → (p :: r).Pairwise LeS
  | [], _, _ => List.pairwise_singleton _ _
  | x :: r, p, h => by
    have h : (!ltCps x.cps.toList p.cps.toList && risingS x r) = true := h
    rw [Bool.and_eq_true] at h
    have ih := rising_pw r x h.2
    have px : LeS p x := by
      show ltCps x.cps.toList p.cps.toList = false
      have := h.1
      revert this
      cases ltCps x.cps.toList p.cps.toList <;> simp
    refine List.pairwise_cons.mpr ⟨fun y hy => ?_, ih⟩
    rcases List.mem_cons.mp hy with rfl | hy
    · exact px
    · exact px.tr ((List.pairwise_cons.mp ih).1 y hy)
theorem sorted_pw : ∀ {l : List Str}, sortedS l = true → l.Pairwise LeS
  | [], _ => .nil
  | x :: r, h => rising_pw r x h
/-- two rows in order with the same members are one -/
theorem pw_same : ∀ {l m : List Str}, l.Pairwise LeS → m.Pairwise LeS → l.Perm m → l = m
  | [], m, _, _, p => p.nil_eq
  | x :: l, [], _, _, p => by
    have := p.length_eq
    cases this
  | x :: l, y :: m, h, k, p => by
    obtain ⟨h1, h2⟩ := List.pairwise_cons.mp h
    obtain ⟨k1, k2⟩ := List.pairwise_cons.mp k
    have e : x = y := by
      have xy : LeS x y := by
        rcases List.mem_cons.mp (p.mem_iff.mpr (List.mem_cons_self ..)) with e | e
        · rw [e]
          exact LeS.rfl' _
        · exact h1 y e
      have yx : LeS y x := by
        rcases List.mem_cons.mp (p.mem_iff.mp (List.mem_cons_self ..)) with e | e
        · rw [e]
          exact LeS.rfl' _
        · exact k1 x e
      exact xy.anti yx
    subst e
    rw [pw_same h2 k2 p.cons_inv]
theorem sorted_same {l m : List Str} (h : sortedS l = true) (k : sortedS m = true) (p : l.Perm m) : l = m := pw_same (sorted_pw h) (sorted_pw k) p
theorem lt_two : ∀ a b : List Nat, ltCps a b = true → ltCps b a = true → False
  | [], [], h, _ => by cases h
  | [], _ :: _, _, h => by cases h
  | _ :: _, [], h, _ => by cases h
  | x :: a, y :: b, h1, h2 => by
    have h1 : (decide (x < y) || (x == y && ltCps a b)) = true := h1
    have h2 : (decide (y < x) || (y == x && ltCps b a)) = true := h2
    rw [Bool.or_eq_true, decide_eq_true_iff, Bool.and_eq_true, beq_iff_eq] at h1 h2
    rcases h1 with h1 | h1
    · rcases h2 with h2 | h2
      · omega
      · omega
    · rcases h2 with h2 | h2
      · omega
      · exact lt_two a b h1.2 h2.2
def insS (x : Str) : List Str → List Str
  | [] => [x]
  | y :: r => if ltCps y.cps.toList x.cps.toList = true then y :: insS x r else x :: y :: r
theorem ins_perm (x : Str) : ∀ l : List Str, (insS x l).Perm (x :: l)
  | [] => .refl _
  | y :: r => by
    unfold insS
    split
    · exact ((ins_perm x r).cons y).trans (List.Perm.swap x y r)
    · exact .refl _
theorem ins_pw (x : Str) : ∀ l : List Str, l.Pairwise LeS → (insS x l).Pairwise LeS
  | [], _ => List.pairwise_singleton _ _
  | y :: r, h => by
    obtain ⟨h1, h2⟩ := List.pairwise_cons.mp h
    unfold insS
    split
    · rename_i c
      refine List.pairwise_cons.mpr ⟨fun z hz => ?_, ins_pw x r h2⟩
      rcases List.mem_cons.mp ((ins_perm x r).mem_iff.mp hz) with rfl | hz
      · show ltCps z.cps.toList y.cps.toList = false
        by_cases e : ltCps z.cps.toList y.cps.toList = true
        · exact (lt_two _ _ c e).elim
        · exact Bool.eq_false_iff.mpr e
      · exact h1 z hz
    · rename_i c
      have xy : LeS x y := Bool.eq_false_iff.mpr c
      refine List.pairwise_cons.mpr ⟨fun z hz => ?_, h⟩
      rcases List.mem_cons.mp hz with rfl | hz
      · exact xy
      · exact xy.tr (h1 z hz)
def srtS : List Str → List Str
  | [] => []
  | x :: l => insS x (srtS l)
theorem srt_perm : ∀ l : List Str, (srtS l).Perm l
  | [] => .refl _
  | x :: l => (ins_perm x _).trans ((srt_perm l).cons x)
theorem srt_pw : ∀ l : List Str, (srtS l).Pairwise LeS
  | [] => .nil
  | x :: l => ins_pw x _ (srt_pw l)
theorem srt_is {l ys : List Str} (p : ys.Perm l) (h : sortedS ys = true) : ys = srtS l := pw_same (sorted_pw h) (srt_pw l) (p.trans (srt_perm l).symm)
/-- the same members, in order -/
theorem srt_eq {l m : List Str} (h : l.Nodup) (k : m.Nodup) (e : ∀ x, x ∈ l ↔ x ∈ m) : srtS l = srtS m :=
  pw_same (srt_pw l) (srt_pw m) ((srt_perm l).trans (((List.perm_ext_iff_of_nodup h k).mpr e).trans (srt_perm m).symm))
end Ev

/-! ## Items, taken apart -/
namespace Ev
open PySem PySem.Spec PyProof.Rows L2
theorem dec_str (x : Str) : decide (V.str x = V.str x) = true := decide_eq_true rfl
theorem dec_ll : decide (V.str "loop" = V.str "line") = false := decide_eq_false fun h => absurd (V.str.inj h) (by decide)
theorem s_ret2 {r1 r2 : List V → Hp → VK → Prop} {te : TE} {D : Ends} {σ : L2.St} {H : Hp} (h : te σ H fun x H1 => r2 [x] H1 fun y H2 => r1 [y] H2 D.rt) : tRet (tCB r1 (tCons (tCB r2 (tCons te tNil)) tNil)) D σ H := h
theorem abs_lt {t : Int} {B : Nat} (h0 : 0 ≤ t) (h1 : t < (2 ^ B : Nat)) : t.natAbs < 2 ^ B := by omega
/-- an item, taken apart -/
theorem da_line {K : PySem.W.Frag} {H : Hp} {v : V} {x : Str} {t : Int} (h : Da K H v (It.d (.line x t))) : ∃ b, v = .ref b ∧ SqT K H b [.str "line", .str x, .int t] := by
  rw [It.d] at h
  cases h with
  | @tup b xs _ hs ha =>
  cases ha with
  | cons h1 ha =>
  cases ha with
  | cons h2 ha =>
  cases ha with
  | cons h3 ha =>
  cases ha
  cases h1
  cases h2
  cases h3
  exact ⟨b, rfl, hs⟩
theorem da_loop {K : PySem.W.Frag} {H : Hp} {v : V} {r : Int} {is : List It} (h : Da K H v (It.d (.loop r is))) : ∃ b w, v = .ref b ∧ SqT K H b [.str "loop", .int r, w] ∧ Da K H w (.tuple (is.map It.d)) := by
  rw [It.d, Its.d_map] at h
  cases h with
  | @tup b xs _ hs ha =>
  cases ha with
  | cons h1 ha =>
  cases ha with
  | cons h2 ha =>
  cases ha with
  | @cons w _ _ _ h3 ha =>
  cases ha
  cases h1
  cases h2
  exact ⟨b, w, rfl, hs, h3⟩
theorem da_prog {K : PySem.W.Frag} {H : Hp} {v : V} {ds : List PyData} (h : Da K H v (.tuple ds)) : ∃ a xs, v = .ref a ∧ SqT K H a xs ∧ DaAll K H xs ds := by
  cases h with
  | tup hs ha => exact ⟨_, _, rfl, hs, ha⟩
theorem sp_take {r : Int} {is : List It} {i : Nat} {it : It} (h : is[i]? = some it) : Its.sp r (is.take (i + 1)) = Its.sp r (is.take i) ++ It.sp r it := by
  rw [List.take_add_one, h, Its.sp_app]
  show _ ++ Its.sp r [it] = _
  rw [Its.sp_one]
theorem nl_take {is : List It} {i : Nat} {it : It} (h : is[i]? = some it) : Its.nl (is.take i) + It.nl it ≤ Its.nl is := by
  have e : is = is.take i ++ is.drop i := (List.take_append_drop i is).symm
  obtain ⟨hi, hx⟩ := List.getElem?_eq_some_iff.mp h
  rw [List.drop_eq_getElem_cons hi, hx] at e
  have z := congrArg Its.nl e
  rw [Its.nl_app, Its.nl] at z
  omega
section
variable {P : Program} {w : World} {K : PySem.W.Frag} {mg : Str → Option Value} {base : Heap}
theorem no_fn {CX : CXT} {k : Nat} {f : Addr} {fd : FuncData} {ps : List Str} : FnOk P w K mg base CX k f fd ps (fun _ _ _ _ => False) :=
  ⟨fun _ _ _ _ h => h.elim, fun _ _ _ _ _ _ _ _ _ _ _ _ _ h => h.elim⟩
/-- what a program must be, to be asked about -/
structure Prg (K : PySem.W.Frag) (B dep : Nat) (H : Hp) (x : V) (is : List It) : Prop where
  da : Da K H x (.tuple (is.map It.d))
  ok : ∀ i ∈ is, Okp B dep i
  few : Its.nl is ≤ 100000
theorem Prg.same {B dep : Nat} {H H' : Hp} {x : V} {is : List It} (h : Prg K B dep H x is) (s : Same H H') : Prg K B dep H' x is := ⟨h.da.mono s, h.ok, h.few⟩
/-- bounds for numbers -/
def Room2 (B dep : Nat) : Prop := 0 < B ∧ 64 + (dep + 1) * B ≤ 900000
def lenI (is : List It) : Int := ((Its.sp 1 is).map (·.2)).sum
end
def linesI (is : List It) : List Str := srtS (uniq [] ((Its.sp 1 is).map (·.1)))
end Ev

/-! ## How long a text of data is; whiles; items as tuples -/
namespace Ev
open PySem PySem.Spec PyProof.Rows L2
/-- a while by an invariant with a number that falls -/
theorem while_w {c : TT} {tb : TS} {D : Ends} {σ : L2.St} {H : Hp} (W : Nat → L2.St → Hp → Prop) (h0 : ∃ m, W m σ H)
    (hs : ∀ m σ H, W m σ H → c σ H fun b H1 => if b = true then tb { D with nx := fun σ' H' => ∃ m', m' < m ∧ W m' σ' H', ct := fun σ' H' => ∃ m', m' < m ∧ W m' σ' H', bk := D.nx } σ H1 else D.nx σ H1)
    (mono : ∀ σ H Q Q', (∀ b H1, Q b H1 → Q' b H1) → c σ H Q → c σ H Q') : tWhile c tb D σ H := by
  refine ⟨W, h0, fun m σ' H' w => mono σ' H' _ _ (fun b H1 h => ?_) (hs m σ' H' w)⟩
  by_cases e : b = true
  · rw [if_pos e] at h ⊢
    exact ⟨_, fun σ2 H2 n => n, h⟩
  · rw [if_neg e] at h ⊢
    exact h
mutual
def It.sz : It → Nat
  | .line _ _ => 1
  | .loop _ is => 1 + Its.sz is
def Its.sz : List It → Nat
  | [] => 0
  | i :: is => It.sz i + Its.sz is
end
theorem sz_mem : ∀ {is : List It} {i : It}, i ∈ is → It.sz i ≤ Its.sz is
  | j :: is, i, h => by
    rw [Its.sz]
    rcases List.mem_cons.mp h with rfl | h
    · exact Nat.le_add_right _ _
    · exact Nat.le_trans (sz_mem h) (Nat.le_add_left _ _)
theorem drop_one {is : List It} {i : Nat} {it : It} (h : is[i]? = some it) : (is.drop i).take 1 = [it] := by
  obtain ⟨hi, hx⟩ := List.getElem?_eq_some_iff.mp h
  rw [List.drop_eq_getElem_cons hi, hx]
  rfl
theorem atI_of {xs : List V} {i : Nat} {v : V} (h : xs[i]? = some v) : atI xs (i : Nat) = some v := atI_nat h
section
variable {K : PySem.W.Frag}
/-- a part of a program -/
theorem Prg.part {B dep : Nat} {H : Hp} {u x : V} {is js : List It} (hp : Prg K B dep H x is) (hu : Da K H u (.tuple (js.map It.d))) (hm : ∀ i ∈ js, i ∈ is) (hn : Its.nl js ≤ Its.nl is) : Prg K B dep H u js :=
  ⟨hu, fun i hi => hp.ok i (hm i hi), Nat.le_trans hn hp.few⟩
theorem nl_take_le (is : List It) (n : Nat) : Its.nl (is.take n) ≤ Its.nl is := by
  have z := congrArg Its.nl (List.take_append_drop n is)
  rw [Its.nl_app] at z
  omega
theorem nl_drop_le (is : List It) (n : Nat) : Its.nl (is.drop n) ≤ Its.nl is := by
  have z := congrArg Its.nl (List.take_append_drop n is)
  rw [Its.nl_app] at z
  omega
theorem map_take {α β : Type} (f : α → β) (l : List α) (n : Nat) : (l.map f).take n = (l.take n).map f := (List.map_take ..).symm
end
structure Sz (e w : Nat) (d : PyData) : Prop where
  sh : d.showable = true
  ls : d.leavesShort 1000 = true
  dp : d.depth ≤ e
  wt : d.weight ≤ w
theorem Sz.up {e e' w w' : Nat} {d : PyData} (h : Sz e w d) (he : e ≤ e') (hw : w ≤ w') : Sz e' w' d := ⟨h.sh, h.ls, Nat.le_trans h.dp he, Nat.le_trans h.wt hw⟩
theorem Sz.fits {e w : Nat} {d : PyData} (h : Sz e w d) (he : e ≤ 64) (hw : w ≤ 16000) : d.showable = true ∧ d.depth ≤ 64 ∧ d.shown.length ≤ sizeLine := by
  refine ⟨h.sh, Nat.le_trans h.dp he, ?_⟩
  have z := PyData.shown_le 1000 (by decide) d h.ls
  have y := sizeLine_eq
  have h1 : (1000 + 2) * d.weight ≤ 1002 * 16000 := Nat.mul_le_mul_left _ (Nat.le_trans h.wt hw)
  omega
theorem sz_int {i : Int} {k : Nat} (h : i.natAbs < 2 ^ k) (h0 : 0 < k) (hk : k ≤ 900) : Sz 0 k (.int i) := by
  have hl := PySem.Flt.log2_lt_of h0 h
  refine ⟨?_, ?_, ?_, ?_⟩
  · rw [PyData.showable]
    exact decide_eq_true (by omega)
  · rw [PyData.leavesShort]
    refine decide_eq_true ?_
    have z := int_text_length_le h0 hl
    have e : (PyData.shown (.int i)).length = (toString i).length := by
      rw [PyData.shown, PySem.ofString_length]
    omega
  · rw [PyData.depth]
    exact Nat.le_refl _
  · rw [PyData.weight]
    split <;> omega
theorem sz_str {x : Str} {n : Nat} (h : x.cps.size ≤ n) (hc : (x.cps.toList.all fun c => decide (c < 16 ^ 8)) = true) : Sz 0 n (.str x) := by
  refine ⟨by rw [PyData.showable], ?_, ?_, ?_⟩
  · rw [PyData.leavesShort]
    exact hc
  · rw [PyData.depth]
    exact Nat.le_refl _
  · rw [PyData.weight]
    exact h
theorem sz_all {e w : Nat} : ∀ {ds : List PyData}, (∀ d ∈ ds, Sz e w d) → PyData.showableAll ds = true ∧ PyData.leavesShortAll 1000 ds = true ∧ PyData.depthAll ds ≤ e ∧ PyData.weightAll ds ≤ ds.length * (w + 1)
  | [], _ => by
    refine ⟨by rw [PyData.showableAll], by rw [PyData.leavesShortAll], ?_, ?_⟩
    · rw [PyData.depthAll]
      exact Nat.zero_le _
    · rw [PyData.weightAll]
      exact Nat.zero_le _
  | d :: ds, h => by
    obtain ⟨h1, h2, h3, h4⟩ := h d (List.mem_cons_self ..)
    obtain ⟨k1, k2, k3, k4⟩ := sz_all fun x hx => h x (List.mem_cons_of_mem _ hx)
    refine ⟨by rw [PyData.showableAll, h1, k1]; rfl, by rw [PyData.leavesShortAll, h2, k2]; rfl, ?_, ?_⟩
    · rw [PyData.depthAll]
      exact Nat.max_le.mpr ⟨h3, k3⟩
    · rw [PyData.weightAll, List.length_cons, Nat.succ_mul]
      omega
theorem sz_tup {e w : Nat} {ds : List PyData} (h : ∀ d ∈ ds, Sz e w d) : Sz (e + 1) (ds.length * (w + 1)) (.tuple ds) := by
  obtain ⟨k1, k2, k3, k4⟩ := sz_all h
  refine ⟨by rw [PyData.showable]; exact k1, by rw [PyData.leavesShort]; exact k2, ?_, by rw [PyData.weight]; exact k4⟩
  rw [PyData.depth]
  omega
theorem sz_lst {e w : Nat} {ds : List PyData} (h : ∀ d ∈ ds, Sz e w d) : Sz (e + 1) (ds.length * (w + 1)) (.list ds) := by
  obtain ⟨k1, k2, k3, k4⟩ := sz_all h
  refine ⟨by rw [PyData.showable]; exact k1, by rw [PyData.leavesShort]; exact k2, ?_, by rw [PyData.weight]; exact k4⟩
  rw [PyData.depth]
  omega
def nmB (x : Str) : Bool := (decide (x.cps.size ≤ 8) && x.cps.toList.all fun c => decide (c < 16 ^ 8)) && PyData.strOk x
theorem nm_sz {x : Str} (h : nmB x = true) : Sz 0 8 (.str x) := by
  unfold nmB at h
  rw [Bool.and_eq_true, Bool.and_eq_true] at h
  exact sz_str (of_decide_eq_true h.1.1) h.1.2
theorem nm_ok {x : Str} (h : nmB x = true) : PyData.strOk x = true := by
  unfold nmB at h
  rw [Bool.and_eq_true] at h
  exact h.2
mutual
/-- names and numbers are short -/
def It.nm : It → Prop
  | .line x t => nmB x = true ∧ t.natAbs < 2 ^ 128
  | .loop r is => r.natAbs < 2 ^ 128 ∧ Its.nm is
def Its.nm : List It → Prop
  | [] => True
  | i :: is => It.nm i ∧ Its.nm is
end
mutual
def It.ni : It → Nat
  | .line _ _ => 1
  | .loop _ is => 1 + Its.ni is
def Its.ni : List It → Nat
  | [] => 0
  | i :: is => It.ni i + Its.ni is
end
theorem lit_sz : Sz 0 8 (.str "line") ∧ Sz 0 8 (.str "loop") := ⟨nm_sz (by decide +kernel), nm_sz (by decide +kernel)⟩
mutual
theorem It.szd : ∀ (n : Nat) (B : Nat) (i : It), Okp B n i → It.nm i → (It.d i).showable = true ∧ (It.d i).leavesShort 1000 = true ∧ (It.d i).depth ≤ 2 * n + 1 ∧ (It.d i).weight + 1 ≤ 165 * It.ni i
  | n, B, .line x t, _, h => by
    rw [It.nm] at h
    rw [It.d, It.ni]
    have z := sz_tup (e := 0) (w := 128) (ds := [.str "line", .str x, .int t]) fun d hd => by
      rcases List.mem_cons.mp hd with rfl | hd
      · exact lit_sz.1.up (Nat.le_refl _) (by decide)
      rcases List.mem_cons.mp hd with rfl | hd
      · exact (nm_sz h.1).up (Nat.le_refl _) (by decide)
      rcases List.mem_cons.mp hd with rfl | hd
      · exact sz_int h.2 (by decide) (by decide)
      cases hd
    refine ⟨z.sh, z.ls, Nat.le_trans z.dp (by omega), ?_⟩
    rw [PyData.weight, PyData.weightAll, PyData.weightAll, PyData.weightAll, PyData.weightAll]
    have w1 := lit_sz.1.wt
    have w2 := (nm_sz h.1).wt
    have w3 := (sz_int (i := t) h.2 (by decide) (by decide)).wt
    omega
  | 0, B, .loop r is, h, _ => h.elim
  | n + 1, B, .loop r is, ho, h => by
    rw [It.nm] at h
    obtain ⟨_, _, hj⟩ : 0 ≤ r ∧ r < (2 ^ B : Nat) ∧ ∀ i ∈ is, Okp B n i := ho
    obtain ⟨k1, k2, k3, k4⟩ := Its.szd n B is hj h.2
    have z1 := lit_sz.2
    have z2 := sz_int (i := r) h.1 (by decide) (by decide)
    rw [It.d, Its.d_map, It.ni]
    refine ⟨?_, ?_, ?_, ?_⟩
    · rw [PyData.showable, PyData.showableAll, PyData.showableAll, PyData.showableAll, PyData.showableAll, z1.sh, z2.sh]
      rw [PyData.showable, k1]
      rfl
    · rw [PyData.leavesShort, PyData.leavesShortAll, PyData.leavesShortAll, PyData.leavesShortAll, PyData.leavesShortAll, z1.ls, z2.ls]
      rw [PyData.leavesShort, k2]
      rfl
    · rw [PyData.depth, PyData.depthAll, PyData.depthAll, PyData.depthAll, PyData.depthAll]
      have d1 := z1.dp
      have d2 := z2.dp
      have d3 : (PyData.tuple (is.map It.d)).depth ≤ 2 * n + 2 := by
        rw [PyData.depth]
        omega
      have : max (PyData.str "loop").depth (max (PyData.int r).depth (max (PyData.tuple (is.map It.d)).depth 0)) ≤ 2 * n + 2 := by
        refine Nat.max_le.mpr ⟨by omega, Nat.max_le.mpr ⟨by omega, Nat.max_le.mpr ⟨d3, by omega⟩⟩⟩
      omega
    · rw [PyData.weight, PyData.weightAll, PyData.weightAll, PyData.weightAll, PyData.weightAll]
      rw [show (PyData.tuple (is.map It.d)).weight = PyData.weightAll (is.map It.d) by rw [PyData.weight]]
      have w1 := z1.wt
      have w2 := z2.wt
      have h5 : PyData.weightAll (is.map It.d) ≤ 165 * Its.ni is := k4
      omega
theorem Its.szd : ∀ (n : Nat) (B : Nat) (is : List It), (∀ i ∈ is, Okp B n i) → Its.nm is → PyData.showableAll (is.map It.d) = true ∧ PyData.leavesShortAll 1000 (is.map It.d) = true ∧ PyData.depthAll (is.map It.d) ≤ 2 * n + 1 ∧ PyData.weightAll (is.map It.d) ≤ 165 * Its.ni is
  | n, B, [], _, _ => by
    refine ⟨by rw [List.map_nil, PyData.showableAll], by rw [List.map_nil, PyData.leavesShortAll], ?_, ?_⟩
    · rw [List.map_nil, PyData.depthAll]
      exact Nat.zero_le _
    · rw [List.map_nil, PyData.weightAll]
      exact Nat.zero_le _
  | n, B, i :: is, ho, h => by
    rw [Its.nm] at h
    obtain ⟨h1, h2, h3, h4⟩ := It.szd n B i (ho i (List.mem_cons_self ..)) h.1
    obtain ⟨k1, k2, k3, k4⟩ := Its.szd n B is (fun j hj => ho j (List.mem_cons_of_mem _ hj)) h.2
    refine ⟨by rw [List.map_cons, PyData.showableAll, h1, k1]; rfl, by rw [List.map_cons, PyData.leavesShortAll, h2, k2]; rfl, ?_, ?_⟩
    · rw [List.map_cons, PyData.depthAll]
      exact Nat.max_le.mpr ⟨h3, k3⟩
    · rw [List.map_cons, PyData.weightAll, Its.ni]
      omega
end
theorem nm_of : ∀ {is : List It}, (∀ i ∈ is, It.nm i) → Its.nm is
  | [], _ => by
    rw [Its.nm]
    trivial
  | i :: is, h => by
    rw [Its.nm]
    exact ⟨h i (List.mem_cons_self ..), nm_of fun j hj => h j (List.mem_cons_of_mem _ hj)⟩
theorem ni_mul {W : Nat} : ∀ {is : List It}, (∀ i ∈ is, It.ni i ≤ W) → Its.ni is ≤ is.length * W
  | [], _ => by
    rw [Its.ni]
    exact Nat.zero_le _
  | i :: is, h => by
    rw [Its.ni, List.length_cons, Nat.succ_mul]
    have a := h i (List.mem_cons_self ..)
    have b := ni_mul fun j hj => h j (List.mem_cons_of_mem _ hj)
    omega
mutual
theorem It.nl_ni : ∀ i : It, It.nl i ≤ It.ni i
  | .line _ _ => by
    rw [It.nl, It.ni]
    exact Nat.le_refl _
  | .loop _ is => by
    rw [It.nl, It.ni]
    exact Nat.le_trans (Its.nl_ni is) (Nat.le_add_left _ _)
theorem Its.nl_ni : ∀ is : List It, Its.nl is ≤ Its.ni is
  | [] => by
    rw [Its.nl]
    exact Nat.zero_le _
  | i :: is => by
    rw [Its.nl, Its.ni]
    exact Nat.add_le_add (It.nl_ni i) (Its.nl_ni is)
end
mutual
theorem It.tupd : ∀ i : It, tupD (It.d i) = true
  | .line x t => by
    rw [It.d, tupD, tupDs, tupDs, tupDs, tupDs, tupD, tupD, tupD]
    rfl
    all_goals (intros; contradiction)
  | .loop r is => by
    rw [It.d, tupD, tupDs, tupDs, tupDs, tupDs, tupD, tupD, tupD, Its.tupd is]
    rfl
    all_goals (intros; contradiction)
theorem Its.tupd : ∀ is : List It, tupDs (Its.d is) = true
  | [] => by rw [Its.d, tupDs]
  | i :: is => by rw [Its.d, tupDs, It.tupd i, Its.tupd is]; rfl
end
theorem prog_tup (is : List It) : tupD (.tuple (is.map It.d)) = true := by
  rw [tupD, ← Its.d_map]
  exact Its.tupd is
theorem Bu.kt {p : Addr} {H H' : Hp} {xs : List V} (h : Bu p H H') (hp : H p = some (.lst xs)) : Kt H H' := fun b o e n => by
  refine h b o (fun z => ?_) e
  rw [z, hp] at e
  cases e
  exact n xs rfl
theorem Prg.kt {K : PySem.W.Frag} {B dep : Nat} {H H' : Hp} {x : V} {is : List It} (h : Prg K B dep H x is) (k : Kt H H') : Prg K B dep H' x is := ⟨h.da.kt k (prog_tup is), h.ok, h.few⟩
/-! ### the ticks, written out -/
mutual
def It.w : It → List Str
  | .line x t => List.replicate t.toNat x
  | .loop r is => (List.replicate r.toNat (Its.w is)).flatten
def Its.w : List It → List Str
  | [] => []
  | i :: is => It.w i ++ Its.w is
end
theorem w_app : ∀ is js : List It, Its.w (is ++ js) = Its.w is ++ Its.w js
  | [], js => by
    rw [List.nil_append, Its.w, List.nil_append]
  | i :: is, js => by
    rw [List.cons_append, Its.w, Its.w, w_app is js, List.append_assoc]
theorem w_one (i : It) : Its.w [i] = It.w i := by
  rw [Its.w, Its.w, List.append_nil]
mutual
/-- numbers from 0 -/
def It.nn : It → Prop
  | .line _ t => 0 ≤ t
  | .loop r is => 0 ≤ r ∧ Its.nn is
def Its.nn : List It → Prop
  | [] => True
  | i :: is => It.nn i ∧ Its.nn is
end
mutual
/-- numbers from 1, no empty loop -/
def It.ps : It → Prop
  | .line _ t => 1 ≤ t
  | .loop r is => 1 ≤ r ∧ is ≠ [] ∧ Its.ps is
def Its.ps : List It → Prop
  | [] => True
  | i :: is => It.ps i ∧ Its.ps is
end
mutual
theorem It.ps_nn : ∀ i : It, It.ps i → It.nn i
  | .line x t, h => by
    rw [It.ps] at h
    rw [It.nn]
    omega
  | .loop r is, h => by
    rw [It.ps] at h
    rw [It.nn]
    exact ⟨by omega, Its.ps_nn is h.2.2⟩
theorem Its.ps_nn : ∀ is : List It, Its.ps is → Its.nn is
  | [], _ => by
    rw [Its.nn]
    trivial
  | i :: is, h => by
    rw [Its.ps] at h
    rw [Its.nn]
    exact ⟨It.ps_nn i h.1, Its.ps_nn is h.2⟩
end
theorem ps_mem : ∀ {is : List It} {i : It}, Its.ps is → i ∈ is → It.ps i
  | j :: is, i, h, m => by
    rw [Its.ps] at h
    rcases List.mem_cons.mp m with rfl | m
    · exact h.1
    · exact ps_mem h.2 m
theorem ps_of : ∀ {is : List It}, (∀ i ∈ is, It.ps i) → Its.ps is
  | [], _ => by
    rw [Its.ps]
    trivial
  | i :: is, h => by
    rw [Its.ps]
    exact ⟨h i (List.mem_cons_self ..), ps_of fun j hj => h j (List.mem_cons_of_mem _ hj)⟩
theorem ps_take {is : List It} (h : Its.ps is) (n : Nat) : Its.ps (is.take n) := ps_of fun i hi => ps_mem h (List.mem_of_mem_take hi)
theorem ps_one {i : It} (h : It.ps i) : Its.ps [i] := ps_of fun j hj => by
  rw [List.mem_singleton.mp hj]
  exact h
theorem flat_count (x : Str) (l : List Str) : ∀ n : Nat, ((List.replicate n l).flatten.count x) = n * l.count x
  | 0 => by
    rw [List.replicate_zero, Nat.zero_mul]
    rfl
  | n + 1 => by
    rw [List.replicate_succ, List.flatten_cons, List.count_append, flat_count x l n, Nat.succ_mul]
    omega
theorem flat_len (l : List Str) : ∀ n : Nat, ((List.replicate n l).flatten.length) = n * l.length
  | 0 => by
    rw [List.replicate_zero, Nat.zero_mul]
    rfl
  | n + 1 => by
    rw [List.replicate_succ, List.flatten_cons, List.length_append, flat_len l n, Nat.succ_mul]
    omega
theorem mem_flat {x : Str} {l : List Str} {n : Nat} (h : 1 ≤ n) : x ∈ (List.replicate n l).flatten ↔ x ∈ l := by
  rw [List.mem_flatten]
  constructor
  · rintro ⟨m, h1, h2⟩
    rw [List.eq_of_mem_replicate h1] at h2
    exact h2
  · intro hx
    exact ⟨l, List.mem_replicate.mpr ⟨by omega, rfl⟩, hx⟩
mutual
theorem It.w_pos : ∀ i : It, It.ps i → 1 ≤ (It.w i).length
  | .line x t, h => by
    rw [It.ps] at h
    rw [It.w, List.length_replicate]
    omega
  | .loop r is, h => by
    rw [It.ps] at h
    rw [It.w, flat_len]
    have z := Its.w_pos is h.2.1 h.2.2
    have z2 : 1 * 1 ≤ r.toNat * (Its.w is).length := Nat.mul_le_mul (by omega) z
    omega
theorem Its.w_pos : ∀ is : List It, is ≠ [] → Its.ps is → 1 ≤ (Its.w is).length
  | [], n, _ => absurd rfl n
  | i :: is, _, h => by
    rw [Its.ps] at h
    rw [Its.w, List.length_append]
    have z := It.w_pos i h.1
    omega
end
/-- the ticks up to one within a loop -/
theorem flat_take {l : List Str} (hl : 1 ≤ l.length) : ∀ (n s : Nat), s < n * l.length → (List.replicate n l).flatten.take s = (List.replicate (s / l.length) l).flatten ++ l.take (s % l.length)
  | 0, s, h => by
    rw [Nat.zero_mul] at h
    omega
  | n + 1, s, h => by
    rw [List.replicate_succ, List.flatten_cons, List.take_append]
    by_cases c : s < l.length
    · rw [Nat.div_eq_of_lt c, Nat.mod_eq_of_lt c, Nat.sub_eq_zero_of_le (Nat.le_of_lt c)]
      simp
    · have e : s = (s - l.length) + l.length := by omega
      rw [Nat.succ_mul] at h
      have ih := flat_take hl n (s - l.length) (by omega)
      rw [List.take_of_length_le (by omega), ih]
      have d1 : s / l.length = (s - l.length) / l.length + 1 := by
        conv => lhs; rw [e]
        rw [Nat.add_div_right _ (by omega)]
      have d2 : s % l.length = (s - l.length) % l.length := by
        conv => lhs; rw [e]
        rw [Nat.add_mod_right]
      rw [d1, d2, List.replicate_succ, List.flatten_cons, List.append_assoc]
theorem flat_get {l : List Str} (hl : 1 ≤ l.length) : ∀ (n s : Nat), s < n * l.length → (List.replicate n l).flatten[s]? = l[s % l.length]?
  | 0, s, h => by
    rw [Nat.zero_mul] at h
    omega
  | n + 1, s, h => by
    rw [List.replicate_succ, List.flatten_cons]
    by_cases c : s < l.length
    · rw [List.getElem?_append_left c, Nat.mod_eq_of_lt c]
    · rw [Nat.succ_mul] at h
      rw [List.getElem?_append_right (by omega), flat_get hl n (s - l.length) (by omega)]
      congr 1
      exact (Nat.mod_eq_sub_mod (by omega)).symm
end Ev

/-! ## The numbers of a pot -/
namespace Ev
open PySem PySem.Spec PyProof.Rows L2
/-- the numbers of a pot out of which at most n draws came by reckoning -/
def PotL (n : Nat) (xs : List V) : Prop := ∃ x y c : Int, xs = [.int x, .int y, .int c] ∧ 0 ≤ x ∧ 0 ≤ y ∧ y < 2305843009213693921 ∧ 0 ≤ c ∧ c ≤ n
theorem own_nn (z m : Int) (b : Bool) (h : 0 < m) : 0 ≤ z % m * (if b = true then 1 else 0) := by
  refine Int.mul_nonneg (Int.emod_nonneg _ (by omega)) ?_
  cases b <;> decide
theorem flag_in (b : Bool) : -(2 ^ 64) < (if b = true then 1 else 0 : Int) ∧ (if b = true then 1 else 0 : Int) < 2 ^ 64 := by
  cases b <;> decide
theorem seq_nn {d : Int} {n : Nat} (h0 : 0 ≤ d) (h1 : d < n) : seqIndex? d n = some d.toNat := by
  unfold seqIndex?
  simp only []
  first
    | (rw [if_neg (by omega), if_pos (by omega)])
    | (split <;> simp_all <;> omega)
    | omega
/-- what len of a list or a tuple asks -/
def rLenK (K : PySem.W.Frag) : List V → Hp → VK → Prop := fun xs H Q => ∃ p ys, xs = [V.ref p] ∧ (SqL K H p ys ∨ SqT K H p ys) ∧ Q (.int (ys.length : Nat)) H
/-- what is tracked in H' and was not in H -/
def newer (H H' : Hp) : Hp := fun b => if H b = none then H' b else none
theorem newer_at {H H' : Hp} {b : Addr} (h : H b = none) : newer H H' b = H' b := if_pos h
theorem newer_le {A B A' B' : Hp} (h1 : ∀ b, A b = none → A' b = none) (h2 : ∀ b o, A b = none → B b = some o → B' b = some o) : Same (newer A B) (newer A' B') := fun b o e => by
  by_cases hb : A b = none
  · rw [newer_at hb] at e
    rw [newer_at (h1 b hb)]
    exact h2 b o hb e
  · have z : newer A B b = none := if_neg hb
    rw [z] at e
    cases e
theorem newer_sub {H H' : Hp} (h : ∀ b o, H b = none → H' b = some o → H' b = some o) : Same (newer H H') H' := fun b o e => by
  by_cases hb : H b = none
  · rw [newer_at hb] at e
    exact e
  · have z : newer H H' b = none := if_neg hb
    rw [z] at e
    cases e
theorem daAll_append {K : PySem.W.Frag} {H : Hp} {v : V} {d : PyData} (h : Da K H v d) : ∀ {vs : List V} {ds : List PyData}, DaAll K H vs ds → DaAll K H (vs ++ [v]) (ds ++ [d])
  | _, _, .nil => .cons h .nil
  | _, _, .cons a t => .cons a (daAll_append h t)
/-- tracked things stay tracked -/
theorem Bu.dom {p : Addr} {H H' : Hp} {o : HO} (h : Bu p H H') (hp : H' p = some o) (b : Addr) (e : H' b = none) : H b = none := by
  cases q : H b with
  | none => rfl
  | some u =>
    by_cases z : b = p
    · rw [z, hp] at e
      cases e
    · rw [h b u z q] at e
      cases e
theorem dom1 {p l : Addr} {H H' : Hp} {o1 o2 o3 : HO} (h : Bu p H H') (hp : H' p = some o1) (hl : H' l = some o2) {t : Addr} (e : H' t = none) : upd H l o3 t = none := by
  have ntl : t ≠ l := fun z => by
    rw [z, hl] at e
    cases e
  rw [upd_ne ntl]
  exact h.dom hp t e
theorem log_le {m : Int} (h1 : 1 ≤ m) (h2 : m ≤ 10 ^ 18) : m.natAbs.log2 < 9000 :=
  Nat.lt_of_lt_of_le (PySem.Flt.log2_lt_of (show 0 < 64 by decide) (show m.natAbs < 2 ^ 64 by omega)) (by decide)
theorem PotL.up {n m : Nat} {xs : List V} (h : PotL n xs) (k : n ≤ m) : PotL m xs := by
  obtain ⟨x, y, c, h1, h2, h3, h4, h5, h6⟩ := h
  exact ⟨x, y, c, h1, h2, h3, h4, h5, by omega⟩
theorem bu_seq {K : PySem.W.Frag} {p q : Addr} {H H' : Hp} {zs : List V} (n : q ≠ p) (h : Bu p H H') (s : SqL K H q zs) : SqL K H' q zs := by
  rcases s with (e | ⟨o, e⟩) | e
  · exact .inl (.inl (h _ _ n e))
  · exact .inl (.inr ⟨o, h _ _ n e⟩)
  · exact .inr e
end Ev

/-! ## isinstance of any datum; slices of tuples -/
namespace Ev
open PySem PySem.Spec PyProof.Rows L2
def tyD : PyData → String
  | .none => "NoneType"
  | .bool _ => "bool"
  | .int _ => "int"
  | .str _ => "str"
  | .list _ => "list"
  | .tuple _ => "tuple"
  | .dict _ => "dict"
theorem Da.ty {K : PySem.W.Frag} {H : Hp} {x : V} {d : PyData} (h : Da K H x d) : TyX K H x (.type (tyD d)) := by
  cases h with
  | non => exact .base .non
  | bl b => exact .base (.bl b)
  | int i => exact .base (.int i)
  | str x => exact .base (.str x)
  | lst hs ha =>
    rcases hs with (e | ⟨o, e⟩) | ⟨o, its, n, e, hc, _⟩
    · exact .base (.lst e)
    · exact .base (.frz e)
    · exact .kList e hc
  | tup hs ha =>
    rcases hs with (e | ⟨o, e⟩) | ⟨o, its, n, e, hc, _⟩
    · exact .base (.tup e)
    · exact .fTuple e
    · exact .kTuple e hc
  | dic e hk => exact .base (.dK e)
def isD (T : String) (d : PyData) : Bool := (kitB (tyD d) T).getD false
def OkT (T : String) : Prop := T = "int" ∨ T = "bool" ∨ T = "tuple" ∨ T = "str"
theorem kit_D {T : String} (hT : OkT T) (d : PyData) : kitB (tyD d) T = some (isD T d) := by
  rcases hT with rfl | rfl | rfl | rfl <;> cases d <;> kernel_rfl
theorem isD_int (d : PyData) : isD "int" d = (match d with | .int _ => true | .bool _ => true | _ => false) := by
  cases d <;> kernel_rfl
theorem isD_bool (d : PyData) : isD "bool" d = (match d with | .bool _ => true | _ => false) := by
  cases d <;> kernel_rfl
theorem isD_tuple (d : PyData) : isD "tuple" d = (match d with | .tuple _ => true | _ => false) := by
  cases d <;> kernel_rfl
theorem isD_str (d : PyData) : isD "str" d = (match d with | .str _ => true | _ => false) := by
  cases d <;> kernel_rfl
def tIsT (K : PySem.W.Frag) (T : String) (i : Nat) : TE := fun σ H Q => ∃ (x : V) (d : PyData), σ[i]? = some (some x) ∧ Da K H x d ∧ Q (.bl (isD T d)) H
section
variable {X : Cx} {x y : Str} {i : Nat} {p1 p2 q1 q2 : Pos}
theorem pe_isT {T : String} (hT : OkT T) (m : X.mg "isinstance" = none) (hv : ∀ pos, PE X (.Name y pos) (tVar i)) (hx : ∀ pos, PE X (.Name x pos) (tC (.ty T))) (hg : Gl X "isinstance" := by rfl) :
    PE X (.Call (.Name "isinstance" p1) [.Name y q1, .Name x q2] [] p2) (tIsT X.K T i) := by
  refine PE.imp (pe_callB call_isi hg m (by decide +kernel) (pa_cons (hv q1) (pa_cons (hx q2) pa_nil))) ?_
  rintro σ H Q ⟨x, d, h1, h2, h3⟩
  exact ⟨x, h1, x, .ty T, .type (tyD d), .type T, isD T d, rfl, .ty T, h2.ty, kit_ty (kit_D hT d), h3⟩
end
section
variable {K : PySem.W.Frag} {H0 : Hp} {σ : L2.St} {i : Nat} {x : V} {d : PyData} {T : String} {b c : Bool} {tt uu : TT} {t rest : TS} {D : Ends}
theorem t_isT (h : σ[i]? = some (some x)) (hd : Da K H0 x d) : GivesT H0 (tB (tIsT K T i)) (isD T d) σ := fun H Q s q => ⟨x, d, h, hd.mono s, _, rfl, q H Same.rfl'⟩
end
def intD (lo hi : Int) : PyData → Bool
  | .int i => decide (lo ≤ i) && decide (i ≤ hi)
  | _ => false
theorem ty_of {X : Cx} {x : Str} {T : String} {pos : Pos} (hg : Gl X x) (hm : X.mg x = none) (hb : bootBuiltins x = some (.type T)) (hn : x ≠ "__name__" := by decide) (hd : (x == ("__debug__" : Str)) = false := by decide) :
    PE X (.Name x pos) (tC (.ty T)) := pe_bltn (v := .ty T) hg hm hb (show RelV (.ty T) (.type T) from rfl) hn hd
def cutD (ds : List PyData) (lo hi : Option Int) : List PyData := (ds.drop (HT.sIx ds.length 0 lo)).take (HT.sIx ds.length ds.length hi - HT.sIx ds.length 0 lo)
theorem cut_to (ds : List PyData) (i : Nat) : cutD ds none (some (i : Nat)) = ds.take i := by
  unfold cutD
  rw [HT.sIx_none, HT.sIx_nat, List.drop_zero, Nat.sub_zero]
  by_cases h : i ≤ ds.length
  · rw [Nat.min_eq_left h]
  · rw [Nat.min_eq_right (by omega), List.take_of_length_le (by omega), List.take_of_length_le (by omega)]
theorem cut_mid (ds : List PyData) (i j : Nat) : cutD ds (some (i : Nat)) (some (j : Nat)) = (ds.drop i).take (j - i) := by
  unfold cutD
  rw [HT.sIx_nat, HT.sIx_nat]
  by_cases h : i ≤ ds.length
  · rw [Nat.min_eq_left h]
    by_cases k : j ≤ ds.length
    · rw [Nat.min_eq_left k]
    · rw [Nat.min_eq_right (by omega), List.take_of_length_le (by rw [List.length_drop]; omega), List.take_of_length_le (by rw [List.length_drop]; omega)]
  · have e : min i ds.length = ds.length := Nat.min_eq_right (by omega)
    rw [e, List.drop_of_length_le (Nat.le_refl _), List.drop_of_length_le (show ds.length ≤ i by omega), List.take_nil, List.take_nil]
theorem daAll_take {K : PySem.W.Frag} {H : Hp} : ∀ {vs : List V} {ds : List PyData} (n : Nat), DaAll K H vs ds → DaAll K H (vs.take n) (ds.take n)
  | _, _, 0, _ => .nil
  | _, _, _ + 1, .nil => .nil
  | _, _, n + 1, .cons a t => .cons a (daAll_take n t)
theorem daAll_drop {K : PySem.W.Frag} {H : Hp} : ∀ {vs : List V} {ds : List PyData} (n : Nat), DaAll K H vs ds → DaAll K H (vs.drop n) (ds.drop n)
  | _, _, 0, h => h
  | _, _, _ + 1, .nil => .nil
  | _, _, n + 1, .cons _ t => daAll_drop n t
/-- a slice of a tuple -/
theorem sl_val {K : PySem.W.Frag} {H : Hp} {x : V} {ds : List PyData} {lo hi : Option Int} {Q : VK} (hd : Da K H x (.tuple ds)) (q : ∀ H' u, Same H H' → Da K H' u (.tuple (cutD ds lo hi)) → Q u H') : rSlA K x lo hi H Q := by
  cases hd with
  | @tup a xs _ hs ha =>
  have hl := daAll_len ha
  refine ⟨a, xs, rfl, hs, fun e => ?_, fun e r nr => ?_⟩
  · refine q _ _ Same.rfl' ?_
    have z : cutD ds lo hi = ds := by
      unfold cutD
      rw [← hl, e.1, e.2, hl, List.drop_zero, Nat.sub_zero, List.take_length]
    rw [z]
    exact .tup hs ha
  · refine q _ _ (same_put nr) (.tup (xs := cutV xs lo hi) (.inl (.inl upd_same)) ?_)
    have z := (daAll_take (HT.sIx xs.length xs.length hi - HT.sIx xs.length 0 lo) (daAll_drop (HT.sIx xs.length 0 lo) ha)).mono (same_put (o := .tup (cutV xs lo hi)) nr)
    unfold cutV cutD
    rw [← hl]
    exact z
theorem cut_from (ds : List PyData) (i : Nat) : cutD ds (some (i : Nat)) none = ds.drop i := by
  unfold cutD
  rw [HT.sIx_none, HT.sIx_nat]
  by_cases h : i ≤ ds.length
  · rw [Nat.min_eq_left h, List.take_of_length_le (by rw [List.length_drop]; exact Nat.le_refl _)]
  · rw [Nat.min_eq_right (by omega), List.drop_of_length_le (Nat.le_refl _), List.drop_of_length_le (by omega), List.take_nil]
end Ev

/-! ## Defs by name: what stands there, and what it promises -/
namespace Ev
open PySem PySem.Spec PyProof.Rows L2
/-- a def of the module -/
structure Def (K : PySem.W.Frag) (mg : Str → Option Value) (x : Str) (st : Stmt) (ps : List Str) : Prop where
  ex : ∃ (f : Addr) (fd : FuncData), Fun K x x st f fd ∧ Binds K fd ps [] ∧ mg x = some (.ref f)
/-- a def that keeps a promise, ready to be called -/
structure Cal (P : Program) (w : World) (K : PySem.W.Frag) (mg : Str → Option Value) (base : Heap) (k : Nat) (x : Str) (ps : List Str) (sp : Sp) : Prop where
  ex : ∃ (f : Addr) (fd : FuncData), FnG P w K mg base CX0 k f fd ps sp ∧ Binds K fd ps [] ∧ mg x = some (.ref f) ∧ PySem.W.keepIn K (.ref f) = true
section
variable {P : Program} {w : World} {K : PySem.W.Frag} {mg : Str → Option Value} {base : Heap} {x : Str} {st : Stmt} {ps N : List Str} {sp : Sp} {k j : Nat}
theorem Cal.up (C : Cal P w K mg base j x ps sp) (h : j ≤ k) : Cal P w K mg base k x ps sp := by
  obtain ⟨f, fd, F, b, m, v⟩ := C.ex
  exact ⟨f, fd, F.up h, b, m, v⟩
theorem Cal.of {f : Addr} {fd : FuncData} (F : FnOk P w K mg base CX0 k f fd ps sp) (b : Binds K fd ps []) (m : mg x = some (.ref f)) (v : PySem.W.keepIn K (.ref f) = true) : Cal P w K mg base k x ps sp :=
  ⟨f, fd, .of F, b, m, v⟩
theorem Def.ok (D : Def K mg x st ps) (S : FnScope N ps (defScope st)) (len : ∀ vs H Q E, sp vs H Q E → vs.length = ps.length)
    (hbody : ∀ (f : Addr) (cdv : Value) (A : Around) (outer : List Env) (s : Shared) (H : Hp) (vs : List V) (Q : VK) (E : XK),
      Room k (A.deeper (envOfC x (defScope st) s.heap.objs.size f cdv)) → A.guards = some [] → sp vs H Q E →
      ∃ t, PSs (cxOf CX0 P w K mg base N x (defScope st) f cdv A outer s H E).nox (defBody st) t ∧
        t { nx := fun _ H' => Q .non H', rt := Q } (start N vs) H) : Cal P w K mg base (k + 1) x ps sp := by
  obtain ⟨f, fd, F, b, m⟩ := D.ex
  exact ⟨f, fd, okG F S len (hbody f), b, m, F.kp⟩
theorem no_cal (D : Def K mg x st ps) : Cal P w K mg base k x ps (fun _ _ _ _ => False) := by
  obtain ⟨f, fd, F, b, m⟩ := D.ex
  exact ⟨f, fd, .of no_fn, b, m, F.kp⟩
end
section
variable {X : Cx} {k : Nat} {ps : List Str} {sp : Sp} {x : Str} {p pos : Pos} {e : Expr} {es : List Expr} {t : TA}
theorem pcall (C : Cal X.prog X.w X.K X.mg X.base k x ps sp) (hr : Room k X.A) (gd : X.A.guards = some []) (hg : Gl X x) (ha : PA X (e :: es) t)
    (hdb : (x == ("__debug__" : Str)) = false := by decide) (he : starEach (e :: es) X.env = (false, eval e X.env) :: starEach es X.env := by rfl)
    (hpl : (backTo pos (starEach es X.env)).any (·.1) = false := by rfl) : PE X (.Call (.Name x p) (e :: es) [] pos) (tCall sp [] E0 t) := by
  obtain ⟨f, fd, F, hb, hm, hk⟩ := C.ex
  exact pe_callG F hr gd hg hm hk hb .nil pass0 ha hdb he hpl
theorem pcall0 (C : Cal X.prog X.w X.K X.mg X.base k x ps sp) (hr : Room k X.A) (gd : X.A.guards = some []) (hg : Gl X x)
    (hdb : (x == ("__debug__" : Str)) = false := by decide) : PE X (.Call (.Name x p) [] [] pos) (tCall sp [] E0 tNil) := by
  obtain ⟨f, fd, F, hb, hm, hk⟩ := C.ex
  exact pe_callG0 F hr gd hg hm hk hb .nil pass0 hdb
end
theorem hu70 {A : Around} {k : Nat} (hr : Room k A) : A.units + 70 < cLine := by
  have := hr.un
  omega
/-- built-in names that the module leaves alone -/
def nbs : List Str := ["len", "abs", "int", "bool", "isinstance", "range", "max", "min", "sum", "repr", "divmod", "tuple", "sorted", "set", "enumerate", "zip", "list", "dict", "any", "all", "str", "reversed"]
def NB (mg : Str → Option Value) : Prop := ∀ x ∈ nbs, mg x = none
theorem NB.at {mg : Str → Option Value} (h : NB mg) {x : Str} (hx : nbs.contains x = true := by decide +kernel) : mg x = none := h x (List.contains_iff_mem.mp hx)
/-! ### is_whole, is_integer_within -/
def spWh (K : PySem.W.Frag) : Sp := fun vs H Q _ => ∃ (x : V) (d : PyData), vs = [x] ∧ Da K H x d ∧ Q (.bl (isD "int" d && !isD "bool" d)) H
def spIn (K : PySem.W.Frag) : Sp := fun vs H Q _ => ∃ (x : V) (d : PyData) (lo hi : Int), vs = [x, .int lo, .int hi] ∧ Da K H x d ∧ ∀ H', Same H H' → Q (.bl (intD lo hi d)) H'
/-! ### tuple * 0, tuple * 1 -/
theorem tuple_mul1 (l : Addr) (items : Array Value) (n : Nat) (dd : Option Addr) (sl : Array (Option Value)) (x : Int) (u : Tok) (c0 : (decide (x < -(2 ^ 63)) || decide (x ≥ 2 ^ 63)) = false) (c1 : (items.isEmpty || x == 1) = true) :
    Meets (Builtin.«tuple.__mul__» ⟨[.ref l, .int x u], []⟩) (fun _ R s => s.heap.get? l = some { cls := .type "tuple", dict := dd, data := .seq items n, slots := sl } ∧
      R (.ok (.ret (Value.ref l))) s) :=
  .of_wp fun prog w A R s h => by
    obtain ⟨hp, g, d, tk, os⟩ := s
    obtain ⟨hl, h⟩ := h
    have f1 := AutoSeq1.idx_int
    wp_walk using wpAny_loadPart' hl
    repeat (first
      | (refine wpAny_ite_false (decide_eq_false (by rw [c0]; exact Bool.false_ne_true)) ?_; wp_walk using wpAny_loadPart' hl)
      | (refine wpAny_ite_true (decide_eq_true c1) ?_; wp_walk using wpAny_loadPart' hl))
    exact ⟨_, rfl, h⟩
theorem tuple_mul0 (l : Addr) (items : Array Value) (n : Nat) (dd : Option Addr) (sl : Array (Option Value)) (x : Int) (u : Tok) (c0 : (decide (x < -(2 ^ 63)) || decide (x ≥ 2 ^ 63)) = false) (c1 : (items.isEmpty || x == 1) = false)
    (c2 : (decide (x ≤ 0) || items.isEmpty) = true) :
    Meets (Builtin.«tuple.__mul__» ⟨[.ref l, .int x u], []⟩) (fun _ R s => s.heap.get? l = some { cls := .type "tuple", dict := dd, data := .seq items n, slots := sl } ∧
      R (.ok (.ret (Value.ref s.heap.objs.size))) { s with heap := s.heap.push { cls := Value.type "tuple", data := Data.seq #[] }, toks := s.toks }) :=
  .of_wp fun prog w A R s h => by
    obtain ⟨hp, g, d, tk, os⟩ := s
    obtain ⟨hl, h⟩ := h
    have f1 := AutoSeq1.idx_int
    wp_walk using wpAny_loadPart' hl
    repeat (first
      | (refine wpAny_ite_false (decide_eq_false (by rw [c0]; exact Bool.false_ne_true)) ?_; wp_walk using wpAny_loadPart' hl)
      | (refine wpAny_ite_false (decide_eq_false (by rw [c1]; exact Bool.false_ne_true)) ?_; wp_walk using wpAny_loadPart' hl)
      | (refine wpAny_ite_true (decide_eq_true c2) ?_; wp_walk using wpAny_loadPart' hl))
    exact ⟨_, rfl, h⟩
def rRepT01 (K : PySem.W.Frag) : R2 := fun x y H Q => ∃ l xs k, x = .ref l ∧ y = .int k ∧ SqT K H l xs ∧ xs ≠ [] ∧ ((k = 1 ∧ Q (.ref l) H) ∨ (k = 0 ∧ ∀ p, H p = none → Q (.ref p) (upd H p (.tup []))))
theorem op_repT01 {X : Cx} : OpR X (binaryOp .Mult) (rRepT01 X.K) := by
  intro pins s σ H x y v u Q I rx ry h
  obtain ⟨l, xs, k, rfl, rfl, hT, hne, h⟩ := h
  cases rx
  obtain ⟨t, rfl⟩ := ry
  obtain ⟨its, r, ⟨⟨cls, dd, data, sl⟩, ho, hc, n, hd⟩, hs⟩ := I.tuple hT
  simp only at hc hd
  subst hc hd
  have hle : its.length = xs.length := r.length.symm
  have hi : its.toArray.isEmpty = false := by
    cases its with
    | nil => exact absurd (List.eq_nil_of_length_eq_zero hle.symm) hne
    | cons a b => rfl
  rcases h with ⟨rfl, q⟩ | ⟨rfl, q⟩
  · refine wpAny_binaryOp_repeat_ref (T := "tuple") (U := "int") (by decide) ⟨_, ho, rfl⟩ (fun s' => typeIs_int s' 1 t) noFill_tuple_mul F.fills_int_mul F.slot_int_rmul repeat_tuple F.slot_int_index.lookup
      (call_meets F.slot_int_rmul (typeIs_int s 1 t) F.entry_int_rmul (F.args_int_rmul_2 _ _) (int_rmul_tuple 1 t l its.toArray n dd sl)
        ⟨ho, rfl, ⟨_, ho, rfl⟩, call_meets F.slot_tuple_mul ⟨_, ho, rfl⟩ F.entry_tuple_mul (F.args_tuple_mul_2 _ _) (tuple_mul1 l its.toArray n dd sl 1 t (by decide) (by rw [hi]; rfl)) ⟨ho, ?_⟩⟩)
    exact ⟨.ref l, H, I, rfl, q⟩
  · refine wpAny_binaryOp_repeat_ref (T := "tuple") (U := "int") (by decide) ⟨_, ho, rfl⟩ (fun s' => typeIs_int s' 0 t) noFill_tuple_mul F.fills_int_mul F.slot_int_rmul repeat_tuple F.slot_int_index.lookup
      (call_meets F.slot_int_rmul (typeIs_int s 0 t) F.entry_int_rmul (F.args_int_rmul_2 _ _) (int_rmul_tuple 0 t l its.toArray n dd sl)
        ⟨ho, rfl, ⟨_, ho, rfl⟩, call_meets F.slot_tuple_mul ⟨_, ho, rfl⟩ F.entry_tuple_mul (F.args_tuple_mul_2 _ _) (tuple_mul0 l its.toArray n dd sl 0 t (by decide) (by rw [hi]; rfl) (by simp)) ⟨ho, ?_⟩⟩)
    refine ⟨.ref s.heap.objs.size, _, I.laid (t' := s.toks) (o := .tup []) (fun b ob q => Heap.get?_push_of_some _ q) (Nat.le_refl _) ?_, rfl, q _ (I.hok.fresh (Nat.le_refl _))⟩
    exact ⟨Nat.zero_le _, [], .nil, IsTup.new _ _⟩
/-! ### pots -/
/-- at p stands a pot out of which at most n draws came by reckoning -/
def PotA (p : Addr) (n : Nat) (H : Hp) : Prop := ∃ xs, H p = some (.lst xs) ∧ PotL n xs
theorem PotA.up {p : Addr} {n m : Nat} {H : Hp} (h : PotA p n H) (k : n ≤ m) : PotA p m H := by
  obtain ⟨xs, e, q⟩ := h
  exact ⟨xs, e, q.up k⟩
theorem PotA.same {p : Addr} {n : Nat} {H H' : Hp} (h : PotA p n H) (s : Same H H') : PotA p n H' := by
  obtain ⟨xs, e, q⟩ := h
  exact ⟨xs, s _ _ e, q⟩
theorem PotA.new {p q : Addr} {n : Nat} {H : Hp} {o : HO} (h : PotA p n H) (nq : H q = none) : PotA p n (upd H q o) := h.same (same_put nq)
theorem PotA.ne {p q : Addr} {n : Nat} {H : Hp} (h : PotA p n H) (nq : H q = none) : p ≠ q := by
  obtain ⟨xs, e, _⟩ := h
  exact ne_of_none e nq
theorem PotA.put {p l : Addr} {n : Nat} {H : Hp} {o : HO} (h : PotA p n H) (ne : p ≠ l) : PotA p n (upd H l o) := by
  obtain ⟨xs, e, q⟩ := h
  exact ⟨xs, by rw [upd_ne ne]; exact e, q⟩
theorem PotA.kt {p : Addr} {n : Nat} {H H' : Hp} (h : PotA p n H) (b : Bu p H H') : Kt H H' := by
  obtain ⟨xs, e, _⟩ := h
  exact b.kt e
/-- tuples stay, while a pot is drawn from -/
theorem Da.bu {K : PySem.W.Frag} {p : Addr} {n : Nat} {H H' : Hp} {u : V} {d : PyData} (hd : Da K H u d) (ht : tupD d = true) (h : PotA p n H) (b : Bu p H H') : Da K H' u d := hd.kt (h.kt b) ht
theorem Bu.same {p : Addr} {H H1 H2 : Hp} (b : Bu p H H1) (s : Same H1 H2) : Bu p H H2 := b.trans (.of s)
def spDraw : Sp := fun vs H Q _ => ∃ (p : Addr) (m : Int) (n : Nat), vs = [.ref p, .int m] ∧ PotA p n H ∧ n < 10000000 ∧ 0 < m ∧ m.natAbs.log2 < 9000 ∧ ∀ H' d, Bu p H H' → PotA p (n + 1) H' → 0 ≤ d → d < m → Q (.int d) H'
def spPick (K : PySem.W.Frag) : Sp := fun vs H Q _ => ∃ (p q : Addr) (zs : List V) (n : Nat), vs = [.ref p, .ref q] ∧ PotA p n H ∧ n < 10000000 ∧ p ≠ q ∧ SqL K H q zs ∧ zs ≠ [] ∧ zs.length ≤ 1000000 ∧
  ∀ H' v, Bu p H H' → PotA p (n + 1) H' → v ∈ zs → Q v H'
def spPotS (K : PySem.W.Frag) : Sp := fun vs H Q _ => ∃ (a : Addr) (ns : List Int) (k : Int), vs = [.ref a, .int k] ∧ SqL K H a (ns.map V.int) ∧ 0 ≤ k ∧ k ≤ 1000 ∧ ∀ H' p, H p = none → Same H H' → PotA p 0 H' → Q (.ref p) H'
theorem log_i {m : Int} {k : Nat} (h1 : 0 ≤ m) (h2 : m < (2 ^ k : Nat)) (h0 : 0 < k) (hk : k ≤ 9000) : m.natAbs.log2 < 9000 :=
  Nat.lt_of_lt_of_le (PySem.Flt.log2_lt_of h0 (show m.natAbs < 2 ^ k by omega)) hk
/-! ### tuples joined; comprehensions whose elements are plain values -/
section
variable {K : PySem.W.Frag} {H0 : Hp} {σ : L2.St} {te ti : TE}
theorem cat_val {H : Hp} {x y : V} {ds es : List PyData} {Q : VK} (hx : Da K H x (.tuple ds)) (hy : Da K H y (.tuple es)) (hl : ds.length + es.length ≤ sizeLine)
    (q : ∀ H' u, Same H H' → Da K H' u (.tuple (ds ++ es)) → Q u H') : rCatA K x y H Q := by
  cases hx with
  | @tup a xs _ hs ha =>
  cases hy with
  | @tup b ys _ ht hb =>
  have l1 := daAll_len ha
  have l2 := daAll_len hb
  refine ⟨a, b, xs, ys, rfl, rfl, hs, ht, by omega, fun e => ?_, fun _ e => ?_, fun _ _ p np => ?_⟩
  · subst e
    cases ha
    exact q H _ Same.rfl' (.tup ht hb)
  · subst e
    cases hb
    refine q H _ Same.rfl' ?_
    rw [List.append_nil]
    exact .tup hs ha
  · exact q _ _ (same_put np) (.tup (xs := xs ++ ys) (.inl (.inl upd_same)) ((da_app ha hb).mono (same_put np)))
theorem g_lcT1 {ds : List PyData} {ys : List V} {g : TG} {vs : List Nat} (hi : ∀ (H : Hp) (Q : VK), Same H0 H → (∀ H' l us, Same H H' → SqT K H' l us → DaAll K H' us ds → Q (.ref l) H') → ti σ H Q) (hz : ds.length ≤ 1000000) (hl : ys.length = ds.length)
    (he : ∀ (j : Nat) (x y : V) (d : PyData), ds[j]? = some d → ys[j]? = some y → ∀ (H : Hp) (R : VK), Same H0 H → Da K H x d → (∀ H', Same H H' → R y H') → g x (wipe σ vs) H fun σ2 H2 => wipe σ2 vs = wipe σ vs ∧ te σ2 H2 R) :
    Gives H0 (tLc (iTup K ti) g tYes te vs) (gLst (ys.map gEq)) σ := fun H Q s q => by
  refine hi H _ s fun H1 l us s1 hl1 ha => ⟨l, rfl, ⟨us, hl1⟩, fun D nD => ?_⟩
  have sl := sizeLine_eq
  have hlen := daAll_len ha
  refine lc_tup (K := K) (a := l) (xs := us) (fun k H' => Same H1 H' ∧ H' D = some (.lst (ys.take k))) ⟨same_put nD, upd_same⟩ (fun k H' _ ⟨s', _⟩ => seqT_mono s' hl1) ?_ ?_
  · rintro k x H' hk ⟨s', eD⟩
    obtain ⟨d, hd, hx⟩ := daAll_at ha hk
    have hkl : k < ds.length := (List.getElem?_eq_some_iff.mp hd).1
    have hk' : k < ys.length := by omega
    have hy := List.getElem?_eq_getElem hk'
    refine cast ?_ (he k x ys[k] d hd hy H' (fun y' H4 => ∃ acc, H4 D = some (.lst acc) ∧ acc.length < sizeLine ∧ Same H1 (upd H4 D (.lst (acc ++ [y']))) ∧ upd H4 D (.lst (acc ++ [y'])) D = some (.lst (ys.take (k + 1))))
      (s.trans (s1.trans s')) (hx.mono s') (fun H4 s4 => ⟨_, s4 _ _ eD, ?_, ?_, ?_⟩))
    · rfl
    · rw [List.length_take]
      omega
    · intro b o e
      rw [upd_ne (ne_of_none e nD)]
      exact s4 _ _ (s' _ _ e)
    · rw [upd_same, List.take_add_one, hy]
      rfl
  · rintro H' ⟨s', eD⟩
    rw [hlen, ← hl, List.take_length] at eD
    exact q H' _ (s1.trans s') ⟨D, _, rfl, eD, allEq⟩
theorem g_lcL1 {ds : List PyData} {ys : List V} {g : TG} {vs : List Nat} (hi : ∀ (H : Hp) (Q : VK), Same H0 H → (∀ H' l us, Same H H' → SqL K H' l us → DaAll K H' us ds → Q (.ref l) H') → ti σ H Q) (hz : ds.length ≤ 1000000) (hl : ys.length = ds.length)
    (he : ∀ (j : Nat) (x y : V) (d : PyData), ds[j]? = some d → ys[j]? = some y → ∀ (H : Hp) (R : VK), Same H0 H → Da K H x d → (∀ H', Same H H' → R y H') → g x (wipe σ vs) H fun σ2 H2 => wipe σ2 vs = wipe σ vs ∧ te σ2 H2 R) :
    Gives H0 (tLc (iList K ti) g tYes te vs) (gLst (ys.map gEq)) σ := fun H Q s q => by
  refine hi H _ s fun H1 l us s1 hl1 ha => ⟨l, rfl, ⟨us, hl1⟩, fun D nD => ?_⟩
  have sl := sizeLine_eq
  have hlen := daAll_len ha
  refine lc_list (K := K) (a := l) (xs := us) (fun k H' => Same H1 H' ∧ H' D = some (.lst (ys.take k))) ⟨same_put nD, upd_same⟩ (fun k H' _ ⟨s', _⟩ => s'.seq hl1) ?_ ?_
  · rintro k x H' hk ⟨s', eD⟩
    obtain ⟨d, hd, hx⟩ := daAll_at ha hk
    have hkl : k < ds.length := (List.getElem?_eq_some_iff.mp hd).1
    have hk' : k < ys.length := by omega
    have hy := List.getElem?_eq_getElem hk'
    refine cast ?_ (he k x ys[k] d hd hy H' (fun y' H4 => ∃ acc, H4 D = some (.lst acc) ∧ acc.length < sizeLine ∧ Same H1 (upd H4 D (.lst (acc ++ [y']))) ∧ upd H4 D (.lst (acc ++ [y'])) D = some (.lst (ys.take (k + 1))))
      (s.trans (s1.trans s')) (hx.mono s') (fun H4 s4 => ⟨_, s4 _ _ eD, ?_, ?_, ?_⟩))
    · rfl
    · rw [List.length_take]
      omega
    · intro b o e
      rw [upd_ne (ne_of_none e nD)]
      exact s4 _ _ (s' _ _ e)
    · rw [upd_same, List.take_add_one, hy]
      rfl
  · rintro H' ⟨s', eD⟩
    rw [hlen, ← hl, List.take_length] at eD
    exact q H' _ (s1.trans s') ⟨D, _, rfl, eD, allEq⟩
theorem hi_tup {i : Nat} {x : V} {ds : List PyData} (hv : σ[i]? = some (some x)) (hd : Da K H0 x (.tuple ds)) :
    ∀ (H : Hp) (Q : VK), Same H0 H → (∀ H' l us, Same H H' → SqT K H' l us → DaAll K H' us ds → Q (.ref l) H') → tVar i σ H Q := fun H Q s q => by
  have z := hd.mono s
  cases z with
  | @tup a xs _ hs ha => exact ⟨_, hv, q H a xs Same.rfl' hs ha⟩
theorem hi_lst {i : Nat} {x : V} {ds : List PyData} (hv : σ[i]? = some (some x)) (hd : Da K H0 x (.list ds)) :
    ∀ (H : Hp) (Q : VK), Same H0 H → (∀ H' l us, Same H H' → SqL K H' l us → DaAll K H' us ds → Q (.ref l) H') → tVar i σ H Q := fun H Q s q => by
  have z := hd.mono s
  cases z with
  | @lst a xs _ hs ha => exact ⟨_, hv, q H a xs Same.rfl' hs ha⟩
end
end Ev

/-! ## Lines and their sums -/
namespace Ev
open PySem PySem.Spec PyProof.Rows L2
/-- a list of data made of tuples -/
def gLd (K : PySem.W.Frag) (es : List PyData) : GP := ⟨fun H u => ∃ l us, u = .ref l ∧ H l = some (.lst us) ∧ DaAll K H us es, fun s ⟨l, us, h1, h2, h3⟩ => ⟨l, us, h1, s _ _ h2, h3.mono s⟩⟩
section
variable {K : PySem.W.Frag} {H0 : Hp} {σ : L2.St} {te ti : TE}
theorem tupDs_take : ∀ {es : List PyData} (n : Nat), tupDs es = true → tupDs (es.take n) = true
  | [], n, h => by
    rw [List.take_nil]
    exact h
  | e :: es, 0, _ => by
    rw [List.take_zero, tupDs]
  | e :: es, n + 1, h => by
    rw [tupDs, Bool.and_eq_true] at h
    rw [List.take_succ_cons, tupDs, h.1, tupDs_take n h.2]
    rfl
/-- one more element of a comprehension's list -/
theorem lcD_more {H1 H4 H' : Hp} {D : Addr} {us : List V} {u : V} {es : List PyData} {e : PyData} {k : Nat} (nD : H1 D = none) (s' : Same H1 H') (s4 : Same H' H4) (eD : H' D = some (.lst us)) (ha : DaAll K H' us (es.take k)) (ht : tupDs es = true) (hk : es[k]? = some e) (hu : Da K H4 u e) :
    Same H1 (upd H4 D (.lst (us ++ [u]))) ∧ ∃ us', upd H4 D (.lst (us ++ [u])) D = some (.lst us') ∧ DaAll K (upd H4 D (.lst (us ++ [u]))) us' (es.take (k + 1)) := by
  have kt : Kt H4 (upd H4 D (.lst (us ++ [u]))) := Kt.put (s4 _ _ eD)
  have te : tupD e = true := by
    have z := tupDs_take (k + 1) ht
    rw [List.take_add_one, hk] at z
    exact tup_last z
  refine ⟨fun b o x => ?_, us ++ [u], upd_same, ?_⟩
  · rw [upd_ne (ne_of_none x nD)]
    exact s4 _ _ (s' _ _ x)
  · rw [List.take_add_one, hk]
    exact da_app (DaAll.kt ((Kt.of s4).trans kt) (tupDs_take k ht) ha) (.cons (Da.kt kt te hu) .nil)
where tup_last : ∀ {es : List PyData} {e : PyData}, tupDs (es ++ [e]) = true → tupD e = true
  | [], e, h => by
    rw [List.nil_append, tupDs, Bool.and_eq_true] at h
    exact h.1
  | d :: es, e, h => by
    rw [List.cons_append, tupDs, Bool.and_eq_true] at h
    exact tup_last h.2
theorem g_lcDL {ds es : List PyData} {g : TG} {vs : List Nat} (hi : ∀ (H : Hp) (Q : VK), Same H0 H → (∀ H' l us, Same H H' → SqL K H' l us → DaAll K H' us ds → Q (.ref l) H') → ti σ H Q) (hz : ds.length ≤ 1000000) (ht : tupDs es = true) (hl : es.length = ds.length)
    (he : ∀ (j : Nat) (x : V) (d e : PyData), ds[j]? = some d → es[j]? = some e → ∀ (H : Hp) (R : VK), Same H0 H → Da K H x d → (∀ H' u, Same H H' → Da K H' u e → R u H') → g x (wipe σ vs) H fun σ2 H2 => wipe σ2 vs = wipe σ vs ∧ te σ2 H2 R) :
    Gives H0 (tLc (iList K ti) g tYes te vs) (gLd K es) σ := fun H Q s q => by
  refine hi H _ s fun H1 l us s1 hl1 ha => ⟨l, rfl, ⟨us, hl1⟩, fun D nD => ?_⟩
  have sl := sizeLine_eq
  have hlen := daAll_len ha
  refine lc_list (K := K) (a := l) (xs := us) (fun k H' => Same H1 H' ∧ ∃ ws, H' D = some (.lst ws) ∧ DaAll K H' ws (es.take k)) ⟨same_put nD, [], upd_same, .nil⟩ (fun k H' _ ⟨s', _⟩ => s'.seq hl1) ?_ ?_
  · rintro k x H' hk ⟨s', ws, eD, hw⟩
    obtain ⟨d, hd, hx⟩ := daAll_at ha hk
    have hke : k < es.length := by
      have := (List.getElem?_eq_some_iff.mp hd).1
      omega
    have hek := List.getElem?_eq_getElem hke
    have hwl := daAll_len hw
    rw [List.length_take] at hwl
    refine cast ?_ (he k x d es[k] hd hek H' (fun y H4 => ∃ acc, H4 D = some (.lst acc) ∧ acc.length < sizeLine ∧ Same H1 (upd H4 D (.lst (acc ++ [y]))) ∧ ∃ ws, upd H4 D (.lst (acc ++ [y])) D = some (.lst ws) ∧ DaAll K (upd H4 D (.lst (acc ++ [y]))) ws (es.take (k + 1)))
      (s.trans (s1.trans s')) (hx.mono s') fun H4 u s4 hu => ⟨ws, s4 _ _ eD, by omega, lcD_more nD s' s4 eD hw ht hek hu⟩)
    rfl
  · rintro H' ⟨s', ws, eD, hw⟩
    rw [hlen, ← hl, List.take_length] at hw
    exact q H' _ (s1.trans s') ⟨D, ws, rfl, eD, hw⟩
theorem g_lcDT {a : Addr} {xs : List V} {es : List PyData} {g : TG} {vs : List Nat} {i : Nat} (hv : σ[i]? = some (some (.ref a))) (hx : SqT K H0 a xs) (hz : xs.length ≤ 1000000) (ht : tupDs es = true) (hl : es.length = xs.length)
    (he : ∀ (j : Nat) (x : V) (e : PyData), xs[j]? = some x → es[j]? = some e → ∀ (H : Hp) (R : VK), Same H0 H → (∀ H' u, Same H H' → Da K H' u e → R u H') → g x (wipe σ vs) H fun σ2 H2 => wipe σ2 vs = wipe σ vs ∧ te σ2 H2 R) :
    Gives H0 (tLc (iTup K (tVar i)) g tYes te vs) (gLd K es) σ := fun H Q s q => by
  refine ⟨_, hv, a, rfl, ⟨xs, seqT_mono s hx⟩, fun D nD => ?_⟩
  have sl := sizeLine_eq
  refine lc_tup (K := K) (a := a) (xs := xs) (fun k H' => Same H H' ∧ ∃ ws, H' D = some (.lst ws) ∧ DaAll K H' ws (es.take k)) ⟨same_put nD, [], upd_same, .nil⟩ (fun k H' _ ⟨s', _⟩ => seqT_mono (s.trans s') hx) ?_ ?_
  · rintro k x H' hk ⟨s', ws, eD, hw⟩
    have hke : k < es.length := by
      have := (List.getElem?_eq_some_iff.mp hk).1
      omega
    have hek := List.getElem?_eq_getElem hke
    have hwl := daAll_len hw
    rw [List.length_take] at hwl
    refine cast ?_ (he k x es[k] hk hek H' (fun y H4 => ∃ acc, H4 D = some (.lst acc) ∧ acc.length < sizeLine ∧ Same H (upd H4 D (.lst (acc ++ [y]))) ∧ ∃ ws, upd H4 D (.lst (acc ++ [y])) D = some (.lst ws) ∧ DaAll K (upd H4 D (.lst (acc ++ [y]))) ws (es.take (k + 1)))
      (s.trans s') fun H4 u s4 hu => ⟨ws, s4 _ _ eD, by omega, lcD_more nD s' s4 eD hw ht hek hu⟩)
    rfl
  · rintro H' ⟨s', ws, eD, hw⟩
    rw [← hl, List.take_length] at hw
    exact q H' _ s' ⟨D, ws, rfl, eD, hw⟩
end
def cntD (names : List Str) (c : Str → Int) : List (Key × V) := names.map fun n => (.inr n, .int (c n))
theorem cnt_val {names : List Str} {c : Str → Int} {x : Str} (h : x ∈ names) : valV (cntD names c) (.inr x) = some (.int (c x)) := by
  induction names with
  | nil => cases h
  | cons n names ih =>
    by_cases e : n = x
    · subst e
      exact valV_pos rfl
    · rw [show cntD (n :: names) c = ((.inr n, .int (c n)) : Key × V) :: cntD names c from rfl, valV_neg (fun z => e (Sum.inr.inj z))]
      exact ih ((List.mem_cons.mp h).resolve_left fun z => e z.symm)
theorem cnt_any {names : List Str} {c : Str → Int} {x : Str} : ((cntD names c).any fun kv => decide (kv.1 = .inr x)) = decide (x ∈ names) := by
  induction names with
  | nil => rfl
  | cons n names ih =>
    rw [show cntD (n :: names) c = ((.inr n, .int (c n)) : Key × V) :: cntD names c from rfl, List.any_cons, ih]
    by_cases e : n = x
    · subst e
      simp
    · have h1 : decide ((Sum.inr n : Key) = Sum.inr x) = false := decide_eq_false fun z => e (Sum.inr.inj z)
      have h2 : ¬ x = n := fun z => e z.symm
      show (decide ((Sum.inr n : Key) = Sum.inr x) || decide (x ∈ names)) = _
      rw [h1, Bool.false_or]
      exact decide_eq_decide.mpr ⟨fun z => List.mem_cons_of_mem _ z, fun z => (List.mem_cons.mp z).resolve_left h2⟩
theorem cnt_put {names : List Str} {c : Str → Int} {x : Str} {v : Int} (h : x ∈ names) : putK (cntD names c) (.inr x) (.int v) = cntD names fun n => if n = x then v else c n := by
  unfold putK
  rw [cnt_any, decide_eq_true h, if_pos rfl]
  unfold cntD
  rw [List.map_map]
  refine List.map_congr_left fun n _ => ?_
  show (if (Sum.inr n : Key) = Sum.inr x then _ else _) = ((.inr n, .int (if n = x then v else c n)) : Key × V)
  by_cases e : n = x
  · subst e
    rw [if_pos rfl]
    simp
  · rw [if_neg fun z => e (Sum.inr.inj z), if_neg e]
theorem cnt_new {names : List Str} {c : Str → Int} {x : Str} {v : Int} (h : x ∉ names) : putK (cntD names c) (.inr x) (.int v) = cntD names c ++ [(.inr x, .int v)] := by
  unfold putK
  rw [cnt_any, decide_eq_false h, if_neg Bool.false_ne_true]
/-- the sum of the numbers with the name n -/
def sumN (ps : List (Str × Int)) (n : Str) : Int := ((ps.filter fun p => decide (p.1 = n)).map (·.2)).sum
theorem sumN_snoc (ps : List (Str × Int)) (p : Str × Int) (n : Str) : sumN (ps ++ [p]) n = if n = p.1 then sumN ps n + p.2 else sumN ps n := by
  unfold sumN
  rw [List.filter_append, List.map_append, List.sum_append]
  by_cases e : p.1 = n
  · rw [if_pos e.symm]
    simp [e]
  · rw [if_neg fun z => e z.symm]
    simp [e]
theorem sumN_app (ps qs : List (Str × Int)) (n : Str) : sumN (ps ++ qs) n = sumN ps n + sumN qs n := by
  unfold sumN
  rw [List.filter_append, List.map_append, List.sum_append]
def totD (is : List It) (c : Str → Int) : PyData := .tuple ((linesI is).map fun n => pairD (n, c n))
theorem uniq_nd (xs : List Str) : (uniq [] xs).Nodup := uniq_nodup xs [] .nil
theorem lines_nd (is : List It) : (linesI is).Nodup := (srt_perm _).nodup_iff.mpr (uniq_nd _)
theorem lines_mem {is : List It} {x : Str} : x ∈ linesI is ↔ x ∈ (Its.sp 1 is).map (·.1) := by
  unfold linesI
  rw [(srt_perm _).mem_iff, uniq_mem]
  simp
theorem lines_len {is : List It} : (linesI is).length ≤ Its.nl is := by
  unfold linesI
  rw [(srt_perm _).length_eq]
  have z := uniq_len ((Its.sp 1 is).map (·.1)) []
  rw [List.length_map, Its.sp_len] at z
  have z0 : ([] : List Str).length = 0 := rfl
  omega
theorem sumN_nil (n : Str) : sumN [] n = 0 := rfl
mutual
/-- a line's ticks, r times -/
theorem It.sp_count (n : Str) (r : Int) : ∀ i : It, It.nn i → sumN (It.sp r i) n = r * ((It.w i).count n : Nat)
  | .line x t, h => by
    rw [It.nn] at h
    rw [It.sp, It.w]
    unfold sumN
    by_cases e : x = n
    · subst e
      rw [List.count_replicate_self]
      simp
      rw [Int.max_eq_left h]
    · rw [List.count_replicate, if_neg (by simpa using e)]
      simp [e]
  | .loop k is, h => by
    rw [It.nn] at h
    rw [It.sp, It.w, Its.sp_count n (r * k) is h.2, flat_count, Int.natCast_mul, Int.toNat_of_nonneg h.1, Int.mul_assoc]
theorem Its.sp_count (n : Str) (r : Int) : ∀ is : List It, Its.nn is → sumN (Its.sp r is) n = r * ((Its.w is).count n : Nat)
  | [], _ => by
    rw [Its.sp, Its.w, sumN_nil]
    simp
  | i :: is, h => by
    rw [Its.nn] at h
    rw [Its.sp, Its.w, sumN_app, It.sp_count n r i h.1, Its.sp_count n r is h.2, List.count_append, Int.natCast_add, Int.mul_add]
end
mutual
theorem It.sp_sum (r : Int) : ∀ i : It, It.nn i → ((It.sp r i).map (·.2)).sum = r * ((It.w i).length : Nat)
  | .line x t, h => by
    rw [It.nn] at h
    rw [It.sp, It.w, List.length_replicate, Int.toNat_of_nonneg h]
    simp
  | .loop k is, h => by
    rw [It.nn] at h
    rw [It.sp, It.w, Its.sp_sum (r * k) is h.2, flat_len, Int.natCast_mul, Int.toNat_of_nonneg h.1, Int.mul_assoc]
theorem Its.sp_sum (r : Int) : ∀ is : List It, Its.nn is → ((Its.sp r is).map (·.2)).sum = r * ((Its.w is).length : Nat)
  | [], _ => by
    rw [Its.sp, Its.w]
    simp
  | i :: is, h => by
    rw [Its.nn] at h
    rw [Its.sp, Its.w, List.map_append, List.sum_append, It.sp_sum r i h.1, Its.sp_sum r is h.2, List.length_append, Int.natCast_add, Int.mul_add]
end
theorem len_w {is : List It} (h : Its.nn is) : lenI is = ((Its.w is).length : Nat) := by
  unfold lenI
  rw [Its.sp_sum 1 is h, Int.one_mul]
theorem len_one {i : It} (h : It.nn i) : lenI [i] = ((It.w i).length : Nat) := by
  rw [len_w (by rw [Its.nn, Its.nn]; exact ⟨h, trivial⟩), w_one]
mutual
theorem It.sp_mem (x : Str) (r : Int) : ∀ i : It, It.ps i → (x ∈ (It.sp r i).map (·.1) ↔ x ∈ It.w i)
  | .line z t, h => by
    rw [It.ps] at h
    rw [It.sp, It.w, List.mem_replicate]
    simp
    intro e
    omega
  | .loop k is, h => by
    rw [It.ps] at h
    rw [It.sp, It.w, Its.sp_mem x (r * k) is h.2.2, mem_flat (by omega)]
theorem Its.sp_mem (x : Str) (r : Int) : ∀ is : List It, Its.ps is → (x ∈ (Its.sp r is).map (·.1) ↔ x ∈ Its.w is)
  | [], _ => by
    rw [Its.sp, Its.w]
    simp
  | i :: is, h => by
    rw [Its.ps] at h
    rw [Its.sp, Its.w, List.map_append, List.mem_append, List.mem_append, It.sp_mem x r i h.1, Its.sp_mem x r is h.2]
end
theorem lines_w {is : List It} (h : Its.ps is) {x : Str} : x ∈ linesI is ↔ x ∈ Its.w is := by
  rw [lines_mem, Its.sp_mem x 1 is h]
theorem lines_eq {is : List It} (h : Its.ps is) : linesI is = srtS (uniq [] (Its.w is)) := by
  unfold linesI
  refine srt_eq (uniq_nd _) (uniq_nd _) fun x => ?_
  rw [uniq_mem, uniq_mem, Its.sp_mem x 1 is h]
end Ev

/-! ## The row -/
namespace Ev
open PySem
def topS (i : Nat) : Stmt := PySem.Challenge.pw_evensamples_k44_exact_covers_or_not.main.body.getD i (.Pass ⟨0, 0, 0, 0⟩)
end Ev

/-! ## Sums over classes -/
namespace Ev
open PySem
def sumK (h : Nat → Int) : Nat → Int
  | 0 => 0
  | n + 1 => sumK h n + h n
theorem sumK_congr {g h : Nat → Int} : ∀ {n : Nat}, (∀ k, k < n → g k = h k) → sumK g n = sumK h n
  | 0, _ => rfl
  | n + 1, e => by
    show sumK g n + g n = sumK h n + h n
    rw [sumK_congr fun k hk => e k (Nat.lt_succ_of_lt hk), e n (Nat.lt_succ_self n)]
theorem sumK_left (h : Nat → Int) : ∀ n : Nat, sumK h (n + 1) = h 0 + sumK (fun k => h (k + 1)) n
  | 0 => by
    show 0 + h 0 = h 0 + 0
    omega
  | n + 1 => by
    show sumK h (n + 1) + h (n + 1) = h 0 + (sumK (fun k => h (k + 1)) n + h (n + 1))
    rw [sumK_left h n]
    omega
theorem sumK_app (h : Nat → Int) (m : Nat) : ∀ n : Nat, sumK h (m + n) = sumK h m + sumK (fun k => h (m + k)) n
  | 0 => by
    show sumK h m = sumK h m + 0
    omega
  | n + 1 => by
    show sumK h (m + n) + h (m + n) = sumK h m + (sumK (fun k => h (m + k)) n + h (m + n))
    rw [sumK_app h m n]
    omega
theorem sumK_zero : ∀ n : Nat, sumK (fun _ => 0) n = 0
  | 0 => rfl
  | n + 1 => by
    show sumK _ n + 0 = 0
    rw [sumK_zero n]
    rfl
theorem sumK_plus (g h : Nat → Int) : ∀ n : Nat, sumK (fun k => g k + h k) n = sumK g n + sumK h n
  | 0 => rfl
  | n + 1 => by
    show sumK _ n + (g n + h n) = (sumK g n + g n) + (sumK h n + h n)
    rw [sumK_plus g h n]
    omega
theorem sumK_mul (c : Int) (h : Nat → Int) : ∀ n : Nat, sumK (fun k => c * h k) n = c * sumK h n
  | 0 => (Int.mul_zero c).symm
  | n + 1 => by
    show sumK _ n + c * h n = c * (sumK h n + h n)
    rw [sumK_mul c h n, Int.mul_add]
theorem sumK_mulR (c : Int) (h : Nat → Int) (n : Nat) : sumK (fun k => h k * c) n = sumK h n * c := by
  rw [Int.mul_comm, ← sumK_mul]
  exact sumK_congr fun k _ => Int.mul_comm _ _
theorem sumK_swap (h : Nat → Nat → Int) (m : Nat) : ∀ n : Nat, sumK (fun a => sumK (fun b => h a b) m) n = sumK (fun b => sumK (fun a => h a b) n) m
  | 0 => (sumK_zero m).symm
  | n + 1 => by
    show sumK (fun a => sumK (fun b => h a b) m) n + sumK (fun b => h n b) m = sumK (fun b => sumK (fun a => h a b) n + h n b) m
    rw [sumK_swap h m n, sumK_plus]
theorem sumK_shift1 (h : Nat → Int) (m : Nat) : sumK (fun a => h ((a + 1) % (m + 1))) (m + 1) = sumK h (m + 1) := by
  show sumK (fun a => h ((a + 1) % (m + 1))) m + h ((m + 1) % (m + 1)) = _
  rw [sumK_left h m, Nat.mod_self, sumK_congr (h := fun k => h (k + 1)) fun k hk => by rw [Nat.mod_eq_of_lt (by omega)]]
  omega
theorem sumK_shift {m : Nat} (hm : 0 < m) (h : Nat → Int) : ∀ s : Nat, sumK (fun a => h ((a + s) % m)) m = sumK h m
  | 0 => sumK_congr fun k hk => by rw [Nat.add_zero, Nat.mod_eq_of_lt hk]
  | s + 1 => by
    rw [← sumK_shift hm h s]
    obtain ⟨m', rfl⟩ : ∃ m', m = m' + 1 := ⟨m - 1, by omega⟩
    rw [← sumK_shift1 (fun a => h ((a + s) % (m' + 1))) m']
    exact sumK_congr fun k _ => by rw [Nat.mod_add_mod, show k + (s + 1) = k + 1 + s by omega]
theorem sumK_rev (h : Nat → Int) : ∀ n : Nat, sumK (fun k => h (n - 1 - k)) n = sumK h n
  | 0 => rfl
  | n + 1 => by
    rw [sumK_left]
    show h (n + 1 - 1 - 0) + sumK (fun k => h (n + 1 - 1 - (k + 1))) n = sumK h n + h n
    rw [← sumK_rev h n, sumK_congr (g := fun k => h (n + 1 - 1 - (k + 1))) (h := fun k => h (n - 1 - k)) fun k _ => by rw [show n + 1 - 1 - (k + 1) = n - 1 - k by omega]]
    rw [show n + 1 - 1 - 0 = n by omega]
    omega
theorem sumK_pick {c : Nat} (h : Nat → Int) : ∀ {m : Nat}, c < m → sumK (fun b => h b * (if b = c then 1 else 0)) m = h c
  | m + 1, hc => by
    show sumK _ m + h m * (if m = c then 1 else 0) = h c
    by_cases e : m = c
    · subst e
      rw [if_pos rfl, sumK_congr (h := fun _ => 0) fun k hk => by rw [if_neg (by omega), Int.mul_zero], sumK_zero]
      omega
    · rw [if_neg e, sumK_pick h (show c < m by omega)]
      omega
theorem sumK_le {h : Nat → Int} {M : Int} : ∀ {n : Nat}, (∀ k, k < n → (h k).natAbs ≤ M) → (sumK h n).natAbs ≤ n * M
  | 0, _ => by
    show ((0 : Int).natAbs : Int) ≤ 0 * M
    rw [Int.zero_mul]
    decide
  | n + 1, e => by
    show ((sumK h n + h n).natAbs : Int) ≤ ((n + 1 : Nat) : Int) * M
    have a := sumK_le fun k hk => e k (Nat.lt_succ_of_lt hk)
    have b := e n (Nat.lt_succ_self n)
    have c := Int.natAbs_add_le (sumK h n) (h n)
    rw [show ((n + 1 : Nat) : Int) * M = n * M + M by rw [Int.natCast_add, Int.add_mul]; simp]
    omega
theorem sumK_nn {h : Nat → Int} : ∀ {n : Nat}, (∀ k, k < n → 0 ≤ h k) → 0 ≤ sumK h n
  | 0, _ => Int.le_refl 0
  | n + 1, e => by
    have a := sumK_nn fun k hk => e k (Nat.lt_succ_of_lt hk)
    have b := e n (Nat.lt_succ_self n)
    show 0 ≤ sumK h n + h n
    omega
/-! ### classes, turned back -/
def rot (m c k : Nat) : Nat := (((c : Int) - (k : Int)) % (m : Int)).toNat
section
variable {m : Nat}
theorem rot_int (hm : 0 < m) (c k : Nat) : ((rot m c k : Nat) : Int) = ((c : Int) - k) % m := Int.toNat_of_nonneg (Int.emod_nonneg _ (by omega))
theorem rot_lt (hm : 0 < m) (c k : Nat) : rot m c k < m := by
  have a := rot_int hm c k
  have b := Int.emod_lt_of_pos ((c : Int) - k) (show (0 : Int) < m by omega)
  omega
theorem emod_of {a b : Int} {q : Int} (h : a - b = m * q) : a % (m : Int) = b % m := by
  rw [show a = b + m * q by omega, Int.add_mul_emod_self_left]
/-- what is r modulo m -/
theorem rot_eq (hm : 0 < m) {c k r : Nat} {q : Int} (hr : r < m) (h : (c : Int) - k - r = m * q) : rot m c k = r := by
  have a := rot_int hm c k
  rw [emod_of h, Int.emod_eq_of_lt (by omega) (by omega)] at a
  omega
theorem div_mod (a : Int) (m : Nat) : a % (m : Int) = a - m * (a / m) := by
  have := Int.emod_add_mul_ediv a m
  omega
theorem rot_back (hm : 0 < m) {a k : Nat} (ha : a < m) : rot m ((a + k) % m) k = a := by
  refine rot_eq hm ha (q := -(((a + k : Nat) : Int) / m)) ?_
  have z := div_mod ((a + k : Nat) : Int) m
  rw [Int.natCast_emod, z, Int.mul_neg]
  omega
theorem reindex (hm : 0 < m) (f g : Nat → Int) (s : Nat) : sumK (fun b => f (rot m b s) * g b) m = sumK (fun a => f a * g ((a + s) % m)) m := by
  rw [← sumK_shift hm (fun b => f (rot m b s) * g b) s]
  exact sumK_congr fun a ha => by rw [rot_back hm ha]
theorem rot_per (hm : 0 < m) (c k : Nat) : rot m c (k + m) = rot m c k := by
  refine rot_eq hm (rot_lt hm _ _) (q := ((c : Int) - k) / m - 1) ?_
  rw [rot_int hm, div_mod]
  rw [Int.mul_sub, Int.mul_one]
  omega
theorem rot_zero (hm : 0 < m) {c : Nat} (hc : c < m) : rot m c 0 = c := rot_eq hm hc (q := 0) (by omega)
theorem rot_self (hm : 0 < m) {c : Nat} (hc : c < m) : rot m c m = c := rot_eq hm hc (q := -1) (by omega)
theorem rot_succ (hm : 0 < m) (c k : Nat) : rot m ((c + 1) % m) (k + 1) = rot m c k := by
  refine rot_eq hm (rot_lt hm _ _) (q := ((c : Int) - k) / m - ((c + 1 : Nat) : Int) / m) ?_
  rw [rot_int hm, div_mod, Int.natCast_emod, div_mod]
  rw [Int.mul_sub]
  omega
end
/-! ### what is begun again and again -/
def repF (m s t : Nat) (f : Nat → Int) (c : Nat) : Int := sumK (fun k => f (rot m c (k * s))) t
def mvF (m s : Nat) (f : Nat → Int) (c : Nat) : Int := f (rot m c s)
section
variable {m : Nat} {g : Nat → Int}
theorem sumK_per {h : Nat → Int} (L : Nat) (hp : ∀ k, h (k + L) = h k) (r : Nat) : ∀ q : Nat, sumK h (q * L + r) = q * sumK h L + sumK h r
  | 0 => by
    rw [Nat.zero_mul, Nat.zero_add]
    simp
  | q + 1 => by
    rw [show (q + 1) * L + r = L + (q * L + r) by rw [Nat.succ_mul]; omega, sumK_app, sumK_congr (h := h) (n := q * L + r) fun k _ => by rw [Nat.add_comm L k, hp], sumK_per L hp r q, Int.natCast_add, Int.add_mul]
    simp
    omega
/-- a window that moves on by one -/
theorem slide (hm : 0 < m) (r c : Nat) : sumK (fun k => g (rot m ((c + 1) % m) k)) r = sumK (fun k => g (rot m c k)) r + g ((c + 1) % m) - g (rot m ((c + 1) % m) r) := by
  have a := sumK_left (fun k => g (rot m ((c + 1) % m) k)) r
  have b : sumK (fun k => g (rot m ((c + 1) % m) k)) (r + 1) = sumK (fun k => g (rot m ((c + 1) % m) k)) r + g (rot m ((c + 1) % m) r) := rfl
  rw [sumK_congr (g := fun k => g (rot m ((c + 1) % m) (k + 1))) (h := fun k => g (rot m c k)) fun k _ => by rw [rot_succ hm]] at a
  rw [rot_zero hm (Nat.mod_lt _ hm)] at a
  omega
theorem win_all (hm : 0 < m) : ∀ c : Nat, c < m → sumK (fun k => g (rot m c k)) m = sumK g m
  | 0, _ => by
    have a := slide (g := g) hm m (m - 1)
    rw [show m - 1 + 1 = m by omega, Nat.mod_self, rot_self hm hm] at a
    have b : sumK (fun k => g (rot m (m - 1) k)) m = sumK g m := by
      rw [← sumK_rev g m]
      exact sumK_congr fun k hk => by rw [rot_eq hm (r := m - 1 - k) (q := 0) (by omega) (by omega)]
    omega
  | c + 1, hc => by
    have a := slide (g := g) hm m c
    rw [Nat.mod_eq_of_lt hc, rot_self hm hc, win_all hm c (by omega)] at a
    omega
theorem rep1 (hm : 0 < m) {c : Nat} (hc : c < m) (t : Nat) : repF m 1 t g c = (t / m : Nat) * sumK g m + sumK (fun k => g (rot m c k)) (t % m) := by
  unfold repF
  rw [sumK_congr (h := fun k => g (rot m c k)) fun k _ => by rw [Nat.mul_one]]
  have e : t = t / m * m + t % m := by rw [Nat.mul_comm]; exact (Nat.div_add_mod t m).symm
  conv => lhs; rw [e]
  rw [sumK_per m (fun k => by rw [rot_per hm]), win_all hm c hc]
/-- the last r of a ring -/
theorem tail_sum (hm : 0 < m) {r : Nat} (hr : r ≤ m) : sumK (fun k => g (m - r + k)) r = sumK (fun k => g (rot m (m - 1) k)) r := by
  rw [← sumK_rev (fun k => g (m - r + k)) r]
  exact sumK_congr fun k hk => by rw [rot_eq hm (r := m - 1 - k) (q := 0) (by omega) (by omega), show m - r + (r - 1 - k) = m - 1 - k by omega]
end
/-! ### cycles -/
theorem bezout (a b : Nat) : ∃ x y : Int, (a : Int) * x + b * y = (Nat.gcd a b : Nat) := by
  induction a, b using Nat.gcd.induction with
  | H0 b => exact ⟨0, 1, by simp⟩
  | H1 a b h ih =>
    obtain ⟨x, y, e⟩ := ih
    refine ⟨y - (b / a : Nat) * x, x, ?_⟩
    rw [Nat.gcd_rec, ← e]
    have z : ((b : Nat) : Int) = a * (b / a : Nat) + (b % a : Nat) := by
      have := Nat.div_add_mod b a
      rw [← Int.natCast_mul, ← Int.natCast_add, this]
    rw [Int.mul_sub]
    conv => lhs; rw [z]
    rw [Int.add_mul, Int.mul_assoc]
    omega
section
variable {m s : Nat} {f : Nat → Int}
theorem cyc_len (s m : Nat) : s * (m / Nat.gcd s m) = m * (s / Nat.gcd s m) := by
  obtain ⟨u, hu⟩ := Nat.gcd_dvd_left s m
  obtain ⟨v, hv⟩ := Nat.gcd_dvd_right s m
  by_cases h : Nat.gcd s m = 0
  · rw [h]
    simp
  · have h : 0 < Nat.gcd s m := Nat.pos_of_ne_zero h
    rw [Nat.div_eq_of_eq_mul_right h hv, Nat.div_eq_of_eq_mul_right h hu]
    have gen : ∀ g : Nat, s = g * u → m = g * v → s * v = m * u := fun g h1 h2 => by
      rw [h1, h2, Nat.mul_assoc, Nat.mul_assoc, Nat.mul_comm u v]
    exact gen _ hu hv
theorem cyc_lenI (s m : Nat) : (s : Int) * (m / Nat.gcd s m : Nat) = m * (s / Nat.gcd s m : Nat) := by
  rw [← Int.natCast_mul, cyc_len, Int.natCast_mul]
theorem cyc_pos (hm : 0 < m) : 0 < Nat.gcd s m ∧ 0 < m / Nat.gcd s m ∧ Nat.gcd s m ≤ m ∧ m / Nat.gcd s m ≤ m := by
  have h : 0 < Nat.gcd s m := Nat.gcd_pos_of_pos_right s hm
  exact ⟨h, Nat.div_pos (Nat.le_of_dvd hm (Nat.gcd_dvd_right s m)) h, Nat.le_of_dvd hm (Nat.gcd_dvd_right s m), Nat.div_le_self _ _⟩
/-- steps within a cycle are steps of classes -/
theorem cyc_rot (hm : 0 < m) (first at' k : Nat) : (first + s * rot (m / Nat.gcd s m) at' k) % m = rot m ((first + s * at') % m) (k * s) := by
  obtain ⟨_, hL, _, _⟩ := cyc_pos (s := s) hm
  refine (rot_eq hm (Nat.mod_lt _ hm) (q := ((first + s * rot (m / Nat.gcd s m) at' k : Nat) : Int) / m - ((first + s * at' : Nat) : Int) / m + (s / Nat.gcd s m : Nat) * (((at' : Int) - k) / (m / Nat.gcd s m : Nat))) ?_).symm
  have hl := cyc_len s m
  have e1 := rot_int hL at' k
  rw [div_mod] at e1
  have z : (s : Int) * rot (m / Nat.gcd s m) at' k = s * at' - s * k - m * ((s / Nat.gcd s m : Nat) * (((at' : Int) - k) / (m / Nat.gcd s m : Nat))) := by
    rw [e1, Int.mul_sub, Int.mul_sub, ← Int.mul_assoc (s : Int) ((m / Nat.gcd s m : Nat) : Int), cyc_lenI, Int.mul_assoc]
  rw [Int.natCast_emod, Int.natCast_emod, div_mod, div_mod, Int.mul_add, Int.mul_sub]
  simp only [Int.natCast_add, Int.natCast_mul]
  rw [z, Int.mul_comm (k : Int) s]
  omega
theorem cyc_all (hm : 0 < m) {c : Nat} (hc : c < m) : ∃ first at', first < Nat.gcd s m ∧ at' < m / Nat.gcd s m ∧ (first + s * at') % m = c := by
  obtain ⟨hg, hL, _, _⟩ := cyc_pos (s := s) hm
  obtain ⟨x, y, e⟩ := bezout s m
  have hl := cyc_len s m
  refine ⟨c % Nat.gcd s m, ((x * (c / Nat.gcd s m : Nat)) % (m / Nat.gcd s m : Nat)).toNat, Nat.mod_lt _ hg, ?_, ?_⟩
  · have a := Int.emod_lt_of_pos (x * (c / Nat.gcd s m : Nat)) (show (0 : Int) < (m / Nat.gcd s m : Nat) by omega)
    have b := Int.emod_nonneg (x * (c / Nat.gcd s m : Nat)) (show ((m / Nat.gcd s m : Nat) : Int) ≠ 0 by omega)
    omega
  · have b := Int.emod_nonneg (x * (c / Nat.gcd s m : Nat)) (show ((m / Nat.gcd s m : Nat) : Int) ≠ 0 by omega)
    have cd : ((c : Nat) : Int) = (Nat.gcd s m : Nat) * (c / Nat.gcd s m : Nat) + (c % Nat.gcd s m : Nat) := by
      have := Nat.div_add_mod c (Nat.gcd s m)
      rw [← Int.natCast_mul, ← Int.natCast_add, this]
    have key : (((c % Nat.gcd s m + s * ((x * (c / Nat.gcd s m : Nat)) % (m / Nat.gcd s m : Nat)).toNat : Nat) : Int)) % m = c := by
      rw [show ((c : Nat) : Int) = ((c : Nat) : Int) % m from (Int.emod_eq_of_lt (by omega) (by omega)).symm]
      refine emod_of (q := -(y * (c / Nat.gcd s m : Nat)) - (s / Nat.gcd s m : Nat) * (x * (c / Nat.gcd s m : Nat) / (m / Nat.gcd s m : Nat))) ?_
      rw [Int.natCast_add, Int.natCast_mul, Int.toNat_of_nonneg b, div_mod, Int.mul_sub, ← Int.mul_assoc (s : Int) x, ← Int.mul_assoc (s : Int) ((m / Nat.gcd s m : Nat) : Int), cyc_lenI]
      have e2 : (s : Int) * x = (Nat.gcd s m : Nat) - m * y := by omega
      rw [e2, Int.sub_mul, Int.mul_sub, Int.mul_neg]
      rw [Int.mul_assoc (m : Int), Int.mul_assoc (m : Int)]
      omega
    omega
end
/-! ### ticks by class -/
/-- the ticks of line n in class c, the first tick being o -/
def cf (n : Str) (m c : Nat) : List Str → Nat → Int
  | [], _ => 0
  | x :: l, o => (if x = n ∧ o % m = c then 1 else 0) + cf n m c l (o + 1)
section
variable {n : Str} {m c : Nat}
theorem cf_app : ∀ (l k : List Str) (o : Nat), cf n m c (l ++ k) o = cf n m c l o + cf n m c k (o + l.length)
  | [], k, o => by
    show cf n m c k o = 0 + cf n m c k (o + 0)
    rw [Nat.add_zero]
    omega
  | x :: l, k, o => by
    show _ + cf n m c (l ++ k) (o + 1) = (_ + cf n m c l (o + 1)) + cf n m c k (o + (l.length + 1))
    rw [cf_app l k (o + 1), show o + 1 + l.length = o + (l.length + 1) by omega]
    omega
theorem cf_mod : ∀ (l : List Str) {o o' : Nat}, o % m = o' % m → cf n m c l o = cf n m c l o'
  | [], _, _, _ => rfl
  | x :: l, o, o', h => by
    show (if x = n ∧ o % m = c then 1 else 0) + cf n m c l (o + 1) = (if x = n ∧ o' % m = c then 1 else 0) + cf n m c l (o' + 1)
    rw [h, cf_mod l (o := o + 1) (o' := o' + 1) (by rw [Nat.add_mod, h, ← Nat.add_mod])]
theorem cf_nn : ∀ (l : List Str) (o : Nat), 0 ≤ cf n m c l o ∧ cf n m c l o ≤ l.length
  | [], _ => ⟨Int.le_refl 0, Int.le_refl 0⟩
  | x :: l, o => by
    have h := cf_nn l (o + 1)
    show 0 ≤ (if x = n ∧ o % m = c then 1 else 0) + cf n m c l (o + 1) ∧ (if x = n ∧ o % m = c then 1 else 0) + cf n m c l (o + 1) ≤ ((l.length + 1 : Nat) : Int)
    split <;> omega
theorem cf_flat (l : List Str) (o : Nat) : ∀ r : Nat, cf n m c (List.replicate r l).flatten o = sumK (fun k => cf n m c l (o + k * l.length)) r
  | 0 => rfl
  | r + 1 => by
    rw [List.replicate_succ', List.flatten_append, cf_app, cf_flat l o r, flat_len]
    show _ + cf n m c (l ++ []) _ = sumK _ r + _
    rw [List.append_nil]
end
mutual
def It.cols (m : Nat) : It → (Nat → Int) → List (Str × (Nat → Int))
  | .line x t, f => [(x, repF m 1 t.toNat f)]
  | .loop r js, f => Its.cols m js (repF m (Its.w js).length r.toNat f)
def Its.cols (m : Nat) : List It → (Nat → Int) → List (Str × (Nat → Int))
  | [], _ => []
  | i :: is, f => It.cols m i f ++ Its.cols m is (mvF m (It.w i).length f)
end
def colS (n : Str) (c : Nat) : List (Str × (Nat → Int)) → Int
  | [] => 0
  | p :: ps => (if p.1 = n then p.2 c else 0) + colS n c ps
theorem colS_app {n : Str} {c : Nat} : ∀ ps qs : List (Str × (Nat → Int)), colS n c (ps ++ qs) = colS n c ps + colS n c qs
  | [], qs => by
    show colS n c qs = 0 + _
    omega
  | p :: ps, qs => by
    show _ + colS n c (ps ++ qs) = (_ + colS n c ps) + _
    rw [colS_app ps qs]
    omega
theorem cf_line {n x : Str} {m c : Nat} (hm : 0 < m) (hc : c < m) (f : Nat → Int) : ∀ t : Nat, sumK (fun a => f a * cf n m c (List.replicate t x) a) m = if x = n then repF m 1 t f c else 0
  | 0 => by
    have : sumK (fun a => f a * cf n m c (List.replicate 0 x) a) m = 0 := by
      rw [sumK_congr (h := fun _ => 0) fun a _ => by show f a * 0 = 0; omega, sumK_zero]
    rw [this]
    split <;> rfl
  | t + 1 => by
    have step : ∀ a, cf n m c (List.replicate (t + 1) x) a = cf n m c (List.replicate t x) a + (if x = n ∧ (a + t) % m = c then 1 else 0) := fun a => by
      rw [List.replicate_succ', cf_app, List.length_replicate]
      show _ + ((if x = n ∧ (a + t) % m = c then 1 else 0) + 0) = _
      omega
    rw [sumK_congr (h := fun a => f a * cf n m c (List.replicate t x) a + f a * (if x = n ∧ (a + t) % m = c then 1 else 0)) fun a _ => by rw [step a, Int.mul_add], sumK_plus, cf_line hm hc f t]
    by_cases e : x = n
    · rw [if_pos e, if_pos e]
      have z := reindex hm f (fun b => if b = c then 1 else 0) t
      rw [sumK_pick (m := m) (fun b => f (rot m b t)) hc] at z
      rw [sumK_congr (h := fun a => f a * (if (a + t) % m = c then 1 else 0)) fun a _ => by simp [e], ← z]
      show repF m 1 t f c + _ = repF m 1 t f c + f (rot m c (t * 1))
      rw [Nat.mul_one]
    · rw [if_neg e, if_neg e, sumK_congr (h := fun _ => 0) fun a _ => by rw [if_neg (by simp [e]), Int.mul_zero], sumK_zero]
      rfl
mutual
theorem It.cols_cf {n : Str} {m c : Nat} (hm : 0 < m) (hc : c < m) : ∀ (i : It) (f : Nat → Int), It.nn i → colS n c (It.cols m i f) = sumK (fun a => f a * cf n m c (It.w i) a) m
  | .line x t, f, _ => by
    rw [It.cols, It.w, cf_line hm hc]
    show (if x = n then repF m 1 t.toNat f c else 0) + 0 = _
    omega
  | .loop r js, f, h => by
    rw [It.nn] at h
    rw [It.cols, It.w, Its.cols_cf hm hc js _ h.2]
    rw [sumK_congr (h := fun b => sumK (fun k => f (rot m b (k * (Its.w js).length)) * cf n m c (Its.w js) b) r.toNat) fun b _ => by
      show sumK _ _ * _ = _
      rw [sumK_mulR], sumK_swap]
    rw [sumK_congr (h := fun k => sumK (fun a => f a * cf n m c (Its.w js) (a + k * (Its.w js).length)) m) fun k _ => by
      rw [reindex hm f (fun b => cf n m c (Its.w js) b) (k * (Its.w js).length)]
      exact sumK_congr fun a _ => by rw [cf_mod (Its.w js) (o := (a + k * (Its.w js).length) % m) (o' := a + k * (Its.w js).length) (Nat.mod_mod _ _)]]
    rw [sumK_swap]
    exact sumK_congr fun a _ => by rw [sumK_mul, cf_flat]
theorem Its.cols_cf {n : Str} {m c : Nat} (hm : 0 < m) (hc : c < m) : ∀ (is : List It) (f : Nat → Int), Its.nn is → colS n c (Its.cols m is f) = sumK (fun a => f a * cf n m c (Its.w is) a) m
  | [], f, _ => by
    rw [Its.cols, Its.w]
    show 0 = sumK (fun a => f a * 0) m
    rw [sumK_congr (h := fun _ => 0) fun a _ => Int.mul_zero _, sumK_zero]
  | i :: is, f, h => by
    rw [Its.nn] at h
    rw [Its.cols, Its.w, colS_app, It.cols_cf hm hc i f h.1, Its.cols_cf hm hc is _ h.2]
    rw [show sumK (fun a => mvF m (It.w i).length f a * cf n m c (Its.w is) a) m = sumK (fun a => f a * cf n m c (Its.w is) (a + (It.w i).length)) m from (reindex hm f (fun b => cf n m c (Its.w is) b) (It.w i).length).trans
      (sumK_congr fun a _ => by rw [cf_mod (Its.w is) (o := (a + (It.w i).length) % m) (o' := a + (It.w i).length) (Nat.mod_mod _ _)])]
    rw [← sumK_plus]
    exact sumK_congr fun a _ => by rw [cf_app, Int.mul_add]
end
/-- one start, at tick 0 -/
def one0 (a : Nat) : Int := if a = 0 then 1 else 0
theorem cols_one {n : Str} {m c : Nat} (hm : 0 < m) (hc : c < m) {is : List It} (h : Its.nn is) : colS n c (Its.cols m is one0) = cf n m c (Its.w is) 0 := by
  rw [Its.cols_cf hm hc is _ h, sumK_congr (g := fun a => one0 a * cf n m c (Its.w is) a) (h := fun b => cf n m c (Its.w is) b * (if b = 0 then 1 else 0)) fun b _ => Int.mul_comm _ _]
  exact sumK_pick (m := m) (fun b => cf n m c (Its.w is) b) hm
end Ev

/-! ## Lists of numbers by place -/
namespace Ev
open PySem PySem.Spec PyProof.Rows L2
theorem divp_by {i j : Int} {n : Nat} (hj : 0 < j) (h : i.natAbs < 2 ^ n) (hn : n ≤ 4000) : CDivP i j :=
  divp_ok hj (Nat.le_trans (PyProof.Rows.intBits_le h) (by omega))
def LI (m : Nat) (f : Nat → Int) : List V := (List.range m).map fun c => V.int (f c)
section
variable {m : Nat} {f g : Nat → Int}
theorem LI_len : (LI m f).length = m := by
  unfold LI
  rw [List.length_map, List.length_range]
theorem LI_get {c : Nat} (h : c < m) : (LI m f)[c]? = some (.int (f c)) := by
  unfold LI
  rw [List.getElem?_map, List.getElem?_range h]
  rfl
theorem LI_ints : LI m f = ((List.range m).map f).map V.int := by
  unfold LI
  rw [List.map_map]
  rfl
theorem LI_congr (e : ∀ c, c < m → f c = g c) : LI m f = LI m g := by
  unfold LI
  exact List.map_congr_left fun c hc => by rw [e c (List.mem_range.mp hc)]
theorem LI_succ : LI (m + 1) f = LI m f ++ [.int (f m)] := by
  unfold LI
  rw [List.range_succ, List.map_append]
  rfl
theorem LI_ext {xs : List V} (hl : xs.length = m) (h : ∀ c, c < m → xs[c]? = some (.int (f c))) : xs = LI m f := by
  apply List.ext_getElem?
  intro c
  by_cases hc : c < m
  · rw [h c hc, LI_get hc]
  · rw [List.getElem?_eq_none (by omega), List.getElem?_eq_none (by rw [LI_len]; omega)]
theorem range_sum (f : Nat → Int) : ∀ m : Nat, ((List.range m).map f).sum = sumK f m
  | 0 => rfl
  | m + 1 => by
    rw [List.range_succ, List.map_append, List.sum_append, range_sum f m]
    show _ + (f m + 0) = _ + _
    omega
theorem LI_at {c : Nat} (h : c < m) : atI (LI m f) (c : Nat) = some (.int (f c)) := atI_of (LI_get h)
/-- from the end -/
theorem LI_neg {c : Nat} (h0 : 0 < c) (h : c ≤ m) : atI (LI m f) (-(c : Int)) = some (.int (f (m - c))) := by
  have e : ixN (LI m f).length (-(c : Int)) = some (m - c) := by
    unfold ixN
    rw [LI_len, if_neg (by omega), if_pos (by omega)]
    congr 1
    omega
  unfold atI
  rw [e]
  exact LI_get (by omega)
theorem ixN_nat {n c : Nat} (h : c < n) : ixN n (c : Nat) = some c := by
  unfold ixN
  rw [if_pos (by omega), if_pos (by omega)]
  rfl
theorem cutV_from (xs : List V) (i : Nat) : cutV xs (some (i : Nat)) none = xs.drop i := by
  unfold cutV
  rw [HT.sIx_none, HT.sIx_nat]
  by_cases h : i ≤ xs.length
  · rw [Nat.min_eq_left h, List.take_of_length_le (by rw [List.length_drop]; exact Nat.le_refl _)]
  · rw [Nat.min_eq_right (by omega), List.drop_of_length_le (Nat.le_refl _), List.drop_of_length_le (by omega), List.take_nil]
theorem cutV_to (xs : List V) (i : Nat) : cutV xs none (some (i : Nat)) = xs.take i := by
  unfold cutV
  rw [HT.sIx_none, HT.sIx_nat, List.drop_zero, Nat.sub_zero]
  by_cases h : i ≤ xs.length
  · rw [Nat.min_eq_left h]
  · rw [Nat.min_eq_right (by omega), List.take_of_length_le (by omega), List.take_of_length_le (by omega)]
theorem LI_drop {r : Nat} (h : r ≤ m) : (LI m f).drop r = LI (m - r) fun k => f (r + k) := by
  refine LI_ext (by rw [List.length_drop, LI_len]) fun c hc => ?_
  rw [List.getElem?_drop, LI_get (by omega)]
/-- starts that are moved on -/
theorem LI_moved (hm : 0 < m) (s : Nat) {cut : Nat} (hc : (cut : Int) = (-(s : Int)) % m) : (LI m f).drop cut ++ (LI m f).take cut = LI m (mvF m s f) := by
  have c1 := Int.emod_lt_of_pos (-(s : Int)) (show (0 : Int) < m by omega)
  have z := div_mod (-(s : Int)) m
  refine LI_ext (by rw [List.length_append, List.length_drop, List.length_take, LI_len]; omega) fun c hcm => ?_
  unfold mvF
  by_cases h : c < m - cut
  · rw [List.getElem?_append_left (by rw [List.length_drop, LI_len]; exact h), List.getElem?_drop, LI_get (by omega), rot_eq hm (r := cut + c) (q := (-(s : Int)) / m) (by omega) (by omega)]
  · rw [List.getElem?_append_right (by rw [List.length_drop, LI_len]; omega), List.length_drop, LI_len, List.getElem?_take_of_lt (by omega), LI_get (by omega), rot_eq hm (r := c - (m - cut)) (q := (-(s : Int)) / m + 1) (by omega) ?_]
    rw [Int.mul_add, Int.mul_one]
    omega
end
theorem LI_set {m c : Nat} {f : Nat → Int} {v : Int} (h : c < m) : (LI m f).set c (.int v) = LI m fun x => if x = c then v else f x := by
  refine LI_ext (by rw [List.length_set, LI_len]) fun x hx => ?_
  by_cases e : x = c
  · subst e
    rw [List.getElem?_set_self (by rw [LI_len]; exact h), if_pos rfl]
  · rw [List.getElem?_set_ne (fun z => e z.symm), LI_get hx, if_neg e]
theorem LI_zero (m : Nat) : (List.replicate m [V.int 0]).flatten = LI m fun _ => 0 := by
  refine LI_ext ?_ fun c hc => ?_
  · induction m with
    | zero => rfl
    | succ m ih => rw [List.replicate_succ, List.flatten_cons, List.length_append, ih]; show 1 + m = m + 1; omega
  · have e : ∀ m : Nat, (List.replicate m [V.int 0]).flatten = List.replicate m (V.int 0) := fun m => by
      induction m with
      | zero => rfl
      | succ m ih => rw [List.replicate_succ, List.flatten_cons, ih]; rfl
    rw [e, List.getElem?_replicate, if_pos hc]
/-- one turned back, by a place that may be below 0 -/
theorem LI_back {m i r : Nat} {f : Nat → Int} (hi : i < m) (hr : r < m) : atI (LI m f) ((i : Int) - (r : Int)) = some (.int (f (rot m i r))) := by
  by_cases h : r ≤ i
  · rw [show (i : Int) - r = ((i - r : Nat) : Int) by omega, LI_at (by omega), rot_eq (by omega) (r := i - r) (q := 0) (by omega) (by omega)]
  · rw [show (i : Int) - r = -((r - i : Nat) : Int) by omega, LI_neg (by omega) (by omega), rot_eq (by omega) (r := m - (r - i)) (q := -1) (by omega) (by omega)]
theorem none_of {H H' : Hp} {p : Addr} (s : Same H H') (n : H' p = none) : H p = none := by
  cases e : H p with
  | none => rfl
  | some o =>
    rw [s _ _ e] at n
    cases n
/-- [elt for i in range(n)], the elements plain values -/
theorem g_lcR1 {H0 : Hp} {σ : L2.St} {te : TE} {ys : List V} {ta : TA} {n : Nat} {g : TG} {vs : List Nat} (hta : ∀ (H : Hp) (Q : List V → Hp → Prop), Same H0 H → Q [.int (n : Nat)] H → ta σ H Q) (hz : n ≤ 1000000) (hl : ys.length = n)
    (he : ∀ (j : Nat) (y : V), ys[j]? = some y → ∀ (H : Hp) (R : VK), Same H0 H → (∀ H', Same H H' → R y H') → g (.int (0 + j)) (wipe σ vs) H fun σ2 H2 => wipe σ2 vs = wipe σ vs ∧ te σ2 H2 R) :
    Gives H0 (tLc (iRng1 ta) g tYes te vs) (gLst (ys.map gEq)) σ := fun H Q s q => by
  refine hta H _ s ⟨(n : Nat), rfl, by omega, by omega, fun D nD => ?_⟩
  have y := sizeLine_eq
  rw [Int.toNat_natCast]
  refine lc_range (lo := 0) (n := n) (fun k H' => Same H H' ∧ H' D = some (.lst (ys.take k))) ⟨same_put nD, upd_same⟩ ?_ ?_
  · rintro k H' hk ⟨s', eD⟩
    have hk' : k < ys.length := by omega
    have hy := List.getElem?_eq_getElem hk'
    refine cast ?_ (he k ys[k] hy H' (fun y H4 => ∃ acc, H4 D = some (.lst acc) ∧ acc.length < sizeLine ∧ Same H (upd H4 D (.lst (acc ++ [y]))) ∧ upd H4 D (.lst (acc ++ [y])) D = some (.lst (ys.take (k + 1)))) (s.trans s') fun H4 s4 => ⟨_, s4 _ _ eD, ?_, ?_, ?_⟩)
    · rfl
    · rw [List.length_take]
      omega
    · intro b o e
      rw [upd_ne (ne_of_none e nD)]
      exact s4 _ _ (s' _ _ e)
    · rw [upd_same, List.take_add_one, hy]
      rfl
  · rintro H' ⟨s', eD⟩
    rw [← hl, List.take_length] at eD
    exact q H' _ s' ⟨D, ys, rfl, eD, allEq⟩
theorem s_asg {te : TE} {i : Nat} {rest : TS} {D : Ends} {σ : L2.St} {H : Hp} (h : te σ H fun u H' => rest D (σ.set i (some u)) H') : tSeq (tAsg te (gName i)) rest D σ H := h
theorem s_call {sp : Sp} {te : TE} {ta : TA} {i : Nat} {rest : TS} {D : Ends} {σ : L2.St} {H : Hp} (h : te σ H fun u H1 => ta σ H1 fun us H2 => sp (u :: us ++ []) H2 (fun v H' => rest D (σ.set i (some v)) H') E0) : tSeq (tAsg (tCall sp [] E0 (tCons te ta)) (gName i)) rest D σ H := h
/-- the same, the list being new -/
theorem lc_rng {σ : L2.St} {H : Hp} {Q : VK} {te : TE} {ys : List V} {ta : TA} {n : Nat} {g : TG} {vs : List Nat} (hta : ∀ (Q : List V → Hp → Prop), Q [.int (n : Nat)] H → ta σ H Q) (hz : n ≤ 1000000) (hl : ys.length = n)
    (he : ∀ (j : Nat) (y : V), ys[j]? = some y → ∀ (H' : Hp) (R : VK), Same H H' → (∀ H'', Same H' H'' → R y H'') → g (.int (0 + j)) (wipe σ vs) H' fun σ2 H2 => wipe σ2 vs = wipe σ vs ∧ te σ2 H2 R)
    (q : ∀ H' D, Same H H' → H D = none → H' D = some (.lst ys) → Q (.ref D) H') : tLc (iRng1 ta) g tYes te vs σ H Q := by
  refine hta _ ⟨(n : Nat), rfl, by omega, by omega, fun D nD => ?_⟩
  have y := sizeLine_eq
  rw [Int.toNat_natCast]
  refine lc_range (lo := 0) (n := n) (fun k H' => Same H H' ∧ H' D = some (.lst (ys.take k))) ⟨same_put nD, upd_same⟩ ?_ ?_
  · rintro k H' hk ⟨s', eD⟩
    have hk' : k < ys.length := by omega
    have hy := List.getElem?_eq_getElem hk'
    refine cast ?_ (he k ys[k] hy H' (fun y H4 => ∃ acc, H4 D = some (.lst acc) ∧ acc.length < sizeLine ∧ Same H (upd H4 D (.lst (acc ++ [y]))) ∧ upd H4 D (.lst (acc ++ [y])) D = some (.lst (ys.take (k + 1)))) s' fun H4 s4 => ⟨_, s4 _ _ eD, ?_, ?_, ?_⟩)
    · rfl
    · rw [List.length_take]
      omega
    · intro b o e
      rw [upd_ne (ne_of_none e nD)]
      exact s4 _ _ (s' _ _ e)
    · rw [upd_same, List.take_add_one, hy]
      rfl
  · rintro H' ⟨s', eD⟩
    rw [← hl, List.take_length] at eD
    exact q H' D s' nD eD
/-- [elt for x in a list], the elements plain values, the list new -/
theorem lc_lst {K : PySem.W.Frag} {σ : L2.St} {H : Hp} {Q : VK} {te ti : TE} {a : Addr} {xs ys : List V} {g : TG} {vs : List Nat} (hi : ∀ Q : VK, Q (.ref a) H → ti σ H Q) (hx : SqL K H a xs) (hz : xs.length ≤ 1000000) (hl : ys.length = xs.length)
    (he : ∀ (j : Nat) (x y : V), xs[j]? = some x → ys[j]? = some y → ∀ (H' : Hp) (R : VK), Same H H' → (∀ H'', Same H' H'' → R y H'') → g x (wipe σ vs) H' fun σ2 H2 => wipe σ2 vs = wipe σ vs ∧ te σ2 H2 R)
    (q : ∀ H' D, Same H H' → H D = none → H' D = some (.lst ys) → Q (.ref D) H') : tLc (iList K ti) g tYes te vs σ H Q := by
  refine hi _ ⟨a, rfl, ⟨xs, hx⟩, fun D nD => ?_⟩
  have y := sizeLine_eq
  refine lc_list (K := K) (a := a) (xs := xs) (fun k H' => Same H H' ∧ H' D = some (.lst (ys.take k))) ⟨same_put nD, upd_same⟩ (fun k H' _ ⟨s', _⟩ => s'.seq hx) ?_ ?_
  · rintro k x H' hk ⟨s', eD⟩
    have hk' : k < ys.length := by
      obtain ⟨h, _⟩ := List.getElem?_eq_some_iff.mp hk
      omega
    have hy := List.getElem?_eq_getElem hk'
    refine cast ?_ (he k x ys[k] hk hy H' (fun y H4 => ∃ acc, H4 D = some (.lst acc) ∧ acc.length < sizeLine ∧ Same H (upd H4 D (.lst (acc ++ [y]))) ∧ upd H4 D (.lst (acc ++ [y])) D = some (.lst (ys.take (k + 1)))) s' fun H4 s4 => ⟨_, s4 _ _ eD, ?_, ?_, ?_⟩)
    · rfl
    · rw [List.length_take]
      omega
    · intro b o e
      rw [upd_ne (ne_of_none e nD)]
      exact s4 _ _ (s' _ _ e)
    · rw [upd_same, List.take_add_one, hy]
      rfl
  · rintro H' ⟨s', eD⟩
    rw [← hl, List.take_length] at eD
    exact q H' D s' nD eD
/-! ### how great the numbers are -/
def Bd (R m : Nat) (f : Nat → Int) : Prop := ∀ c, c < m → (f c).natAbs < 2 ^ R
theorem sum_bd {h : Nat → Int} {R n B : Nat} (hb : ∀ k, k < n → (h k).natAbs < 2 ^ R) (hn : n < 2 ^ B) : (sumK h n).natAbs < 2 ^ (R + B) := by
  have a := sumK_le (M := (2 ^ R : Nat)) (h := h) (n := n) fun k hk => by
    have := hb k hk
    omega
  have b : n * 2 ^ R < 2 ^ B * 2 ^ R := Nat.mul_lt_mul_of_pos_right hn (Nat.pos_of_ne_zero (by simp))
  rw [← Int.natCast_mul] at a
  rw [Nat.add_comm, Nat.pow_add]
  omega
theorem bd_rep {R B m s t : Nat} {f : Nat → Int} (hm : 0 < m) (hf : Bd R m f) (ht : t < 2 ^ B) : Bd (R + B) m (repF m s t f) := fun _ _ => sum_bd (fun _ _ => hf _ (rot_lt hm _ _)) ht
theorem bd_mv {R m s : Nat} {f : Nat → Int} (hm : 0 < m) (hf : Bd R m f) : Bd R m (mvF m s f) := fun _ _ => hf _ (rot_lt hm _ _)
theorem Bd.up {R R' m : Nat} {f : Nat → Int} (hf : Bd R m f) (h : R ≤ R') : Bd R' m f := fun c hc => Nat.lt_of_lt_of_le (hf c hc) (Nat.pow_le_pow_right (by decide) h)
end Ev

/-! ## common_divisor, window_sums, repeated -/
namespace Ev
open PySem PySem.Spec PyProof.Rows L2
theorem scCd : FnScope ["one", "other"] ["one", "other"] (defScope (topS 1)) := ⟨rfl, rfl, rfl, by decide +kernel, rfl, by decide +kernel, by decide +kernel⟩
def spGcd : Sp := fun vs H Q _ => ∃ a b : Nat, vs = [.int (a : Nat), .int (b : Nat)] ∧ Q (.int (Nat.gcd a b : Nat)) H
section
variable {P : Program} {w : World} {K : PySem.W.Frag} {mg : Str → Option Value} {base : Heap}
theorem ok_gcd (D : Def K mg "common_divisor" (topS 1) ["one", "other"]) (nb : NB mg) : Cal P w K mg base 1 "common_divisor" ["one", "other"] spGcd := by
  refine D.ok scCd (fun vs H Q E h => ?_) (fun f cdv A outer s H vs Q E hr gd h => ?_)
  · obtain ⟨a, b, rfl, _⟩ := h
    rfl
  · obtain ⟨a, b, rfl, q⟩ := h
    refine ⟨_, (pss_cons (ps_while PassesOwn.never (pt_cmpR op_ne (pv 1) pe_int (nomark _))
        (pss_one (ps_par (i := 0) (j := 1) rfl scCd.nd rfl rfl (by decide) rfl rfl (pa_cons (pv 1) (pa_cons (pe_op op_mod (pv 0) (pv 1)) pa_nil)) (by rfl))))
      (pss_one (ps_ret (pv 0)))), ?_⟩
    refine while_w (fun m σ' H' => ∃ x : Nat, σ' = [some (.int (x : Nat)), some (.int (m : Nat))] ∧ H' = H ∧ Nat.gcd x m = Nat.gcd a b) ⟨b, a, rfl, rfl, rfl⟩ ?_ ?_
    · rintro m σ' H' ⟨x, rfl, rfl, e⟩
      refine ⟨_, rfl, rfl, _, rfl, ?_⟩
      by_cases hm : m = 0
      · subst hm
        rw [show (!decide (V.int ((0 : Nat) : Int) = V.int 0)) = false by rw [show decide (V.int ((0 : Nat) : Int) = V.int 0) = true from decide_eq_true rfl]; rfl]
        refine iteF ⟨_, rfl, ?_⟩
        rw [Nat.gcd_zero_right] at e
        rw [e]
        exact q
      · rw [show (!decide (V.int (m : Int) = V.int 0)) = true by
          rw [decide_eq_false fun z => hm (by have := V.int.inj z; omega)]
          rfl]
        refine iteT ⟨_, rfl, _, rfl, _, rfl, _, _, rfl, rfl, (show (0 : Int) < m by omega), _, _, rfl, x % m, Nat.mod_lt _ (by omega), m, by
          show [some (V.int (m : Nat)), some (V.int ((x : Int) % (m : Int)))] = _
          rw [← Int.natCast_emod], rfl, ?_⟩
        rw [← e, Nat.gcd_comm x m, Nat.gcd_rec m x, Nat.gcd_comm]
    · rintro σ' H' Q1 Q2 hQ ⟨v, hv, e1, k, ek, h⟩
      exact ⟨v, hv, e1, k, ek, hQ _ _ h⟩
end
end Ev

/-! ## Classes of integers that cover each integer once -/
namespace Ev
/-- a class: its period and its start -/
abbrev Cls2 := Nat × Nat
def hitB (t : Nat) (e : Cls2) : Bool := decide (t % e.1 = e.2)
def meetB (a b : Cls2) : Bool := decide ((((a.2 : Nat) : Int) - ((b.2 : Nat) : Int)) % ((Nat.gcd a.1 b.1 : Nat) : Int) = 0)
def prodP (S : List Cls2) : Nat := S.foldl (fun w e => w * e.1) 1
def lcmP (S : List Cls2) : Nat := S.foldl (fun w e => w / Nat.gcd w e.1 * e.1) 1
def sumW (W : Nat) (S : List Cls2) : Nat := (S.map fun e => W / e.1).sum
def noMeet (S : List Cls2) : Prop := S.Pairwise fun a b => meetB b a = false
instance (S : List Cls2) : Decidable (noMeet S) := by unfold noMeet; infer_instance
def exB (S : List Cls2) : Bool := decide (noMeet S) && decide (sumW (prodP S) S = prodP S)
def hits (S : List Cls2) (t : Nat) : Nat := (S.filter (hitB t)).length
def dueB (S : List Cls2) : Bool := (List.range (lcmP S)).all fun t => decide (hits S t = 1)
structure Cl2 (S : List Cls2) : Prop where
  pos : ∀ e ∈ S, 0 < e.1
  lt : ∀ e ∈ S, e.2 < e.1
/-! ### products and multiples -/
theorem prodP_go : ∀ (S : List Cls2) (w : Nat), 0 < w → (∀ e ∈ S, 0 < e.1) → 0 < S.foldl (fun w e => w * e.1) w ∧ w ∣ S.foldl (fun w e => w * e.1) w ∧ ∀ e ∈ S, e.1 ∣ S.foldl (fun w e => w * e.1) w
  | [], w, h, _ => ⟨h, Nat.dvd_refl _, fun _ h => absurd h List.not_mem_nil⟩
  | e :: S, w, h, hp => by
    obtain ⟨a, b, c⟩ := prodP_go S (w * e.1) (Nat.mul_pos h (hp e (List.mem_cons_self ..))) fun x hx => hp x (List.mem_cons_of_mem _ hx)
    refine ⟨a, Nat.dvd_trans (Nat.dvd_mul_right _ _) b, fun x hx => ?_⟩
    rcases List.mem_cons.mp hx with rfl | hx
    · exact Nat.dvd_trans (Nat.dvd_mul_left _ _) b
    · exact c x hx
theorem lcmP_go : ∀ (S : List Cls2) (w : Nat), 0 < w → (∀ e ∈ S, 0 < e.1) → 0 < S.foldl (fun w e => w / Nat.gcd w e.1 * e.1) w ∧ w ∣ S.foldl (fun w e => w / Nat.gcd w e.1 * e.1) w ∧ (∀ e ∈ S, e.1 ∣ S.foldl (fun w e => w / Nat.gcd w e.1 * e.1) w) ∧
    ∀ M, w ∣ M → (∀ e ∈ S, e.1 ∣ M) → S.foldl (fun w e => w / Nat.gcd w e.1 * e.1) w ∣ M
  | [], w, h, _ => ⟨h, Nat.dvd_refl _, fun _ h => absurd h List.not_mem_nil, fun M hM _ => hM⟩
  | e :: S, w, h, hp => by
    have he := hp e (List.mem_cons_self ..)
    have e1 : w / Nat.gcd w e.1 * e.1 = Nat.lcm w e.1 := by
      unfold Nat.lcm
      rw [Nat.mul_comm, ← Nat.mul_div_assoc _ (Nat.gcd_dvd_left _ _), Nat.mul_comm]
    have hl : 0 < Nat.lcm w e.1 := Nat.lcm_pos h he
    obtain ⟨a, b, c, d⟩ := lcmP_go S (w / Nat.gcd w e.1 * e.1) (by rw [e1]; exact hl) fun x hx => hp x (List.mem_cons_of_mem _ hx)
    refine ⟨a, Nat.dvd_trans (by rw [e1]; exact Nat.dvd_lcm_left _ _) b, fun x hx => ?_, fun M hM hS => d M (by rw [e1]; exact Nat.lcm_dvd hM (hS e (List.mem_cons_self ..))) fun x hx => hS x (List.mem_cons_of_mem _ hx)⟩
    rcases List.mem_cons.mp hx with rfl | hx
    · exact Nat.dvd_trans (by rw [e1]; exact Nat.dvd_lcm_right _ _) b
    · exact c x hx
theorem lcmP_pos {S : List Cls2} (h : Cl2 S) : 0 < lcmP S := (lcmP_go S 1 (by decide) h.pos).1
theorem lcmP_dvd {S : List Cls2} (h : Cl2 S) {e : Cls2} (he : e ∈ S) : e.1 ∣ lcmP S := (lcmP_go S 1 (by decide) h.pos).2.2.1 e he
theorem lcmP_le {S : List Cls2} (h : Cl2 S) {M : Nat} (hM : 0 < M) (hS : ∀ e ∈ S, e.1 ∣ M) : lcmP S ≤ M := Nat.le_of_dvd hM ((lcmP_go S 1 (by decide) h.pos).2.2.2 M (Nat.one_dvd _) hS)
theorem prodP_pos {S : List Cls2} (h : Cl2 S) : 0 < prodP S := (prodP_go S 1 (by decide) h.pos).1
theorem prodP_dvd {S : List Cls2} (h : Cl2 S) {e : Cls2} (he : e ∈ S) : e.1 ∣ prodP S := (prodP_go S 1 (by decide) h.pos).2.2 e he
theorem sumW_mul {k L : Nat} : ∀ {S : List Cls2}, (∀ e ∈ S, e.1 ∣ L) → sumW (k * L) S = k * sumW L S
  | [], _ => rfl
  | e :: S, h => by
    have ih := sumW_mul (k := k) fun x hx => h x (List.mem_cons_of_mem _ hx)
    unfold sumW at ih ⊢
    rw [List.map_cons, List.sum_cons, List.map_cons, List.sum_cons, ih, Nat.mul_add, Nat.mul_div_assoc _ (h e (List.mem_cons_self ..))]
theorem sumW_iff {S : List Cls2} {L W : Nat} (hL : 0 < L) (hW : 0 < W) (h1 : ∀ e ∈ S, e.1 ∣ L) (h2 : ∀ e ∈ S, e.1 ∣ W) : sumW W S = W ↔ sumW L S = L := by
  have a := sumW_mul (k := W) h1
  have b := sumW_mul (k := L) h2
  rw [Nat.mul_comm L W] at b
  rw [a] at b
  constructor
  · intro e
    rw [e, Nat.mul_comm L W] at b
    exact Nat.eq_of_mul_eq_mul_left hW b
  · intro e
    rw [e, Nat.mul_comm W L] at b
    exact (Nat.eq_of_mul_eq_mul_left hL b).symm
/-! ### counting -/
def cntC (p s : Nat) : Nat → Nat
  | 0 => 0
  | n + 1 => cntC p s n + if n % p = s then 1 else 0
theorem cntC_row {p s : Nat} (hs : s < p) (k : Nat) : ∀ r, r ≤ p → cntC p s (k * p + r) = cntC p s (k * p) + if s < r then 1 else 0
  | 0, _ => by rw [if_neg (Nat.not_lt_zero _)]; rfl
  | r + 1, h => by
    have ih := cntC_row hs k r (by omega)
    rw [← Nat.add_assoc, cntC, ih, Nat.mul_comm k p, Nat.mul_add_mod, Nat.mod_eq_of_lt (show r < p by omega)]
    by_cases e : r = s
    · rw [if_pos e, if_neg (by omega), if_pos (by omega)]
    · rw [if_neg e]
      by_cases l : s < r
      · rw [if_pos l, if_pos (by omega)]
      · rw [if_neg l, if_neg (by omega)]
theorem cntC_mul {p s : Nat} (hs : s < p) : ∀ k, cntC p s (k * p) = k
  | 0 => by rw [Nat.zero_mul]; rfl
  | k + 1 => by
    rw [Nat.succ_mul, cntC_row hs k p (Nat.le_refl _), cntC_mul hs k, if_pos hs]
theorem cntC_dvd {p s L : Nat} (hs : s < p) (h : p ∣ L) : cntC p s L = L / p := by
  obtain ⟨k, rfl⟩ := h
  rw [Nat.mul_comm p k, cntC_mul hs, Nat.mul_div_cancel _ (by omega)]
/-- all hits below n -/
def allH (S : List Cls2) : Nat → Nat
  | 0 => 0
  | n + 1 => allH S n + hits S n
theorem hits_cons (e : Cls2) (S : List Cls2) (t : Nat) : hits (e :: S) t = (if t % e.1 = e.2 then 1 else 0) + hits S t := by
  unfold hits
  by_cases h : t % e.1 = e.2
  · rw [List.filter_cons_of_pos (by unfold hitB; exact decide_eq_true h), if_pos h, List.length_cons]
    omega
  · rw [List.filter_cons_of_neg (by unfold hitB; rw [decide_eq_false h]; exact Bool.false_ne_true), if_neg h]
    omega
theorem allH_cons (e : Cls2) (S : List Cls2) : ∀ n, allH (e :: S) n = cntC e.1 e.2 n + allH S n
  | 0 => rfl
  | n + 1 => by
    rw [allH, allH, cntC, allH_cons e S n, hits_cons]
    omega
theorem allH_nil : ∀ n, allH [] n = 0
  | 0 => rfl
  | n + 1 => by rw [allH, allH_nil n]; rfl
theorem allH_sum {L : Nat} : ∀ {S : List Cls2}, Cl2 S → (∀ e ∈ S, e.1 ∣ L) → allH S L = sumW L S
  | [], _, _ => allH_nil L
  | e :: S, h, hd => by
    have ih := allH_sum (S := S) ⟨fun x hx => h.pos x (List.mem_cons_of_mem _ hx), fun x hx => h.lt x (List.mem_cons_of_mem _ hx)⟩ fun x hx => hd x (List.mem_cons_of_mem _ hx)
    rw [allH_cons, ih, cntC_dvd (h.lt e (List.mem_cons_self ..)) (hd e (List.mem_cons_self ..))]
    unfold sumW
    rw [List.map_cons, List.sum_cons]
theorem allH_one {S : List Cls2} : ∀ n, (∀ t, t < n → hits S t = 1) → allH S n = n
  | 0, _ => rfl
  | n + 1, h => by rw [allH, allH_one n fun t ht => h t (by omega), h n (by omega)]
theorem allH_le {S : List Cls2} : ∀ n, (∀ t, t < n → hits S t ≤ 1) → allH S n ≤ n ∧ (allH S n = n → ∀ t, t < n → hits S t = 1)
  | 0, _ => ⟨Nat.le_refl _, fun _ t ht => absurd ht (Nat.not_lt_zero _)⟩
  | n + 1, h => by
    obtain ⟨a, b⟩ := allH_le n fun t ht => h t (by omega)
    have c := h n (by omega)
    rw [allH]
    refine ⟨by omega, fun e t ht => ?_⟩
    by_cases z : t = n
    · subst z
      omega
    · exact b (by omega) t (by omega)
/-! ### two classes that meet -/
theorem bez2 : ∀ a b : Nat, ∃ x y : Int, ((Nat.gcd a b : Nat) : Int) = (a : Int) * x + (b : Int) * y := fun a b => by
  induction a, b using Nat.gcd.induction with
  | H0 n => exact ⟨0, 1, by simp⟩
  | H1 m n hm ih =>
    obtain ⟨x, y, e⟩ := ih
    refine ⟨y - ((n / m : Nat) : Int) * x, x, ?_⟩
    rw [Nat.gcd_rec, e]
    have z : ((n % m : Nat) : Int) = (n : Int) - (m : Int) * ((n / m : Nat) : Int) := by
      have := Nat.mod_add_div n m
      have h2 : ((n % m + m * (n / m) : Nat) : Int) = (n : Int) := by rw [this]
      rw [Int.natCast_add, Int.natCast_mul] at h2
      omega
    rw [z, Int.sub_mul, Int.mul_sub, Int.mul_assoc]
    omega
theorem meet_of {a b : Cls2} {t : Nat} (ha : t % a.1 = a.2) (hb : t % b.1 = b.2) : meetB a b = true := by
  unfold meetB
  rw [decide_eq_true_eq]
  have h1 : ((Nat.gcd a.1 b.1 : Nat) : Int) ∣ ((t : Int) - (a.2 : Int)) := by
    refine Int.dvd_trans (Int.natCast_dvd_natCast.mpr (Nat.gcd_dvd_left a.1 b.1)) ?_
    refine ⟨((t / a.1 : Nat) : Int), ?_⟩
    have := Nat.mod_add_div t a.1
    rw [ha] at this
    rw [← Int.natCast_mul]
    omega
  have h2 : ((Nat.gcd a.1 b.1 : Nat) : Int) ∣ ((t : Int) - (b.2 : Int)) := by
    refine Int.dvd_trans (Int.natCast_dvd_natCast.mpr (Nat.gcd_dvd_right a.1 b.1)) ?_
    refine ⟨((t / b.1 : Nat) : Int), ?_⟩
    have := Nat.mod_add_div t b.1
    rw [hb] at this
    rw [← Int.natCast_mul]
    omega
  refine Int.emod_eq_zero_of_dvd ?_
  have := Int.dvd_sub h2 h1
  have e : ((t : Int) - (b.2 : Int)) - ((t : Int) - (a.2 : Int)) = (a.2 : Int) - (b.2 : Int) := by omega
  rwa [e] at this
theorem meet_at {a b : Cls2} {L : Nat} (ha : a.2 < a.1) (hb : b.2 < b.1) (hL : 0 < L) (da : a.1 ∣ L) (db : b.1 ∣ L) (h : meetB a b = true) : ∃ t, t < L ∧ t % a.1 = a.2 ∧ t % b.1 = b.2 := by
  unfold meetB at h
  rw [decide_eq_true_eq] at h
  obtain ⟨c, hc⟩ := Int.dvd_of_emod_eq_zero h
  obtain ⟨x, y, e⟩ := bez2 a.1 b.1
  -- u = a.2 - a.1 * x * c is b.2 + b.1 * y * c
  have u1 : (a.2 : Int) - (a.1 : Int) * (x * c) = (b.2 : Int) + (b.1 : Int) * (y * c) := by
    rw [e, Int.add_mul, Int.mul_assoc, Int.mul_assoc] at hc
    omega
  have hLp : (0 : Int) < (L : Int) := by omega
  refine ⟨(((a.2 : Int) - (a.1 : Int) * (x * c)) % (L : Int)).toNat, ?_, ?_, ?_⟩
  · have h1 := Int.emod_nonneg ((a.2 : Int) - (a.1 : Int) * (x * c)) (by omega : (L : Int) ≠ 0)
    have h2 := Int.emod_lt_of_pos ((a.2 : Int) - (a.1 : Int) * (x * c)) hLp
    omega
  · have h1 := Int.emod_nonneg ((a.2 : Int) - (a.1 : Int) * (x * c)) (by omega : (L : Int) ≠ 0)
    refine Int.ofNat.inj ?_
    show (((((a.2 : Int) - (a.1 : Int) * (x * c)) % (L : Int)).toNat % a.1 : Nat) : Int) = (a.2 : Int)
    rw [Int.natCast_emod, Int.toNat_of_nonneg h1, Int.emod_emod_of_dvd _ (Int.natCast_dvd_natCast.mpr da), Int.sub_mul_emod_self_left]
    exact Int.emod_eq_of_lt (by omega) (by omega)
  · have h1 := Int.emod_nonneg ((a.2 : Int) - (a.1 : Int) * (x * c)) (by omega : (L : Int) ≠ 0)
    refine Int.ofNat.inj ?_
    show (((((a.2 : Int) - (a.1 : Int) * (x * c)) % (L : Int)).toNat % b.1 : Nat) : Int) = (b.2 : Int)
    rw [Int.natCast_emod, Int.toNat_of_nonneg h1, Int.emod_emod_of_dvd _ (Int.natCast_dvd_natCast.mpr db), u1, Int.add_mul_emod_self_left]
    exact Int.emod_eq_of_lt (by omega) (by omega)
theorem hits_le {t : Nat} : ∀ {S : List Cls2}, noMeet S → hits S t ≤ 1
  | [], _ => Nat.zero_le _
  | e :: S, h => by
    obtain ⟨h1, h2⟩ := List.pairwise_cons.mp h
    have ih := hits_le (t := t) h2
    rw [hits_cons]
    by_cases c : t % e.1 = e.2
    · rw [if_pos c]
      have z : hits S t = 0 := by
        unfold hits
        rw [List.length_eq_zero_iff, List.filter_eq_nil_iff]
        intro x hx hh
        have := meet_of (of_decide_eq_true hh) c
        rw [h1 x hx] at this
        cases this
      omega
    · rw [if_neg c]
      omega
theorem hits_no {L : Nat} (hL : 0 < L) : ∀ {S : List Cls2}, Cl2 S → (∀ e ∈ S, e.1 ∣ L) → (∀ t, t < L → hits S t ≤ 1) → noMeet S
  | [], _, _, _ => List.Pairwise.nil
  | e :: S, h, hd, hh => by
    refine List.pairwise_cons.mpr ⟨fun x hx => ?_, hits_no hL ⟨fun x hx => h.pos x (List.mem_cons_of_mem _ hx), fun x hx => h.lt x (List.mem_cons_of_mem _ hx)⟩ (fun x hx => hd x (List.mem_cons_of_mem _ hx)) fun t ht => ?_⟩
    · refine Bool.eq_false_iff.mpr fun m => ?_
      have mx := List.mem_cons_of_mem e hx
      obtain ⟨t, tL, t1, t2⟩ := meet_at (h.lt x mx) (h.lt e (List.mem_cons_self ..)) hL (hd x mx) (hd e (List.mem_cons_self ..)) m
      have z := hh t tL
      rw [hits_cons, if_pos t2] at z
      have : 0 < hits S t := by
        unfold hits
        exact List.length_pos_of_mem (List.mem_filter.mpr ⟨hx, decide_eq_true t1⟩)
      omega
    · have := hh t ht
      rw [hits_cons] at this
      omega
/-- covers as the law counts them, and as shares add up -/
theorem ex_due {S : List Cls2} (h : Cl2 S) : exB S = dueB S := by
  have hL := lcmP_pos h
  have dL := fun e he => lcmP_dvd h (e := e) he
  rw [Bool.eq_iff_iff]
  unfold exB dueB
  rw [Bool.and_eq_true, decide_eq_true_eq, decide_eq_true_eq, List.all_eq_true, sumW_iff hL (prodP_pos h) dL (fun e he => prodP_dvd h he), ← allH_sum h dL]
  constructor
  · rintro ⟨n, e⟩ t ht
    exact decide_eq_true ((allH_le _ fun t _ => hits_le n).2 e t (List.mem_range.mp ht))
  · intro k
    have k1 : ∀ t, t < lcmP S → hits S t = 1 := fun t ht => of_decide_eq_true (k t (List.mem_range.mpr ht))
    exact ⟨hits_no hL h dL fun t ht => by rw [k1 t ht]; exact Nat.le_refl _, allH_one _ k1⟩
end Ev

/-! ## When rows of lines are even -/
namespace Ev
open PySem
theorem sumK_one {P : Prop} [Decidable P] {k : Nat} : ∀ {m : Nat}, sumK (fun c => if P ∧ k = c then 1 else 0) m = if P ∧ k < m then 1 else 0
  | 0 => by
    rw [if_neg (fun z => absurd z.2 (Nat.not_lt_zero k))]
    rfl
  | m + 1 => by
    show sumK _ m + (if P ∧ k = m then 1 else 0) = _
    rw [sumK_one (m := m)]
    by_cases h : P
    · by_cases h1 : k < m
      · rw [if_pos ⟨h, h1⟩, if_neg (fun z => by have := z.2; omega), if_pos ⟨h, by omega⟩]
        rfl
      · by_cases h2 : k = m
        · rw [if_neg (fun z => h1 z.2), if_pos ⟨h, h2⟩, if_pos ⟨h, by omega⟩]
          rfl
        · rw [if_neg (fun z => h1 z.2), if_neg (fun z => h2 z.2), if_neg (fun z => by have := z.2; omega)]
          rfl
    · rw [if_neg (fun z => h z.1), if_neg (fun z => h z.1), if_neg (fun z => h z.1)]
      rfl
theorem cf_sum {n : Str} {m : Nat} (hm : 0 < m) : ∀ (l : List Str) (o : Nat), sumK (fun c => cf n m c l o) m = (l.count n : Nat)
  | [], _ => by
    show sumK (fun _ => 0) m = _
    rw [sumK_zero]
    rfl
  | x :: l, o => by
    show sumK (fun c => (if x = n ∧ o % m = c then 1 else 0) + cf n m c l (o + 1)) m = _
    rw [sumK_plus, sumK_one, cf_sum hm l (o + 1), List.count_cons]
    have := Nat.mod_lt o hm
    by_cases h : x = n
    · rw [if_pos ⟨h, this⟩, if_pos (beq_iff_eq.mpr h)]
      omega
    · rw [if_neg (fun z => h z.1), if_neg (fun z => h (beq_iff_eq.mp z))]
      omega
theorem sumK_const (k : Int) : ∀ m : Nat, sumK (fun _ => k) m = m * k
  | 0 => by
    show (0 : Int) = 0 * k
    omega
  | m + 1 => by
    show sumK _ m + k = _
    rw [sumK_const k m, Int.natCast_add, Int.add_mul]
    omega
/-- equal classes: the modulus divides how many there are -/
theorem even_dvd {n : Str} {m : Nat} (hm : 0 < m) {l : List Str} {o : Nat} (h : ∀ c, c < m → cf n m c l o = cf n m 0 l o) : m ∣ l.count n := by
  have z := cf_sum (n := n) hm l o
  rw [sumK_congr (h := fun _ => cf n m 0 l o) (fun c hc => h c hc), sumK_const] at z
  have h0 := (cf_nn (n := n) (m := m) (c := 0) l o).1
  refine ⟨(cf n m 0 l o).toNat, ?_⟩
  have e : ((m * (cf n m 0 l o).toNat : Nat) : Int) = (l.count n : Nat) := by
    rw [Int.natCast_mul, Int.toNat_of_nonneg h0, z]
  omega
theorem cf_short {n x : Str} {m c : Nat} : ∀ k : Nat, k ≤ m → cf n m c (List.replicate k x) 0 = if x = n ∧ c < k then 1 else 0
  | 0, _ => by
    rw [if_neg (fun z => absurd z.2 (Nat.not_lt_zero c))]
    rfl
  | k + 1, h => by
    rw [List.replicate_succ', cf_app, cf_short k (by omega), List.length_replicate]
    show _ + ((if x = n ∧ (0 + k) % m = c then 1 else 0) + 0) = _
    rw [Nat.zero_add, Nat.mod_eq_of_lt (by omega)]
    by_cases h1 : x = n
    · by_cases h2 : c < k
      · rw [if_pos ⟨h1, h2⟩, if_neg (fun z => by have := z.2; omega), if_pos ⟨h1, by omega⟩]
        rfl
      · by_cases h3 : k = c
        · rw [if_neg (fun z => h2 z.2), if_pos ⟨h1, h3⟩, if_pos ⟨h1, by omega⟩]
          rfl
        · rw [if_neg (fun z => h2 z.2), if_neg (fun z => h3 z.2), if_neg (fun z => by have := z.2; omega)]
          rfl
    · rw [if_neg (fun z => h1 z.1), if_neg (fun z => h1 z.1), if_neg (fun z => h1 z.1)]
      rfl
/-- one tick later -/
theorem cf_next {n x : Str} {m c f : Nat} (o : Nat) : cf n m c (List.replicate f x) (o + 1) = cf n m c (List.replicate f x) o - (if x = n ∧ o % m = c then 1 else 0) + (if x = n ∧ (o + f) % m = c then 1 else 0) := by
  have e1 : cf n m c (List.replicate (f + 1) x) o = (if x = n ∧ o % m = c then 1 else 0) + cf n m c (List.replicate f x) (o + 1) := rfl
  have e2 : cf n m c (List.replicate (f + 1) x) o = cf n m c (List.replicate f x) o + ((if x = n ∧ (o + f) % m = c then 1 else 0) + 0) := by
    rw [List.replicate_succ', cf_app, List.length_replicate]
    rfl
  omega
theorem cf_per {n x : Str} {m c : Nat} (hc : c < m) : ∀ o : Nat, cf n m c (List.replicate m x) o = if x = n then 1 else 0
  | 0 => by
    rw [cf_short m (Nat.le_refl m)]
    by_cases h : x = n
    · rw [if_pos ⟨h, hc⟩, if_pos h]
    · rw [if_neg (fun z => h z.1), if_neg h]
  | o + 1 => by
    rw [cf_next, cf_per hc o, Nat.add_mod_right]
    omega
theorem cf_mult {n x : Str} {m c : Nat} (hc : c < m) : ∀ (k o : Nat), cf n m c (List.replicate (m * k) x) o = if x = n then (k : Int) else 0
  | 0, o => by
    rw [Nat.mul_zero]
    show (0 : Int) = _
    split <;> rfl
  | k + 1, o => by
    rw [Nat.mul_succ, ← List.replicate_append_replicate, cf_app, cf_mult hc k o, cf_per hc]
    split <;> omega
/-! ### coarser classes -/
theorem cf_coarse {n : Str} {m d r : Nat} (hm : 0 < m) (hd : d ∣ m) : ∀ (l : List Str) (o : Nat), cf n d r l o = sumK (fun c => if c % d = r then cf n m c l o else 0) m
  | [], o => by
    rw [sumK_congr (h := fun _ => 0) (fun c _ => by show (if c % d = r then (0 : Int) else 0) = 0; split <;> rfl), sumK_zero]
    rfl
  | x :: l, o => by
    show (if x = n ∧ o % d = r then 1 else 0) + cf n d r l (o + 1) = _
    rw [cf_coarse hm hd l (o + 1)]
    have e : ∀ c, c < m → (if c % d = r then cf n m c (x :: l) o else 0) = (if (x = n ∧ o % d = r) ∧ o % m = c then 1 else 0) + (if c % d = r then cf n m c l (o + 1) else 0) := fun c _ => by
      show (if c % d = r then (if x = n ∧ o % m = c then 1 else 0) + cf n m c l (o + 1) else 0) = _
      have hmd : o % m % d = o % d := Nat.mod_mod_of_dvd o hd
      by_cases h1 : c % d = r
      · rw [if_pos h1, if_pos h1]
        congr 1
        by_cases h2 : x = n ∧ o % m = c
        · rw [if_pos h2, if_pos ⟨⟨h2.1, by rw [← hmd, h2.2]; exact h1⟩, h2.2⟩]
        · rw [if_neg h2, if_neg (fun z => h2 ⟨z.1.1, z.2⟩)]
      · rw [if_neg h1, if_neg h1, if_neg (fun z => h1 (by rw [← z.2, hmd]; exact z.1.2))]
        rfl
    rw [sumK_congr e, sumK_plus, sumK_one]
    have := Nat.mod_lt o hm
    by_cases h : x = n ∧ o % d = r
    · rw [if_pos h, if_pos ⟨h, this⟩]
    · rw [if_neg h, if_neg (fun z => h z.1)]
/-- equal classes are equal in coarser ones -/
theorem even_coarse {n : Str} {m d : Nat} (hm : 0 < m) (hd : d ∣ m) {l : List Str} {o : Nat} (h : ∀ c, c < m → cf n m c l o = cf n m 0 l o) {r : Nat} (hr : r < d) : cf n d r l o = cf n d 0 l o := by
  have d0 : 0 < d := by omega
  have key : ∀ r, r < d → cf n d r l o = cf n m 0 l o * ((m / d : Nat) : Int) := fun r hr => by
    rw [cf_coarse hm hd, sumK_congr (h := fun c => cf n m 0 l o * (if c % d = r then 1 else 0)) (fun c hc => by rw [h c hc]; split <;> omega), sumK_mul]
    congr 1
    have z : ∀ k, sumK (fun c => if c % d = r then 1 else 0) k = cf n d r (List.replicate k n) 0 := fun k => by
      induction k with
      | zero => rfl
      | succ k ih =>
        rw [List.replicate_succ', cf_app, List.length_replicate]
        show sumK _ k + (if k % d = r then 1 else 0) = _ + ((if n = n ∧ (0 + k) % d = r then 1 else 0) + 0)
        rw [ih, Nat.zero_add]
        by_cases h1 : k % d = r
        · rw [if_pos h1, if_pos ⟨rfl, h1⟩]
          omega
        · rw [if_neg h1, if_neg (fun z => h1 z.2)]
          omega
    rw [z m, show m = d * (m / d) from (Nat.mul_div_cancel' hd).symm, cf_mult hr, if_pos rfl]
    rw [Nat.mul_div_cancel_left _ d0]
  rw [key r hr, key 0 d0]
/-! ### periods -/
theorem per_gcd {N : Nat → Int} : ∀ (a b : Nat), (∀ o, N (o + a) = N o) → (∀ o, N (o + b) = N o) → ∀ o, N (o + Nat.gcd a b) = N o := by
  intro a b
  induction a, b using Nat.gcd.induction with
  | H0 b =>
    intro _ hb o
    rw [Nat.gcd_zero_left]
    exact hb o
  | H1 a b ha ih =>
    intro h1 h2 o
    rw [Nat.gcd_rec]
    refine ih (fun o => ?_) h1 o
    have mul : ∀ k o, N (o + a * k) = N o := fun k => by
      induction k with
      | zero =>
        intro o
        rw [Nat.mul_zero, Nat.add_zero]
      | succ k ihk =>
        intro o
        rw [Nat.mul_succ, ← Nat.add_assoc, h1, ihk]
    have e : o + b % a + a * (b / a) = o + b := by
      have := Nat.div_add_mod b a
      omega
    rw [← mul (b / a) (o + b % a), e, h2]
theorem per_mul {N : Nat → Int} {a : Nat} (h : ∀ o, N (o + a) = N o) : ∀ k o, N (o + a * k) = N o
  | 0, o => by rw [Nat.mul_zero, Nat.add_zero]
  | k + 1, o => by rw [Nat.mul_succ, ← Nat.add_assoc, h, per_mul h k o]
/-- intervals of f ticks, every L ticks, R of them, are even if gcd(m, L) divides f and m divides L * R -/
theorem loop_even {x : Str} {m L R f : Nat} (hm : 0 < m) (hLR : m ∣ L * R) (hf : Nat.gcd m L ∣ f) (o0 : Nat) {c : Nat} (hc : c < m) :
    sumK (fun k => cf x m c (List.replicate f x) (o0 + k * L)) R = sumK (fun k => cf x m 0 (List.replicate f x) (o0 + k * L)) R := by
  have step : ∀ c, c + 1 < m → sumK (fun k => cf x m (c + 1) (List.replicate f x) (o0 + k * L)) R = sumK (fun k => cf x m c (List.replicate f x) (o0 + k * L)) R := fun c hc => by
    let N : Nat → Int := fun o => sumK (fun k => if (o + k * L) % m = c + 1 then 1 else 0) R
    have pm : ∀ o, N (o + m) = N o := fun o => sumK_congr fun k _ => by
      rw [show o + m + k * L = o + k * L + m by omega, Nat.add_mod_right]
    have pL : ∀ o, N (o + L) = N o := fun o => by
      show sumK (fun k => if (o + L + k * L) % m = c + 1 then 1 else 0) R = sumK (fun k => if (o + k * L) % m = c + 1 then 1 else 0) R
      have e1 := sumK_left (fun k => if (o + k * L) % m = c + 1 then (1 : Int) else 0) R
      have e2 : sumK (fun k => if (o + k * L) % m = c + 1 then (1 : Int) else 0) (R + 1) = sumK (fun k => if (o + k * L) % m = c + 1 then 1 else 0) R + (if (o + R * L) % m = c + 1 then 1 else 0) := rfl
      have e3 : (o + R * L) % m = (o + 0 * L) % m := by
        obtain ⟨q, hq⟩ := hLR
        rw [Nat.mul_comm R L, hq, Nat.add_mul_mod_self_left, Nat.zero_mul, Nat.add_zero]
      rw [e3] at e2
      have e4 : sumK (fun k => if (o + (k + 1) * L) % m = c + 1 then (1 : Int) else 0) R = sumK (fun k => if (o + L + k * L) % m = c + 1 then 1 else 0) R := sumK_congr fun k _ => by
        rw [show o + (k + 1) * L = o + L + k * L by rw [Nat.add_mul, Nat.one_mul]; omega]
      omega
    have pd := per_gcd m L pm pL
    obtain ⟨q, hq⟩ := hf
    have pf : N (o0 + f) = N o0 := by
      rw [hq]
      exact per_mul pd q o0
    have cls : ∀ (l : List Str) (o : Nat), cf x m (c + 1) l (o + 1) = cf x m c l o := fun l => by
      induction l with
      | nil => intro o; rfl
      | cons y l ih =>
        intro o
        show (if y = x ∧ (o + 1) % m = c + 1 then 1 else 0) + cf x m (c + 1) l (o + 1 + 1) = (if y = x ∧ o % m = c then 1 else 0) + cf x m c l (o + 1)
        rw [ih (o + 1)]
        congr 1
        have hiff : (o + 1) % m = c + 1 ↔ o % m = c := by
          have h1 := Nat.div_add_mod o m
          have h2 := Nat.mod_lt o hm
          by_cases h3 : o % m + 1 = m
          · have e : (o + 1) % m = 0 := by
              rw [show o + 1 = m * (o / m + 1) by rw [Nat.mul_add, Nat.mul_one]; omega, Nat.mul_mod_right]
            omega
          · have e : (o + 1) % m = o % m + 1 := by
              rw [Nat.add_mod, Nat.mod_eq_of_lt (show 1 < m by omega), Nat.mod_eq_of_lt (by omega)]
            omega
        by_cases h : y = x
        · by_cases h4 : o % m = c
          · rw [if_pos ⟨h, hiff.mpr h4⟩, if_pos ⟨h, h4⟩]
          · rw [if_neg (fun z => h4 (hiff.mp z.2)), if_neg (fun z => h4 z.2)]
        · rw [if_neg (fun z => h z.1), if_neg (fun z => h z.1)]
    have e5 : sumK (fun k => cf x m c (List.replicate f x) (o0 + k * L)) R = sumK (fun k => cf x m (c + 1) (List.replicate f x) (o0 + k * L) + ((if (o0 + f + k * L) % m = c + 1 then 1 else 0) + (-1) * (if (o0 + k * L) % m = c + 1 then 1 else 0))) R := sumK_congr fun k _ => by
      rw [← cls, cf_next, show o0 + k * L + f = o0 + f + k * L by omega]
      have a1 : (if x = x ∧ (o0 + k * L) % m = c + 1 then (1 : Int) else 0) = if (o0 + k * L) % m = c + 1 then 1 else 0 := by
        by_cases h : (o0 + k * L) % m = c + 1
        · rw [if_pos h, if_pos ⟨rfl, h⟩]
        · rw [if_neg h, if_neg (fun z => h z.2)]
      have a2 : (if x = x ∧ (o0 + f + k * L) % m = c + 1 then (1 : Int) else 0) = if (o0 + f + k * L) % m = c + 1 then 1 else 0 := by
        by_cases h : (o0 + f + k * L) % m = c + 1
        · rw [if_pos h, if_pos ⟨rfl, h⟩]
        · rw [if_neg h, if_neg (fun z => h z.2)]
      rw [a1, a2]
      omega
    rw [e5, sumK_plus, sumK_plus, sumK_mul]
    have : N (o0 + f) = N o0 := pf
    show _ = _ + (N (o0 + f) + (-1) * N o0)
    omega
  induction c with
  | zero => rfl
  | succ c ih => rw [step c hc, ih (by omega)]
theorem cf_none {n : Str} {m c : Nat} : ∀ (l : List Str) (o : Nat), n ∉ l → cf n m c l o = 0
  | [], _, _ => rfl
  | x :: l, o, h => by
    have h1 : x ≠ n := fun e => h (e ▸ List.mem_cons_self ..)
    have h2 : n ∉ l := fun e => h (List.mem_cons_of_mem _ e)
    show (if x = n ∧ o % m = c then 1 else 0) + cf n m c l (o + 1) = 0
    rw [if_neg (fun z => h1 z.1), cf_none l (o + 1) h2]
    rfl
end Ev

/-! ## Going round by steps of p -/
namespace Ev
open PySem
theorem orb_back {L p : Nat} (hL : 0 < L) : L ∣ L / Nat.gcd p L * p := by
  have hg := Nat.gcd_pos_of_pos_right p hL
  obtain ⟨a, ha⟩ := Nat.gcd_dvd_left p L
  obtain ⟨b, hb⟩ := Nat.gcd_dvd_right p L
  generalize Nat.gcd p L = g at *
  refine ⟨a, ?_⟩
  rw [hb, Nat.mul_div_cancel_left _ hg, ha, Nat.mul_comm g a, ← Nat.mul_assoc, Nat.mul_comm (g * b) a, Nat.mul_comm b a, Nat.mul_assoc, Nat.mul_comm b g]
theorem orb_ne {L p k : Nat} (hL : 0 < L) (h0 : 0 < k) (hk : k < L / Nat.gcd p L) : ¬ L ∣ k * p := by
  intro h
  have hg := Nat.gcd_pos_of_pos_right p hL
  have cop := Nat.coprime_div_gcd_div_gcd (m := p) (n := L) hg
  have e1 : Nat.gcd p L * (L / Nat.gcd p L) = L := Nat.mul_div_cancel' (Nat.gcd_dvd_right p L)
  have e2 : Nat.gcd p L * (p / Nat.gcd p L) = p := Nat.mul_div_cancel' (Nat.gcd_dvd_left p L)
  have h2 : Nat.gcd p L * (L / Nat.gcd p L) ∣ Nat.gcd p L * (k * (p / Nat.gcd p L)) := by
    rw [e1, ← Nat.mul_assoc, Nat.mul_comm _ k, Nat.mul_assoc, e2]
    exact h
  have h3 := Nat.dvd_of_mul_dvd_mul_left hg h2
  have h4 := Nat.Coprime.dvd_of_dvd_mul_right (Nat.Coprime.symm cop) h3
  have := Nat.le_of_dvd h0 h4
  omega
theorem orb_count {L p s i : Nat} (hL : 0 < L) (hi : i < L) : sumK (fun k => if (s + k * p) % L = i then 1 else 0) (L / Nat.gcd p L) = if i % Nat.gcd p L = s % Nat.gcd p L then 1 else 0 := by
  have hg := Nat.gcd_pos_of_pos_right p hL
  by_cases h : i % Nat.gcd p L = s % Nat.gcd p L
  · rw [if_pos h]
    let N : Nat → Int := fun o => sumK (fun k => if (o + k * p) % L = i then 1 else 0) (L / Nat.gcd p L)
    have pL : ∀ o, N (o + L) = N o := fun o => sumK_congr fun k _ => by
      rw [show o + L + k * p = o + k * p + L by omega, Nat.add_mod_right]
    have pp : ∀ o, N (o + p) = N o := fun o => by
      show sumK (fun k => if (o + p + k * p) % L = i then 1 else 0) (L / Nat.gcd p L) = sumK (fun k => if (o + k * p) % L = i then 1 else 0) (L / Nat.gcd p L)
      have e1 := sumK_left (fun k => if (o + k * p) % L = i then (1 : Int) else 0) (L / Nat.gcd p L)
      have e2 : sumK (fun k => if (o + k * p) % L = i then (1 : Int) else 0) (L / Nat.gcd p L + 1) = sumK (fun k => if (o + k * p) % L = i then 1 else 0) (L / Nat.gcd p L) + (if (o + L / Nat.gcd p L * p) % L = i then 1 else 0) := rfl
      have e3 : (o + L / Nat.gcd p L * p) % L = (o + 0 * p) % L := by
        obtain ⟨q, hq⟩ := orb_back (p := p) hL
        rw [hq, Nat.add_mul_mod_self_left, Nat.zero_mul, Nat.add_zero]
      rw [e3] at e2
      have e4 : sumK (fun k => if (o + (k + 1) * p) % L = i then (1 : Int) else 0) (L / Nat.gcd p L) = sumK (fun k => if (o + p + k * p) % L = i then 1 else 0) (L / Nat.gcd p L) := sumK_congr fun k _ => by
        rw [show o + (k + 1) * p = o + p + k * p by rw [Nat.add_mul, Nat.one_mul]; omega]
      omega
    have pg := per_gcd p L pp pL
    have e1 : N s = N (s % Nat.gcd p L) := by
      have z := per_mul pg (s / Nat.gcd p L) (s % Nat.gcd p L)
      rw [Nat.mod_add_div] at z
      exact z
    have e2 : N i = N (i % Nat.gcd p L) := by
      have z := per_mul pg (i / Nat.gcd p L) (i % Nat.gcd p L)
      rw [Nat.mod_add_div] at z
      exact z
    show N s = 1
    rw [e1, ← h, ← e2]
    have hn : 0 < L / Nat.gcd p L := Nat.div_pos (Nat.gcd_le_right _ hL) hg
    obtain ⟨n, hn'⟩ : ∃ n, L / Nat.gcd p L = n + 1 := ⟨L / Nat.gcd p L - 1, by omega⟩
    show sumK (fun k => if (i + k * p) % L = i then 1 else 0) (L / Nat.gcd p L) = 1
    rw [hn', sumK_left, Nat.zero_mul, Nat.add_zero, Nat.mod_eq_of_lt hi, if_pos rfl, sumK_congr (h := fun _ => 0) (fun k hk => if_neg fun z => ?_), sumK_zero]
    · rfl
    · refine orb_ne (p := p) (k := k + 1) hL (by omega) (by omega) ?_
      have z2 := Nat.div_add_mod (i + (k + 1) * p) L
      rw [z] at z2
      exact ⟨(i + (k + 1) * p) / L, by omega⟩
  · rw [if_neg h, sumK_congr (h := fun _ => 0) (fun k _ => if_neg fun z => h ?_), sumK_zero]
    obtain ⟨q, hq⟩ := Nat.gcd_dvd_left p L
    have e : (s + k * p) % L % Nat.gcd p L = s % Nat.gcd p L := by
      rw [Nat.mod_mod_of_dvd _ (Nat.gcd_dvd_right p L)]
      have : Nat.gcd p L ∣ k * p := Nat.dvd_trans (Nat.gcd_dvd_left p L) (Nat.dvd_mul_left _ _)
      obtain ⟨u, hu⟩ := this
      rw [hu, Nat.add_mul_mod_self_left]
    rw [← e, z]
theorem cf_idx {n : Str} {m c : Nat} (w : List Str) : ∀ k, k ≤ w.length → cf n m c (w.take k) 0 = sumK (fun i => if w[i]? = some n ∧ i % m = c then 1 else 0) k
  | 0, _ => by
    rw [List.take_zero]
    rfl
  | k + 1, h => by
    have e := List.getElem?_eq_getElem (show k < w.length by omega)
    rw [List.take_add_one, e, cf_app, cf_idx w k (by omega), List.length_take, Nat.min_eq_left (by omega)]
    show _ + ((if w[k] = n ∧ (0 + k) % m = c then 1 else 0) + 0) = _ + (if w[k]? = some n ∧ k % m = c then 1 else 0)
    rw [Nat.zero_add, e]
    by_cases h1 : w[k] = n ∧ k % m = c
    · rw [if_pos h1, if_pos ⟨by rw [h1.1], h1.2⟩]
      omega
    · rw [if_neg h1, if_neg (fun z => h1 ⟨Option.some.inj z.1, z.2⟩)]
      omega
/-- the looks from s on, by steps of p, till they come back, see the class of s -/
theorem seen_count {n : Str} {w : List Str} {p s : Nat} (hL : 0 < w.length) : sumK (fun k => if w[(s + k * p) % w.length]? = some n then 1 else 0) (w.length / Nat.gcd p w.length) = cf n (Nat.gcd p w.length) (s % Nat.gcd p w.length) w 0 := by
  have e0 := cf_idx (n := n) (m := Nat.gcd p w.length) (c := s % Nat.gcd p w.length) w w.length (Nat.le_refl _)
  rw [List.take_length] at e0
  rw [e0, sumK_congr (h := fun k => sumK (fun i => if w[i]? = some n ∧ (s + k * p) % w.length = i then 1 else 0) w.length) fun k _ => ?_, sumK_swap]
  · refine sumK_congr fun i hi => ?_
    have oc := orb_count (p := p) (s := s) hL hi
    by_cases h : w[i]? = some n
    · rw [sumK_congr (h := fun k => if (s + k * p) % w.length = i then 1 else 0) fun k _ => ?_, oc]
      · by_cases h2 : i % Nat.gcd p w.length = s % Nat.gcd p w.length
        · rw [if_pos h2, if_pos ⟨h, h2⟩]
        · rw [if_neg h2, if_neg (fun z => h2 z.2)]
      · by_cases h3 : (s + k * p) % w.length = i
        · rw [if_pos h3, if_pos ⟨h, h3⟩]
        · rw [if_neg h3, if_neg (fun z => h3 z.2)]
    · rw [if_neg (fun z => h z.1), sumK_congr (h := fun _ => 0) fun k _ => if_neg (fun z => h z.1), sumK_zero]
  · have hlt := Nat.mod_lt (s + k * p) hL
    have e : ∀ i, i < w.length → (if w[i]? = some n ∧ (s + k * p) % w.length = i then (1 : Int) else 0) = if w[(s + k * p) % w.length]? = some n ∧ (s + k * p) % w.length = i then 1 else 0 := fun i _ => by
      by_cases h : (s + k * p) % w.length = i
      · rw [h]
      · rw [if_neg (fun z => h z.2), if_neg (fun z => h z.2)]
    rw [sumK_congr e, sumK_one]
    by_cases h : w[(s + k * p) % w.length]? = some n
    · rw [if_pos h, if_pos ⟨h, hlt⟩]
    · rw [if_neg h, if_neg (fun z => h z.1)]
end Ev

/-! ## Branches that join -/
namespace Ev
open PySem PySem.Spec PyProof.Rows L2
theorem s_join {a rest : TS} {D : Ends} {σ : L2.St} {H : Hp} (J : L2.St → Hp → Prop) (k : ∀ σ H, J σ H → rest D σ H) (h : (∀ σ H, J σ H → rest D σ H) → a { D with nx := rest D } σ H) : tSeq a rest D σ H := h k
theorem back_none {H H' : Hp} {r : Addr} (s : Same H H') (h : H' r = none) : H r = none := by
  cases e : H r with
  | none => rfl
  | some o =>
    rw [s _ _ e] at h
    cases h
theorem bool_fits (c : Bool) : (PyData.bool c).showable = true ∧ (PyData.bool c).depth ≤ 64 ∧ (PyData.bool c).shown.length ≤ sizeLine := by
  rw [sizeLine_eq]
  cases c <;> exact ⟨by decide +kernel, by decide +kernel, by decide +kernel⟩
theorem rg_nat {a b : Nat} {v : V} (h : v ∈ rgV ((a : Nat) : Int) ((b : Nat) : Int)) : ∃ k : Nat, v = .int (k : Nat) ∧ a ≤ k ∧ k < b := by
  unfold rgV at h
  obtain ⟨i, hi, rfl⟩ := List.mem_map.mp h
  have hi := List.mem_range.mp hi
  exact ⟨a + i, by rw [Int.natCast_add], by omega, by omega⟩
/-- how long the text of a program is -/
theorem prog_szA {B n : Nat} {is : List It} (h : ∀ i ∈ is, Okp B n i) (hm : Its.nm is) (hn : Its.ni is ≤ 96) (h6 : n ≤ 6) :
    (PyData.tuple (is.map It.d)).showable = true ∧ (PyData.tuple (is.map It.d)).depth ≤ 64 ∧ (PyData.tuple (is.map It.d)).shown.length ≤ sizeLine := by
  obtain ⟨h1, h2, h3, h4⟩ := Its.szd n B is h hm
  refine Sz.fits (e := 64) (w := 16000) ⟨by rw [PyData.showable]; exact h1, by rw [PyData.leavesShort]; exact h2, ?_, ?_⟩ (by decide) (by decide)
  · rw [PyData.depth]
    omega
  · rw [PyData.weight]
    omega
end Ev

/-! ## List comprehensions with a test, the elements plain values -/
namespace Ev
open PySem PySem.Spec PyProof.Rows L2
/-- what a turn does -/
def Turn (H : Hp) (σ : L2.St) (g : TG) (tt : TT) (te : TE) (vs : List Nat) (f : V → Bool) (e : V → V) (x : V) : Prop := ∀ (H' : Hp) (N : Hp → Prop) (R : VK), Same H H' → (f x = false → ∀ H'', Same H' H'' → N H'') → (f x = true → ∀ H'', Same H' H'' → R (e x) H'') →
  g x (wipe σ vs) H' fun σ2 H2 => wipe σ2 vs = wipe σ vs ∧ tt σ2 H2 fun b H3 => if b = true then te σ2 H3 R else N H3
theorem filt_step {f : V → Bool} {e : V → V} {xs : List V} {k : Nat} {x : V} (h : xs[k]? = some x) : ((xs.take (k + 1)).filter f).map e = ((xs.take k).filter f).map e ++ (if f x = true then [e x] else []) := by
  rw [List.take_add_one, h, List.filter_append, List.map_append]
  congr 1
  show (([x] : List V).filter f).map e = _
  by_cases hf : f x = true
  · rw [if_pos hf, List.filter_cons_of_pos hf]
    rfl
  · rw [if_neg hf, List.filter_cons_of_neg hf]
    rfl
theorem turn_inv {H H' : Hp} {σ : L2.St} {g : TG} {tt : TT} {te : TE} {vs : List Nat} {f : V → Bool} {e : V → V} {xs : List V} {k : Nat} {x : V} {D : Addr} (nD : H D = none) (hz : xs.length ≤ 1000000) (hx : xs[k]? = some x) (ht : Turn H σ g tt te vs f e x) (s' : Same H H') (eD : H' D = some (.lst (((xs.take k).filter f).map e))) :
    g x (wipe σ vs) H' fun σ2 H2 => wipe σ2 vs = wipe σ vs ∧ tt σ2 H2 fun b H3 => if b = true then te σ2 H3 (fun y H4 => ∃ acc, H4 D = some (.lst acc) ∧ acc.length < sizeLine ∧ Same H (upd H4 D (.lst (acc ++ [y]))) ∧ upd H4 D (.lst (acc ++ [y])) D = some (.lst (((xs.take (k + 1)).filter f).map e))) else Same H H3 ∧ H3 D = some (.lst (((xs.take (k + 1)).filter f).map e)) := by
  have y := sizeLine_eq
  refine ht H' (fun H3 => Same H H3 ∧ H3 D = some (.lst (((xs.take (k + 1)).filter f).map e))) _ s' (fun hf H3 s3 => ⟨s'.trans s3, ?_⟩) (fun hf H4 s4 => ⟨_, s4 _ _ eD, ?_, ?_, ?_⟩)
  · rw [filt_step hx, if_neg (by rw [hf]; exact Bool.false_ne_true), List.append_nil]
    exact s3 _ _ eD
  · rw [List.length_map]
    have z := List.length_filter_le f (xs.take k)
    rw [List.length_take] at z
    omega
  · intro b o h
    rw [upd_ne (ne_of_none h nD)]
    exact s4 _ _ (s' _ _ h)
  · rw [upd_same, filt_step hx, if_pos hf]
theorem turn_yes {H : Hp} {σ : L2.St} {g : TG} {te : TE} {vs : List Nat} {e : V → V} {x : V} (h : ∀ (H' : Hp) (R : VK), Same H H' → (∀ H'', Same H' H'' → R (e x) H'') → g x (wipe σ vs) H' fun σ2 H2 => wipe σ2 vs = wipe σ vs ∧ te σ2 H2 R) : Turn H σ g tYes te vs (fun _ => true) e x := fun H' N R s' _ hR => h H' R s' (hR rfl)
/-- over a list -/
theorem lcF_list {K : PySem.W.Frag} {σ : L2.St} {H : Hp} {Q : VK} {tt : TT} {te ti : TE} {a : Addr} {xs : List V} {g : TG} {vs : List Nat} (f : V → Bool) (e : V → V) (hi : ∀ Q : VK, Q (.ref a) H → ti σ H Q) (hx : SqL K H a xs) (hz : xs.length ≤ 1000000)
    (he : ∀ x ∈ xs, Turn H σ g tt te vs f e x) (q : ∀ H' D, Same H H' → H D = none → H' D = some (.lst ((xs.filter f).map e)) → Q (.ref D) H') : tLc (iList K ti) g tt te vs σ H Q := by
  refine hi _ ⟨a, rfl, ⟨xs, hx⟩, fun D nD => ?_⟩
  refine lc_list (K := K) (a := a) (xs := xs) (fun k H' => Same H H' ∧ H' D = some (.lst (((xs.take k).filter f).map e))) ⟨same_put nD, by rw [List.take_zero]; exact upd_same⟩ (fun k H' _ ⟨s', _⟩ => s'.seq hx) ?_ ?_
  · rintro k x H' hk ⟨s', eD⟩
    exact turn_inv nD hz hk (he x (List.mem_of_getElem? hk)) s' eD
  · rintro H' ⟨s', eD⟩
    rw [List.take_length] at eD
    exact q H' D s' nD eD
theorem lcF_tup {K : PySem.W.Frag} {σ : L2.St} {H : Hp} {Q : VK} {tt : TT} {te ti : TE} {a : Addr} {xs : List V} {g : TG} {vs : List Nat} (f : V → Bool) (e : V → V) (hi : ∀ Q : VK, Q (.ref a) H → ti σ H Q) (hx : SqT K H a xs) (hz : xs.length ≤ 1000000)
    (he : ∀ x ∈ xs, Turn H σ g tt te vs f e x) (q : ∀ H' D, Same H H' → H D = none → H' D = some (.lst ((xs.filter f).map e)) → Q (.ref D) H') : tLc (iTup K ti) g tt te vs σ H Q := by
  refine hi _ ⟨a, rfl, ⟨xs, hx⟩, fun D nD => ?_⟩
  refine lc_tup (K := K) (a := a) (xs := xs) (fun k H' => Same H H' ∧ H' D = some (.lst (((xs.take k).filter f).map e))) ⟨same_put nD, by rw [List.take_zero]; exact upd_same⟩ (fun k H' _ ⟨s', _⟩ => seqT_mono s' hx) ?_ ?_
  · rintro k x H' hk ⟨s', eD⟩
    exact turn_inv nD hz hk (he x (List.mem_of_getElem? hk)) s' eD
  · rintro H' ⟨s', eD⟩
    rw [List.take_length] at eD
    exact q H' D s' nD eD
/-- the numbers from a to b - 1 -/
def rgN (a b : Nat) : List Nat := (List.range (b - a)).map fun k => a + k
theorem rgN_len (a b : Nat) : (rgN a b).length = b - a := by
  unfold rgN
  rw [List.length_map, List.length_range]
theorem rgN_mem {a b x : Nat} : x ∈ rgN a b ↔ a ≤ x ∧ x < b := by
  unfold rgN
  rw [List.mem_map]
  constructor
  · rintro ⟨k, hk, rfl⟩
    have := List.mem_range.mp hk
    omega
  · intro h
    exact ⟨x - a, List.mem_range.mpr (by omega), by omega⟩
theorem rgN_get {a b k : Nat} (h : k < b - a) : (rgN a b)[k]? = some (a + k) := by
  unfold rgN
  rw [List.getElem?_map, List.getElem?_range h]
  rfl
abbrev nV (n : Nat) : V := .int (n : Nat)
theorem filt_nV {f : V → Bool} {e : V → V} {l : List Nat} : ((l.map nV).filter f).map e = (l.filter fun n => f (nV n)).map fun n => e (nV n) := by
  rw [List.filter_map, List.map_map]
  rfl
def fV (f : Nat → Bool) : V → Bool
  | .int i => f i.toNat
  | _ => false
def eV (e : Nat → V) : V → V
  | .int i => e i.toNat
  | v => v
theorem filt_fe {f : Nat → Bool} {e : Nat → V} {l : List Nat} : ((l.map nV).filter (fV f)).map (eV e) = (l.filter f).map e := by
  rw [filt_nV]
  rfl
theorem filt_all {e : Nat → V} {l : List Nat} : ((l.map nV).filter (fun _ => true)).map (eV e) = l.map e := by
  rw [List.filter_eq_self.mpr (fun _ _ => rfl), List.map_map]
  rfl
theorem lcF_core {σ : L2.St} {H : Hp} {Q : VK} {tt : TT} {te : TE} {g : TG} {vs : List Nat} {a b : Nat} (f : V → Bool) (e : V → V) (hz : b ≤ 1000000) (he : ∀ x ∈ (rgN a b).map nV, Turn H σ g tt te vs f e x)
    (q : ∀ H' D, Same H H' → H D = none → H' D = some (.lst ((((rgN a b).map nV).filter f).map e)) → Q (.ref D) H') {lo : Int} (hlo : lo = (a : Nat)) (D : Addr) (nD : H D = none) : ∃ W : Nat → Nat → Hp → Prop, (∃ m, W 0 m (upd H D (.lst []))) ∧ ∀ i m H, W i m H →
  ((Itr lo (b - a)).stop i H ∧ Q (.ref D) H) ∨ ((Itr lo (b - a)).go i H ∧ ∃ Nx : Hp → Prop, (∀ H', Nx H' → ∃ m', m' < m ∧ W (i + 1) m' H') ∧ ∀ x H', (Itr lo (b - a)).yld i H x H' → g x (wipe σ vs) H' fun σ2 H2 => wipe σ2 vs = wipe σ vs ∧ tt σ2 H2 fun b H3 =>
    if b = true then te σ2 H3 fun y H4 => ∃ acc, H4 D = some (.lst acc) ∧ acc.length < sizeLine ∧ Nx (upd H4 D (.lst (acc ++ [y]))) else Nx H3) := by
  have hzl : ((rgN a b).map nV).length ≤ 1000000 := by
    rw [List.length_map, rgN_len]
    omega
  refine lc_range (lo := lo) (n := b - a) (fun k H' => Same H H' ∧ H' D = some (.lst (((((rgN a b).map nV).take k).filter f).map e))) ⟨same_put nD, by rw [List.take_zero]; exact upd_same⟩ ?_ ?_
  · rintro k H' hk ⟨s', eD⟩
    have hx : ((rgN a b).map nV)[k]? = some (.int (lo + (k : Nat))) := by
      rw [List.getElem?_map, rgN_get hk, hlo]
      show some (V.int ((a + k : Nat) : Int)) = _
      rw [Int.natCast_add]
    exact turn_inv nD hzl hx (he _ (List.mem_of_getElem? hx)) s' eD
  · rintro H' ⟨s', eD⟩
    have hl : b - a = ((rgN a b).map nV).length := by rw [List.length_map, rgN_len]
    rw [hl, List.take_length] at eD
    exact q H' D s' nD eD
theorem lcF_rng1 {σ : L2.St} {H : Hp} {Q : VK} {tt : TT} {te : TE} {ta : TA} {n : Nat} {g : TG} {vs : List Nat} (f : V → Bool) (e : V → V) (hta : ∀ (Q : List V → Hp → Prop), Q [.int (n : Nat)] H → ta σ H Q) (hz : n ≤ 1000000)
    (he : ∀ x ∈ (rgN 0 n).map nV, Turn H σ g tt te vs f e x) (q : ∀ H' D, Same H H' → H D = none → H' D = some (.lst ((((rgN 0 n).map nV).filter f).map e)) → Q (.ref D) H') : tLc (iRng1 ta) g tt te vs σ H Q := by
  refine hta _ ⟨(n : Nat), rfl, by omega, by omega, fun D nD => ?_⟩
  rw [Int.toNat_natCast]
  exact lcF_core (a := 0) (b := n) f e hz he q rfl D nD
theorem lcF_rng2 {σ : L2.St} {H : Hp} {Q : VK} {tt : TT} {te : TE} {ta : TA} {a b : Nat} {g : TG} {vs : List Nat} (f : V → Bool) (e : V → V) (hta : ∀ (Q : List V → Hp → Prop), Q [.int (a : Nat), .int (b : Nat)] H → ta σ H Q) (ha : a ≤ 1000000) (hz : b ≤ 1000000)
    (he : ∀ x ∈ (rgN a b).map nV, Turn H σ g tt te vs f e x) (q : ∀ H' D, Same H H' → H D = none → H' D = some (.lst ((((rgN a b).map nV).filter f).map e)) → Q (.ref D) H') : tLc (iRng2 ta) g tt te vs σ H Q := by
  refine hta _ ⟨(a : Nat), (b : Nat), rfl, ⟨by omega, by omega, by omega, by omega⟩, fun D nD => ?_⟩
  rw [show ((b : Nat) : Int) - ((a : Nat) : Int) = ((b : Nat) : Int) - ((a : Nat) : Int) from rfl, show (((b : Nat) : Int) - ((a : Nat) : Int)).toNat = b - a by omega]
  exact lcF_core (a := a) (b := b) f e hz he q rfl D nD
end Ev

/-! ## for i, x in enumerate(a list) -/
namespace Ev
open PySem PySem.Spec PyProof.Rows L2
theorem for_enumL {K : PySem.W.Frag} {a : Addr} {xs : List V} {g : TG} {tb : TS} {D : Ends} {σ : L2.St} {H : Hp} (Pv : Nat → L2.St → Hp → Prop) (h0 : Pv 0 σ H) (hl : ∀ i σ H, i ≤ xs.length → Pv i σ H → SqL K H a xs)
    (hs : ∀ i x σ H T, xs[i]? = some x → Pv i σ H → H T = none → g (.ref T) σ (upd H T (.tup [.int (i : Nat), x])) fun σ2 H2 => tb { D with nx := Pv (i + 1), ct := Pv (i + 1), bk := D.nx } σ2 H2) (hd : ∀ σ H, Pv xs.length σ H → D.nx σ H) :
    ∃ W : Nat → Nat → L2.St → Hp → Prop, (∃ m, W 0 m σ H) ∧ ∀ i m σ H, W i m σ H →
      ((Ite K a).stop i H ∧ D.nx σ H) ∨ ((Ite K a).go i H ∧ ∃ N : L2.St → Hp → Prop, (∀ σ' H', N σ' H' → ∃ m', m' < m ∧ W (i + 1) m' σ' H') ∧ ∀ x H', (Ite K a).yld i H x H' → g x σ H' fun σ2 H2 => tb { D with nx := N, ct := N, bk := D.nx } σ2 H2) := by
  refine ⟨fun i m σ H => m = xs.length - i ∧ i ≤ xs.length ∧ Pv i σ H, ⟨xs.length, rfl, Nat.zero_le _, h0⟩, ?_⟩
  rintro i m σ H ⟨rfl, hi, hp⟩
  have hq := hl i σ H hi hp
  by_cases hlt : i < xs.length
  · refine .inr ⟨⟨xs, xs[i], hq, List.getElem?_eq_getElem hlt⟩, Pv (i + 1), fun σ' H' h => ⟨xs.length - (i + 1), by omega, rfl, hlt, h⟩, ?_⟩
    rintro v H' ⟨T, x, rfl, nT, rfl, hx⟩
    exact hs i x σ H T (hx xs hq) hp nT
  · have e : i = xs.length := by omega
    subst e
    exact .inl ⟨⟨xs, hq, Nat.le_refl _⟩, hd σ H hp⟩
/-- found so far -/
structure WI (w : List Str) (cs : List Nat) (m i : Nat) : Prop where
  len : w.length = m + m
  ab : ∀ x ∈ w, x = ("a" : Str) ∨ x = ("b" : Str)
  cnt : ∀ c, c < i → c < m → (if w[c]? = some ("a" : Str) then (1 : Int) else 0) + (if w[m + c]? = some ("a" : Str) then 1 else 0) = ((cs.getD c 0 : Nat) : Int)
  rest : ∀ c, i ≤ c → c < m → w[c]? = some ("b" : Str) ∧ w[m + c]? = some ("b" : Str)
def markS (w : List Str) (i : Nat) : Bool → List Str
  | true => w.set i ("a" : Str)
  | false => w
theorem mark_len {w : List Str} {i : Nat} : ∀ {x : Bool}, (markS w i x).length = w.length
  | true => List.length_set
  | false => rfl
theorem mark_ne {w : List Str} {i j : Nat} (h : i ≠ j) : ∀ {x : Bool}, (markS w i x)[j]? = w[j]?
  | true => List.getElem?_set_ne h
  | false => rfl
theorem mark_ab {w : List Str} {i : Nat} (h : ∀ x ∈ w, x = ("a" : Str) ∨ x = ("b" : Str)) : ∀ {x : Bool}, ∀ z ∈ markS w i x, z = ("a" : Str) ∨ z = ("b" : Str)
  | true, z, hz => by
    rcases List.mem_or_eq_of_mem_set hz with e | e
    · exact h z e
    · exact .inl e
  | false, z, hz => h z hz
theorem ab_ne7 : ("a" : Str) ≠ ("b" : Str) := by decide +kernel
theorem mark_at {w : List Str} {i : Nat} (hi : i < w.length) (hb : w[i]? = some ("b" : Str)) : ∀ {x : Bool}, (if (markS w i x)[i]? = some ("a" : Str) then (1 : Int) else 0) = if x = true then 1 else 0
  | true => by
    rw [if_pos rfl, if_pos]
    exact List.getElem?_set_self hi
  | false => by
    rw [if_neg Bool.false_ne_true, if_neg]
    intro z
    have z : w[i]? = some ("a" : Str) := z
    rw [hb] at z
    exact ab_ne7 (Option.some.inj z).symm
theorem WI.next {w : List Str} {cs : List Nat} {m i : Nat} (h : WI w cs m i) (hi : i < m) {x y : Bool} (hxy : (if x = true then (1 : Int) else 0) + (if y = true then 1 else 0) = ((cs.getD i 0 : Nat) : Int)) : WI (markS (markS w i x) (m + i) y) cs m (i + 1) := by
  obtain ⟨b1, b2⟩ := h.rest i (Nat.le_refl i) hi
  have l1 : (markS w i x).length = m + m := mark_len.trans h.len
  refine ⟨mark_len.trans l1, mark_ab (mark_ab h.ab), fun c hc hcm => ?_, fun c hc hcm => ?_⟩
  · by_cases e : c = i
    · subst e
      rw [mark_ne (show m + c ≠ c by omega), mark_at (by rw [h.len]; omega) b1, mark_at (by rw [l1]; omega) (by rw [mark_ne (show c ≠ m + c by omega)]; exact b2)]
      exact hxy
    · rw [mark_ne (show m + i ≠ c by omega), mark_ne (show i ≠ c by omega), mark_ne (show m + i ≠ m + c by omega), mark_ne (show i ≠ m + c by omega)]
      exact h.cnt c (by omega) hcm
  · rw [mark_ne (show m + i ≠ c by omega), mark_ne (show i ≠ c by omega), mark_ne (show m + i ≠ m + c by omega), mark_ne (show i ≠ m + c by omega)]
    exact h.rest c (by omega) hcm
theorem WI.zero (cs : List Nat) (m : Nat) : WI (List.replicate (m + m) ("b" : Str)) cs m 0 := ⟨List.length_replicate, fun x hx => .inr (List.eq_of_mem_replicate hx), fun c hc => absurd hc (Nat.not_lt_zero c), fun c _ hc => ⟨List.getElem?_replicate_of_lt (by omega), List.getElem?_replicate_of_lt (by omega)⟩⟩
end Ev

/-! ## for i, x in enumerate(a tuple), over the library's WalksT.enumerateD and Draws.tuple -/
namespace Ev
open PySem PySem.Spec PyProof.Rows L2
/-- what enumerate(v) leaves, o being v's new iterator -/
def enumHeap (h : Heap) (o : Obj) : Heap := (h.push o).push ⟨.type "enumerate", none, .fields #[.none, .bool false, .ref h.objs.size, rawInt 0, .none, .none], #[]⟩
theorem enum_one {v : Value} {o : Obj} {G : Heap → Prop} (B : Begins v o G) :
    Meets (Builtin.«enumerate.__new__» ⟨[.type "enumerate", v], []⟩) (fun _ R s => G s.heap ∧ R (.ok (.ret (.ref (s.heap.push o).objs.size))) { s with heap := enumHeap s.heap o }) :=
  .of_wp fun prog w A R ⟨hp, g, d, tk, os⟩ ⟨hG, h⟩ => by
    have sub := sub_enumerate
    have it := fun (A : Around) E Q => B.iter prog w A E ⟨hp, g, d, tk, os⟩ Q hG
    wp_walk
    refine wpAny_stack_any fun st => wpAny_pure ?_
    split
    · rename_i c _ _ _ _ _
      cases (c == Value.type "enumerate") <;> (wp_walk using it; exact ⟨_, rfl, h⟩)
    · wp_walk using it
      exact ⟨_, rfl, h⟩
theorem enum_two {P : Program} {w : World} {A : Around} {E : Value → Shared → Prop} {s : Shared} {v : Value} {o : Obj} {G : Heap → Prop} {Q : Value → Shared → Prop} (B : Begins v o G) (hG : G s.heap)
    (q : IsEnum (enumHeap s.heap o) (s.heap.objs.size + 1) s.heap.objs.size 0 .none → Q (.ref (s.heap.objs.size + 1)) { s with heap := enumHeap s.heap o }) : wpAny (model P w) A (call (.type "enumerate") [v]) Q E s := by
  have sz : (s.heap.push o).objs.size = s.heap.objs.size + 1 := Heap.size_push ..
  have at1 := Heap.get?_push_size (s.heap.push o) (o := ⟨.type "enumerate", none, .fields #[.none, .bool false, .ref s.heap.objs.size, rawInt 0, .none, .none], #[]⟩) rfl
  rw [sz] at at1
  have fin : s.heap.objs.size + 1 = (s.heap.push o).objs.size := sz.symm
  refine callType_new F.called_enumerate (by decide) (F.typeCall_enumerate_1 v) (F.newCall_enumerate_1 v) (fun ob => F.args_object_init_2 ob v) F.entry_enumerate_new (enum_one B) ⟨hG, ?_⟩
  show Shared.TypeIs _ _ _ ∧ _
  rw [← fin]
  exact ⟨⟨_, at1, rfl⟩, q at1⟩
/-- the pairs of a tuple's places and items -/
def IteT (K : PySem.W.Frag) (a : Addr) : L2.It where
  go i H := ∃ xs x, SqT K H a xs ∧ xs[i]? = some x
  yld i H v H' := ∃ T x, v = V.ref T ∧ H T = none ∧ H' = upd H T (.tup [.int (i : Nat), x]) ∧ ∀ xs, SqT K H a xs → xs[i]? = some x
  stop i H := ∃ xs, SqT K H a xs ∧ xs.length = i
/-- the cells of such a walk -/
structure EnT (a e it : Addr) (i : Nat) (h : Heap) : Prop where
  en : ∃ old, IsEnum h e it ((i : Nat) : Int) old
  tu : h.IsTupleIter it a i
  ei : e ≠ it
  ai : a ≠ it
  ae : a ≠ e
theorem two_cells {e it b : Addr} (h : b ∈ [e, it]) : b = e ∨ b = it := by simpa using h
theorem turnT {P : Program} {w : World} {K : PySem.W.Frag} {elts : List Expr} {kk : Nat} {tpos : Pos} (a e it : Addr) : L2.Turn P w K (.Tuple elts kk tpos) (IteT K a) [e, it] e (EnT a e it) where
  mem := List.mem_cons_self ..
  obj i h st b hb := by
    rcases two_cells hb with rfl | rfl
    · obtain ⟨old, q⟩ := st.en
      exact ⟨_, q, nofun⟩
    · obtain ⟨o, q, _, dt⟩ := st.tu
      exact ⟨o, q, fun v z => nomatch dt.symm.trans z⟩
  keep i h h' st k := by
    obtain ⟨old, q⟩ := st.en
    exact ⟨⟨old, k e (by simp) _ q⟩, st.tu.at (k it (by simp)), st.ei, st.ai, st.ae⟩
  item := by
    rintro X rfl rfl rfl calm i pins s σ H E I own st ⟨xs, x, hq, hx⟩
    obtain ⟨its, vals, isT, _⟩ := I.tuple hq
    obtain ⟨u, hu, ru⟩ := vals.get hx
    have W := WalksT.enumerateD (Draws.tuple (prog := X.prog) (w := X.w) (A := X.A.in1) (I.ok.hd calm) it a st.ai its.toArray) e st.ei (by simp [st.ei, Ne.symm st.ae]) (by simp)
    have inside : i < its.toArray.size := by
      rw [List.size_toArray]
      exact (List.getElem?_eq_some_iff.mp hu).1
    refine W.item i s _ E inside ⟨st.en, st.tu, isT⟩ fun T vs h1 tk pt big tup mid k1 => ⟨_, rfl, W.go elts kk tpos i T _ _ E mid fun h2 st2 k2 => ?_⟩
    obtain ⟨t, y, hy, rfl⟩ := pt
    obtain rfl : y = u := Option.some.inj (hy.symm.trans (by simpa using hu))
    obtain ⟨oT, gT, cT, dT⟩ := tup
    have new : ObjOk X.prog X.w (upd H T (.tup [.int (i : Nat), x])) h2 T (.tup [.int (i : Nat), x]) :=
      ⟨(by show 2 ≤ sizeLine; decide), [.int i t, y], .cons ⟨t, rfl⟩ (.cons ru .nil), oT, k2 T oT (W.apart i T h1 mid) gT, cT, dT⟩
    have J := I.turnedNew (t' := tk) (fun b o nb q => k2 b o nb (k1 b o nb q)) own big new
    have fresh : ∀ b ∈ [e, it], b ≠ T := fun b hb z => by
      obtain ⟨o, q, _⟩ : ∃ o, s.heap.get? b = some o ∧ True := by
        rcases two_cells hb with rfl | rfl
        · obtain ⟨old, q⟩ := st.en
          exact ⟨_, q, trivial⟩
        · obtain ⟨o, q, _⟩ := st.tu
          exact ⟨o, q, trivial⟩
      have lt := Heap.lt_size q
      rw [z] at lt
      exact Nat.lt_irrefl _ (Nat.lt_of_lt_of_le lt big)
    refine ⟨.ref T, _, J, rfl, ⟨T, x, rfl, I.hok.fresh big, rfl, fun ys hy => I.tuple_inj hq hy ▸ hx⟩, ⟨?_, st2.2.1, st.ei, st.ai, st.ae⟩, fun b hb => ?_⟩
    · obtain ⟨old, q⟩ := st2.1
      exact ⟨old, q⟩
    · rw [upd_ne (fresh b hb)]
      exact (own b hb).1
  done := by
    rintro X rfl rfl rfl calm i pins s σ H E I own st ⟨xs, hq, hl⟩
    obtain ⟨its, vals, isT, _⟩ := I.tuple hq
    have n : its.toArray.size = i := by
      rw [List.size_toArray, ← hl]
      exact vals.length.symm
    obtain ⟨old, q⟩ := st.en
    obtain ⟨f0, f1, _, f3, f4, f5⟩ := own it (by simp)
    refine wpAny_pyNext_enum_endD (Draws.tuple (A := X.A.in1) (I.ok.hd calm) it a st.ai its.toArray) q (by rw [n]; exact ⟨st.tu, isT⟩) fun h' k => ⟨rfl, ?_⟩
    exact I.turned (t' := s.toks) (fun b o nb z => k b o nb z) f0 f1 f3 f4 f5
  self A i s Q E st h := by
    obtain ⟨old, q⟩ := st.en
    exact wpAny_pyIter_enum q h
def iEnumT (K : PySem.W.Frag) (ta : TA) : TI := fun σ H R => ta σ H fun vs H1 => ∃ a xs, vs = [.ref a] ∧ SqT K H1 a xs ∧ R (IteT K a) H1
theorem pi_enumT {X : Cx} {e : Expr} {ta : TA} {p pos tpos : Pos} {elts : List Expr} {kk : Nat} (hg : Gl X "enumerate") (hm : X.mg "enumerate" = none) (ha : PA X [e] ta) (hs : starEach [e] X.env = [(false, eval e X.env)] := by rfl) :
    PI X (.Tuple elts kk tpos) (.Call (.Name "enumerate" p) [e] [] pos) (iEnumT X.K ta) where
  run pins s σ H R I h := by
    have args := ha.run pos pins s σ H _ I h
    refine Call_ (ld_blt I hg hm boot_enumerate (PyProof.Rows.callWith_type1 (thn args ?_) hs rfl))
    rintro us s1 ⟨vs, H1, I1, rel, a, xs, rfl, hq, q⟩
    obtain ⟨u, rfl, ra⟩ := vals1 rel
    cases ra
    obtain ⟨its, vals, isT, _⟩ := I1.tuple hq
    obtain ⟨oa, ga, _⟩ := id isT
    have la := Heap.lt_size ga
    refine enum_two (begins_tuple a its.toArray) isT fun en => wpAny_pyIter_enum en ?_
    have kp : ∀ b o, s1.heap.get? b = some o → (enumHeap s1.heap ⟨.type "tuple_iterator", none, .fields #[.ref a, .int 0 0], #[]⟩).get? b = some o := fun b o z => Heap.get?_push_of_some _ (Heap.get?_push_of_some _ z)
    have ti : (enumHeap s1.heap ⟨.type "tuple_iterator", none, .fields #[.ref a, .int 0 0], #[]⟩).IsTupleIter s1.heap.objs.size a 0 := ⟨_, Heap.get?_push_of_some _ (Heap.get?_push_size _ rfl), rfl, rfl⟩
    refine ⟨_, [s1.heap.objs.size + 1, s1.heap.objs.size], _, _, H1, rfl, I1.kept (t' := s1.toks) kp, turnT a _ _, ⟨⟨.none, en⟩, ti, Nat.succ_ne_self _, Nat.ne_of_lt la, Nat.ne_of_lt (Nat.lt_succ_of_lt la)⟩, fun b hb => ?_, q⟩
    have above : s1.heap.objs.size ≤ b := by
      rcases two_cells hb with z | z
      · exact z ▸ Nat.le_succ _
      · exact z ▸ Nat.le_refl _
    exact I1.fpOk above (I1.hok.fresh above)
theorem walk_enumT {K : PySem.W.Frag} {a : Addr} {xs : List V} : Walk (IteT K a) xs.length (fun H => SqT K H a xs) (YPair (fun i => some (.int (i : Nat))) (fun i => xs[i]?)) where
  goes i H hi hq := ⟨xs, xs[i], hq, List.getElem?_eq_getElem hi⟩
  stops H hq := ⟨xs, hq, rfl⟩
  yields i H v H' _ hq := by
    rintro ⟨T, x, rfl, nT, rfl, hx⟩
    exact ⟨T, .int (i : Nat), x, rfl, nT, rfl, rfl, hx xs hq⟩
end Ev

/-! ## i *= j -/
namespace Ev
open PySem PySem.Spec PyProof.Rows L2
def ipM : TIp := fun x y H Q => ∃ i j : Int, x = .int i ∧ y = .int j ∧ CMulW i j ∧ Q (.int (i * j)) H
theorem ip_mul {X : Cx} : PIp X .Mult ipM := by
  rintro pins s σ H _ _ v u Q I r1 r2 ⟨i, j, rfl, rfl, fits, q⟩
  rcases r1 with ⟨t1, rfl⟩
  rcases r2 with ⟨t2, rfl⟩
  exact PySem.P.imul_int ⟨.int (i * j), H, I.tok _, ⟨_, rfl⟩, q⟩ fits.ok
end Ev

/-! ## do_meet, is_exact_cover -/
namespace Ev
open PySem PySem.Spec PyProof.Rows L2
def cD (e : Cls2) : PyData := .tuple [.int (e.1 : Nat), .int (e.2 : Nat)]
theorem da_cD {K : PySem.W.Frag} {H : Hp} {v : V} {e : Cls2} (h : Da K H v (cD e)) : ∃ b, v = .ref b ∧ SqT K H b [.int (e.1 : Nat), .int (e.2 : Nat)] := by
  cases h with
  | @tup b xs _ hs ha =>
  cases ha with
  | cons h1 t =>
    cases t with
    | cons h2 t =>
      cases t
      cases h1
      cases h2
      exact ⟨b, rfl, hs⟩
def spMt (K : PySem.W.Frag) : Sp := fun vs H Q _ => ∃ (x y : V) (a b : Cls2), vs = [x, y] ∧ Da K H x (cD a) ∧ Da K H y (cD b) ∧ 0 < a.1 ∧ Q (.bl (meetB a b)) H
def spEx (K : PySem.W.Frag) : Sp := fun vs H Q _ => ∃ (x : V) (S : List Cls2), vs = [x] ∧ Da K H x (.tuple (S.map cD)) ∧ (∀ e ∈ S, 0 < e.1 ∧ e.1 < 2 ^ 60) ∧ S.length ≤ 40 ∧ ∀ H', Same H H' → Q (.bl (exB S)) H'
theorem scMt : FnScope ["sampler", "other", "period", "start", "other_period", "other_start"] ["sampler", "other"] (defScope (topS 4)) := ⟨rfl, rfl, rfl, by decide +kernel, rfl, by decide +kernel, by decide +kernel⟩
theorem scExc : FnScope ["samplers", "at", "sampler", "earlier", "whole", "period", "start"] ["samplers"] (defScope (topS 3)) := ⟨rfl, rfl, rfl, by decide +kernel, rfl, by decide +kernel, by decide +kernel⟩
section
variable {P : Program} {w : World} {K : PySem.W.Frag} {mg : Str → Option Value} {base : Heap}
theorem ok_mt (D : Def K mg "do_meet" (topS 4) ["sampler", "other"]) (C_common_divisor : Cal P w K mg base 1 "common_divisor" ["one", "other"] spGcd) : Cal P w K mg base 2 "do_meet" ["sampler", "other"] (spMt K) := by
  refine D.ok scMt (fun vs H Q E h => ?_) (fun fa cdv A outer sh H vs Q E hr gd h => ?_)
  · obtain ⟨x, y, a, b, rfl, _⟩ := h
    rfl
  · obtain ⟨x, y, a, b, rfl, hx, hy, ha, q⟩ := h
    refine ⟨_, (pss_cons (ps_asg (pv 0) (pg_tup rfl (pgs_cons (pg_name (i := 2) scMt.nd rfl (Or.inl rfl)) (pgs_cons (pg_name (i := 3) scMt.nd rfl (Or.inl rfl)) pgs_nil))))
      (pss_cons (ps_asg (pv 1) (pg_tup rfl (pgs_cons (pg_name (i := 4) scMt.nd rfl (Or.inl rfl)) (pgs_cons (pg_name (i := 5) scMt.nd rfl (Or.inl rfl)) pgs_nil))))
      (pss_one (ps_ret (pe_cmpR op_eq (pe_op op_mod (pe_op op_sub (pv 3) (pv 5)) (pcall C_common_divisor (hr.mono (by omega)) gd (by rfl) (pa_cons (pv 2) (pa_cons (pv 4) pa_nil)))) pe_int (nomark _)))))), ?_⟩
    obtain ⟨p, rfl, hp⟩ := da_cD hx
    obtain ⟨r, rfl, hr'⟩ := da_cD hy
    refine ⟨_, rfl, p, _, rfl, hp, rfl, _, _, rfl, _, _, rfl, rfl, ?_⟩
    refine ⟨_, rfl, r, _, rfl, hr', rfl, _, _, rfl, _, _, rfl, rfl, ?_⟩
    refine ⟨_, rfl, _, rfl, _, _, rfl, rfl, _, rfl, _, rfl, a.1, b.1, rfl, ?_⟩
    have hg : (0 : Int) < ((Nat.gcd a.1 b.1 : Nat) : Int) := by
      have := Nat.gcd_pos_of_pos_left b.1 ha
      omega
    refine ⟨_, _, rfl, rfl, hg, rfl, ?_⟩
    unfold meetB at q
    have e : decide (V.int ((((a.2 : Nat) : Int) - ((b.2 : Nat) : Int)) % ((Nat.gcd a.1 b.1 : Nat) : Int)) = V.int 0) = decide ((((a.2 : Nat) : Int) - ((b.2 : Nat) : Int)) % ((Nat.gcd a.1 b.1 : Nat) : Int) = 0) := decide_eq_decide.mpr ⟨fun h => V.int.inj h, fun h => by rw [h]⟩
    dsimp only
    rw [e]
    exact q
theorem ok_exc (D : Def K mg "is_exact_cover" (topS 3) ["samplers"]) (C_do_meet : Cal P w K mg base 2 "do_meet" ["sampler", "other"] (spMt K)) (nb : NB mg) : Cal P w K mg base 3 "is_exact_cover" ["samplers"] (spEx K) := by
  refine D.ok scExc (fun vs H Q E h => ?_) (fun fa cdv A outer sh H vs Q E hr gd h => ?_)
  · obtain ⟨x, S, rfl, _⟩ := h
    rfl
  · obtain ⟨x, S, rfl, hx, hS, h40, q⟩ := h
    refine ⟨_, (pss_cons (ps_for PassesOwn.never rfl (pi_enumT rfl nb.at (pa_cons (pv 0) pa_nil)) (pg_tup rfl (pgs_cons (pg_name (i := 1) scExc.nd rfl (Or.inl rfl)) (pgs_cons (pg_name (i := 2) scExc.nd rfl (.inr rfl)) pgs_nil)))
        (pss_one (ps_if (pt_val (pe_callB (cr_any rfl) (by rfl) nb.at (by decide +kernel) (pa_cons (pe_lc (own := [("earlier", 3)]) (g := (gName 3)) (tt := tYes) (te := (tCall (spMt K) [] E0 (tCons (tVar 2) (tCons (tVar 3) tNil)))) rfl scExc.nd (pi_tup (pe_slice sl_tupA (pv 0) po_none (po_some (pv 1)))) (blkOk_by (N := ["samplers", "at", "sampler", "earlier", "whole", "period", "start"]) (sc := defScope (topS 3)) (by decide +kernel)) (fun _ _ _ _ _ => (pg_name (i := 3) scExc.nd rfl (Or.inl rfl))) (fun _ _ _ _ _ => pts_nil) (fun _ _ _ _ _ => (pcall C_do_meet (hr.mono (by omega)) gd (by rfl) (pa_cons (pv 2) (pa_cons (pv 3) pa_nil))))) pa_nil)))
          (pss_one (ps_ret pe_bl))
          pss_nil)))
      (pss_cons (ps_set (i := 4) scExc.nd rfl (.inr rfl) pe_int)
      (pss_cons (ps_for PassesOwn.never rfl (pi_tup (pv 0)) (pg_tup rfl (pgs_cons (pg_name (i := 5) scExc.nd rfl (Or.inl rfl)) (pgs_cons (pg_name (i := 6) scExc.nd rfl (Or.inl rfl)) pgs_nil)))
        (pss_one (ps_aug (i := 4) scExc.nd rfl (.inr rfl) (pv 5) ip_mul)))
      (pss_one (ps_ret (pe_cmpR op_eq (pe_callB (cr_sum rfl) (by rfl) nb.at (by decide +kernel) (pa_cons (pe_lc (own := [("period", 5), ("start", 6)]) (g := (gTup K 2 (gCons (gName 5) (gCons (gName 6) gNil)))) (tt := tYes) (te := (tOp (rI CDivW fun i j => .int (i / j)) (tVar 4) (tVar 5))) rfl scExc.nd (pi_tup (pv 0)) (blkOk_by (N := ["samplers", "at", "sampler", "earlier", "whole", "period", "start"]) (sc := defScope (topS 3)) (by decide +kernel)) (fun _ _ _ _ _ => (pg_tup rfl (pgs_cons (pg_name (i := 5) scExc.nd rfl (Or.inl rfl)) (pgs_cons (pg_name (i := 6) scExc.nd rfl (Or.inl rfl)) pgs_nil)))) (fun _ _ _ _ _ => pts_nil) (fun _ _ _ _ _ => (pe_op op_fdivW (pv 4) (pv 5)))) pa_nil)) (pv 4) (nomark _))))))), ?_⟩
    have sl := sizeLine_eq
    obtain ⟨a, xs, rfl, ht, hall⟩ : ∃ a xs, x = .ref a ∧ SqT K H a xs ∧ DaAll K H xs (S.map cD) := by
      cases hx with
      | @tup a xs _ ht hall => exact ⟨a, xs, rfl, ht, hall⟩
    have hxl := daAll_len hall
    rw [List.length_map] at hxl
    have el : ∀ {H' : Hp} {i : Nat} {v : V}, Same H H' → xs[i]? = some v → ∃ (h : i < S.length), Da K H' v (cD S[i]) := fun {H' i v} s hv => by
      obtain ⟨d, hd, hvd⟩ := daAll_at (hall.mono s) hv
      have hi : i < S.length := by
        have := (List.getElem?_eq_some_iff.mp hv).1
        omega
      rw [List.getElem?_map, List.getElem?_eq_getElem hi] at hd
      cases hd
      exact ⟨hi, hvd⟩
    refine ⟨_, rfl, a, xs, rfl, ht, for_it (walk_enumT (K := K) (a := a) (xs := xs)) (fun i σ' H' => ∃ y1 y2 y3 y4 y5 y6 : Option V, σ' = [some (.ref a), y1, y2, y3, y4, y5, y6] ∧ Same H H' ∧ noMeet (S.take i)) ⟨_, _, _, _, _, _, rfl, Same.rfl', by rw [List.take_zero]; exact List.Pairwise.nil⟩ (fun i σ' H' _ ⟨_, _, _, _, _, _, _, s', _⟩ => seqT_mono s' ht) ?_ ?_⟩
    · rintro i v σ' H1 H2 hi ⟨y1, y2, y3, y4, y5, y6, rfl, s1, hno⟩ ⟨T, z1, z2, rfl, nT, rfl, e1, e2⟩
      cases e1
      have sT := same_put (o := .tup [.int (i : Nat), z2]) nT
      obtain ⟨hiS, hz2⟩ := el (s1.trans sT) e2
      have s2 := s1.trans sT
      refine ⟨T, _, rfl, .inl (.inl upd_same), rfl, _, _, rfl, _, _, rfl, rfl, ?_⟩
      generalize upd H1 T (.tup [.int (i : Nat), z2]) = HT at sT hz2 s2 ⊢
      refine ⟨_, rfl, _, rfl, _, rfl, ?_⟩
      refine sl_val (hx.mono s2) fun H3 u s3 hu => ?_
      rw [cut_to, ← List.map_take] at hu
      obtain ⟨b, ys, rfl, hbt, hbd⟩ : ∃ b ys, u = .ref b ∧ SqT K H3 b ys ∧ DaAll K H3 ys ((S.take i).map cD) := by
        cases hu with
        | @tup b ys _ hbt hbd => exact ⟨b, ys, rfl, hbt, hbd⟩
      have hyl := daAll_len hbd
      rw [List.length_map] at hyl
      refine ⟨b, rfl, ⟨ys, hbt⟩, fun D nD => ?_⟩
      refine lc_tup (K := K) (a := b) (xs := ys) (fun k H' => Same H3 H' ∧ H' D = some (.lst (((S.take i).take k).map fun e => .bl (meetB S[i] e)))) ⟨same_put nD, by rw [List.take_zero]; exact upd_same⟩ (fun k H' _ ⟨s', _⟩ => seqT_mono s' hbt) ?_ ?_
      · rintro k v H4 hk ⟨s4, eD⟩
        obtain ⟨d, hd, hvd⟩ := daAll_at (hbd.mono s4) hk
        have hk2 : k < (S.take i).length := by
          have := (List.getElem?_eq_some_iff.mp hk).1
          omega
        rw [List.getElem?_map, List.getElem?_eq_getElem hk2] at hd
        cases hd
        refine ⟨rfl, ?_⟩
        refine ⟨_, rfl, _, rfl, _, _, S[i], (S.take i)[k], rfl, hz2.mono (s3.trans s4), hvd, (hS _ (List.getElem_mem hiS)).1, _, eD, by rw [List.length_map, List.length_take, List.length_take]; omega, fun b' ob e => ?_, ?_⟩
        · rw [upd_ne (ne_of_none e nD)]
          exact s4 _ _ e
        · rw [upd_same, List.take_succ_eq_append_getElem hk2, List.map_append]
          rfl
      · rintro H4 ⟨s4, eD⟩
        rw [hyl, List.take_length] at eD
        refine ⟨D, (S.take i).map (meetB S[i]), rfl, .inl (.inl (by rw [eD, List.map_map]; rfl)), ?_⟩
        refine ⟨_, rfl, ite2 (fun e => ?_) (fun e => ?_)⟩
        · have z : exB S = false := by
            unfold exB
            rw [Bool.and_eq_false_iff]
            refine .inl (decide_eq_false fun n => ?_)
            obtain ⟨m, hm, em⟩ := List.any_eq_true.mp e
            obtain ⟨e0, he0, rfl⟩ := List.mem_map.mp hm
            have n1 : noMeet (S.take (i + 1)) := List.Pairwise.sublist (List.take_sublist _ _) n
            rw [List.take_succ_eq_append_getElem hiS] at n1
            have := (List.pairwise_append.mp n1).2.2 e0 he0 S[i] (List.mem_singleton_self _)
            have em : meetB S[i] e0 = true := em
            rw [em] at this
            cases this
          have qq := q H4 (s2.trans (s3.trans s4))
          rw [z] at qq
          exact qq
        · refine ⟨_, _, _, _, _, _, rfl, s2.trans (s3.trans s4), ?_⟩
          rw [List.take_succ_eq_append_getElem hiS]
          refine List.pairwise_append.mpr ⟨hno, List.pairwise_singleton _ _, fun e0 he0 e1 he1 => ?_⟩
          rw [List.mem_singleton.mp he1]
          exact Bool.eq_false_iff.mpr fun m => e (List.any_eq_true.mpr ⟨_, List.mem_map_of_mem he0, m⟩)
    · rintro σ' H1 ⟨y1, y2, y3, y4, y5, y6, rfl, s1, hno⟩
      rw [hxl, List.take_length] at hno
      dsimp only
      have hpr : ∀ k, k ≤ S.length → (S.take k).foldl (fun w e => w * e.1) 1 < 2 ^ (60 * k + 1) := fun k => by
        induction k with
        | zero => intro _; rw [List.take_zero]; decide
        | succ k ih =>
          intro hk
          have hk' : k < S.length := hk
          rw [List.take_succ_eq_append_getElem hk', List.foldl_append, List.foldl_cons, List.foldl_nil, show 60 * (k + 1) + 1 = (60 * k + 1) + 60 by omega, Nat.pow_add]
          exact Nat.mul_lt_mul'' (ih (by omega)) (hS _ (List.getElem_mem hk')).2
      refine ⟨_, rfl, a, rfl, ⟨xs, seqT_mono s1 ht⟩, ?_⟩
      refine for_tup (K := K) (a := a) (xs := xs) (fun k σ' H' => ∃ y1 y2 y3 y5 y6 : Option V, σ' = [some (.ref a), y1, y2, y3, some (.int (((S.take k).foldl (fun w e => w * e.1) 1 : Nat) : Int)), y5, y6] ∧ Same H H') ⟨y1, y2, y3, y5, y6, rfl, s1⟩ (fun k σ' H' _ ⟨_, _, _, _, _, _, s'⟩ => seqT_mono s' ht) ?_ ?_
      · rintro k v σ' H2 hk ⟨y1, y2, y3, y5, y6, rfl, s2⟩
        obtain ⟨hkS, hv⟩ := el s2 hk
        obtain ⟨b, rfl, hb⟩ := da_cD hv
        refine ⟨b, _, rfl, hb, rfl, _, _, rfl, _, _, rfl, rfl, ?_⟩
        have lt := hpr k (Nat.le_of_lt hkS)
        have h2 := (hS _ (List.getElem_mem hkS)).2
        refine ⟨_, rfl, _, rfl, _, _, rfl, rfl, wide_mul (a := 2401) (b := 60) (by rw [Int.natAbs_natCast]; exact Nat.lt_of_lt_of_le lt (Nat.pow_le_pow_right (by decide) (by omega))) (by rw [Int.natAbs_natCast]; exact h2) (by decide) (by decide) (by decide), y1, y2, y3, some (.int (S[k].1 : Nat)), some (.int (S[k].2 : Nat)), ?_, s2⟩
        rw [List.take_succ_eq_append_getElem hkS, List.foldl_append, List.foldl_cons, List.foldl_nil, Int.natCast_mul]
        rfl
      · rintro σ' H2 ⟨y1, y2, y3, y5, y6, rfl, s2⟩
        rw [hxl, List.take_length]
        refine ⟨_, rfl, a, rfl, ⟨xs, seqT_mono s2 ht⟩, fun D nD => ?_⟩
        refine lc_tup (K := K) (a := a) (xs := xs) (fun k H' => Same H2 H' ∧ H' D = some (.lst ((S.take k).map fun e => .int ((prodP S / e.1 : Nat) : Int)))) ⟨same_put nD, by rw [List.take_zero]; exact upd_same⟩ (fun k H' _ ⟨s', _⟩ => seqT_mono (s2.trans s') ht) ?_ ?_
        · rintro k v H3 hk ⟨s3, eD⟩
          obtain ⟨hkS, hv⟩ := el (s2.trans s3) hk
          obtain ⟨b, rfl, hb⟩ := da_cD hv
          refine ⟨b, _, rfl, hb, rfl, _, _, rfl, _, _, rfl, rfl, rfl, ?_⟩
          have h2 := hS _ (List.getElem_mem hkS)
          refine ⟨_, rfl, _, rfl, _, _, rfl, rfl, wide_div (b := 60) (by omega) (by rw [Int.natAbs_natCast]; exact h2.2) (by decide) (by decide), _, eD, by rw [List.length_map, List.length_take]; omega, fun b' ob e => ?_, ?_⟩
          · rw [upd_ne (ne_of_none e nD)]
            exact s3 _ _ e
          · rw [upd_same, List.take_succ_eq_append_getElem hkS, List.map_append, List.map_singleton, Int.natCast_ediv]
            rfl
        · rintro H3 ⟨s3, eD⟩
          rw [hxl, List.take_length] at eD
          refine ⟨D, S.map fun e => ((prodP S / e.1 : Nat) : Int), rfl, .inl (.inl (by rw [eD, List.map_map]; rfl)), ?_⟩
          refine ⟨_, rfl, rfl, ?_⟩
          have es : (S.map fun e => ((prodP S / e.1 : Nat) : Int)).sum = ((sumW (prodP S) S : Nat) : Int) := by
            unfold sumW
            generalize prodP S = W
            have go : ∀ l : List Cls2, (l.map fun e => ((W / e.1 : Nat) : Int)).sum = (((l.map fun e => W / e.1).sum : Nat) : Int) := fun l => by
              induction l with
              | nil => rfl
              | cons e l ih => rw [List.map_cons, List.sum_cons, ih, List.map_cons, List.sum_cons, Int.natCast_add]
            exact go S
          have z : exB S = decide (sumW (prodP S) S = prodP S) := by
            unfold exB
            rw [decide_eq_true hno, Bool.true_and]
          have qq := q H3 (s2.trans s3)
          rw [z] at qq
          rw [es]
          have e2 : decide (V.int ((sumW (prodP S) S : Nat) : Int) = V.int ((S.foldl (fun w e => w * e.1) 1 : Nat) : Int)) = decide (sumW (prodP S) S = prodP S) := decide_eq_decide.mpr ⟨fun h => Int.ofNat.inj (V.int.inj h), fun h => by rw [h]; rfl⟩
          rw [e2]
          exact qq
end
end Ev

/-! ## What the script is drawn from -/
namespace Ev
open PySem PySem.Spec PyProof.Rows L2
theorem scSt : FnScope ["_law_script", "_law_k", "_law_cell", "_law_great"] ["_law_script", "_law_k"] (defScope (topS 6)) := ⟨rfl, rfl, rfl, by decide +kernel, rfl, by decide +kernel, by decide +kernel⟩
theorem scDr : FnScope ["_law_draws_here", "_law_many", "_law_digit", "_law_step", "_law_prime", "_law_mixed"] ["_law_draws_here", "_law_many"] (defScope (topS 7)) := ⟨rfl, rfl, rfl, by decide +kernel, rfl, by decide +kernel, by decide +kernel⟩
theorem scPk : FnScope ["_law_draws_here", "_law_items"] ["_law_draws_here", "_law_items"] (defScope (topS 8)) := ⟨rfl, rfl, rfl, by decide +kernel, rfl, by decide +kernel, by decide +kernel⟩
theorem bigS : (0 : Int) < (10 ^ (60 : Int).toNat) ^ (5 : Int).toNat := by decide +kernel
section
variable {P : Program} {w : World} {K : PySem.W.Frag} {mg : Str → Option Value} {base : Heap}
theorem ok_draws (D : Def K mg "_law_draws" (topS 6) ["_law_script", "_law_k"]) (nb : NB mg) : Cal P w K mg base 1 "_law_draws" ["_law_script", "_law_k"] (spPotS K) := by
  refine D.ok scSt (fun vs H Q E h => ?_) (fun f cdv A outer s H vs Q E hr gd h => ?_)
  · obtain ⟨a, ns, k, rfl, _⟩ := h
    rfl
  · obtain ⟨a, ns, k, rfl, hS, k0, k1, q⟩ := h
    refine ⟨_, (pss_cons (ps_set (i := 2) scSt.nd rfl (.inl rfl) (pe_ifExp (pt_cmpR op_lt (pv 1) (pe_callB call_len_seq (by rfl) nb.at PySem.boot_len (pa_cons (pv 0) pa_nil)) (nomark _)) (pe_ix ix_list (pv 0) (pv 1) (fun _ _ => rfl)) (pe_op op_add (pe_op op_mul pe_int (pv 1)) pe_int)))
      (pss_cons (ps_set (i := 3) scSt.nd rfl (.inl rfl) (pe_op op_mul (pe_op op_mod (pe_callB call_abs (by rfl) nb.at (by decide +kernel) (pa_cons (pv 2) pa_nil)) (pe_op op_powG (pe_op op_pow pe_int pe_int) pe_int)) (pe_callTy call_int1 (by rfl) nb.at (by decide +kernel) (pa_cons (pe_cmpR op_ge (pe_callB call_abs (by rfl) nb.at (by decide +kernel) (pa_cons (pv 2) pa_nil)) (pe_op op_pow pe_int pe_int) (nomark _)) pa_nil))))
      (pss_one (ps_ret (pe_lst (pa_cons (pv 3) (pa_cons (pe_op op_mod (pe_op op_mul (pe_op op_add (pe_op op_add (pe_op op_mod (pv 2) pe_int) (pe_op op_mul (pe_op op_mul pe_int (pv 1)) (pv 1))) pe_int) pe_int) pe_int) (pa_cons pe_int pa_nil)))))))), ?_⟩
    refine ⟨_, rfl, _, rfl, a, _, rfl, .inl hS, k, _, rfl, rfl, _, rfl, ite2 (fun e => ?a) (fun e => ?b)⟩
    case' a =>
      have hk : k < ((ns.map V.int).length : Int) := of_decide_eq_true e
      rw [List.length_map] at hk
      have hk' : k.toNat < ns.length := by omega
      have g : atI (ns.map V.int) k = some (.int ns[k.toNat]) := by
        have z : (ns.map V.int)[k.toNat]? = some (.int ns[k.toNat]) := by
          rw [List.getElem?_map, List.getElem?_eq_getElem hk']
          rfl
        have y := atI_nat z
        rw [Int.toNat_of_nonneg k0] at y
        exact y
      refine ⟨_, rfl, _, rfl, a, _, k, _, rfl, rfl, hS, g, ?_⟩
    case' b =>
      refine ⟨_, rfl, 7, k, rfl, rfl, .inl ⟨by decide, by decide⟩, _, _, rfl, rfl, ?_⟩
    all_goals
      refine ⟨_, rfl, _, rfl, 10, 60, rfl, rfl, ⟨by decide, by decide, by decide⟩, _, 5, rfl, rfl, ⟨by decide, by decide +kernel⟩, _, _, rfl, rfl, bigS, ?_⟩
      refine ⟨_, rfl, _, rfl, 10, 18, rfl, rfl, ⟨by decide, by decide, by decide⟩, _, _, rfl, rfl, .inr ⟨_, rfl, _, _, rfl, rfl, .inr (flag_in _), ?_⟩⟩
      refine ⟨_, rfl, _, rfl, _, _, rfl, rfl, (show (0 : Int) < 2305843009213693951 by decide), _, rfl, _, _, rfl, rfl, .inl ⟨by decide, by decide⟩, _, rfl, _, _, rfl, rfl, .inr ⟨by omega, by omega⟩, ?_⟩
      refine ⟨_, _, rfl, rfl, _, _, rfl, rfl, _, _, rfl, rfl, .inr ⟨by decide, by decide⟩, _, _, rfl, rfl, (show (0 : Int) < 2305843009213693921 by decide), (by show 3 ≤ sizeLine; decide), fun p np => q _ p np (same_put np) ⟨_, upd_same, ?_⟩⟩
      exact ⟨_, _, 0, rfl, own_nn _ _ _ bigS, Int.emod_nonneg _ (by decide), Int.emod_lt_of_pos _ (by decide), Int.le_refl 0, by decide⟩
theorem ok_below (D : Def K mg "_law_below" (topS 7) ["_law_draws_here", "_law_many"]) (nb : NB mg) : Cal P w K mg base 1 "_law_below" ["_law_draws_here", "_law_many"] spDraw := by
  refine D.ok scDr (fun vs H Q E h => ?_) (fun f cdv A outer s H vs Q E hr gd h => ?_)
  · obtain ⟨p, m, n, rfl, _⟩ := h
    rfl
  · obtain ⟨p, m, n, rfl, ⟨xs, hp, x, y, c, rfl, x0, y0, y1, c0, c1⟩, hn, m0, m1, q⟩ := h
    have hL : SqL K H p [.int x, .int y, .int c] := .inl (.inl hp)
    refine ⟨_, (pss_cons (ps_if (pt_cmpR op_gt (pe_ix ix_list (pv 0) pe_int (fun _ _ => rfl)) pe_int (nomark _))
        (pss_cons (ps_set (i := 2) scDr.nd rfl (.inl rfl) (pe_op op_mod (pe_ix ix_list (pv 0) pe_int (fun _ _ => rfl)) (pv 1)))
        (pss_cons (ps_asg (pe_op op_fdivW (pe_ix ix_list (pv 0) pe_int (fun _ _ => rfl)) (pv 1)) (pg_sub (pv 0) pe_int set_list))
        (pss_one (ps_ret (pv 2)))))
        pss_nil)
      (pss_cons (ps_set (i := 3) scDr.nd rfl (.inl rfl) (pe_op op_add (pe_ix ix_list (pv 0) pe_int (fun _ _ => rfl)) pe_int))
      (pss_cons (ps_asg (pv 3) (pg_sub (pv 0) pe_int set_list))
      (pss_cons (ps_set (i := 4) scDr.nd rfl (.inl rfl) (pe_ix ix_list (pe_lst (pa_cons pe_int (pa_cons pe_int (pa_cons pe_int (pa_cons pe_int pa_nil))))) (pe_op op_mod (pv 3) pe_int) (fun _ _ => rfl)))
      (pss_cons (ps_set (i := 5) scDr.nd rfl (.inl rfl) (pe_op op_mod (pe_op op_add (pe_op op_add (pe_ix ix_list (pv 0) pe_int (fun _ _ => rfl)) (pe_op op_mul (pe_op op_mul pe_int (pv 3)) (pv 3))) (pe_op op_mul pe_int (pv 3))) (pv 4)))
      (pss_cons (ps_set (i := 5) scDr.nd rfl (.inl rfl) (pe_op op_mod (pe_op op_pow (pv 5) pe_int) (pv 4)))
      (pss_one (ps_ret (pe_op op_mod (pe_op op_add (pe_op op_fdivW (pv 5) pe_int) (pe_op op_mul (pe_op op_fdivW (pv 5) pe_int) pe_int)) (pv 1)))))))))), ?_⟩
    refine ⟨_, rfl, p, _, 0, .int x, rfl, rfl, hL, rfl, _, _, rfl, rfl, _, rfl, ite2 (fun e => ?_) (fun e => ?_)⟩
    · have hx : 0 < x := of_decide_eq_true e
      refine ⟨_, rfl, p, _, 0, .int x, rfl, rfl, hL, rfl, _, rfl, _, _, rfl, rfl, m0, ?_⟩
      refine ⟨_, rfl, p, _, 0, .int x, rfl, rfl, hL, rfl, _, rfl, _, _, rfl, rfl, ⟨m0, m1⟩, _, rfl, p, _, 0, 0, rfl, rfl, hp, rfl, _, rfl, ?_⟩
      exact q _ _ Bu.put ⟨_, upd_same, _, _, _, rfl, Int.ediv_nonneg x0 (Int.le_of_lt m0), y0, y1, c0, by omega⟩ (Int.emod_nonneg _ (by omega)) (Int.emod_lt_of_pos _ m0)
    · have c0' : 0 ≤ c + 1 := by omega
      have c1' : c + 1 ≤ 10000001 := by omega
      refine ⟨_, rfl, p, _, 2, .int c, rfl, rfl, hL, rfl, _, _, rfl, rfl, _, rfl, _, rfl, p, _, 2, 2, rfl, rfl, hp, rfl, ?_⟩
      refine ⟨(by show 4 ≤ sizeLine; decide), fun t nt => ?_⟩
      have npt : p ≠ t := fun z => by
        rw [← z, upd_same] at nt
        cases nt
      let H2 : Hp := upd (upd H p (.lst [.int x, .int y, .int (c + 1)])) t (.lst [.int 2305843009213693951, .int 999999999989, .int 1000000000039, .int 67280421310721])
      have h2 : H2 p = some (.lst [.int x, .int y, .int (c + 1)]) := by
        show upd _ t _ p = _
        rw [upd_ne npt, upd_same]
      have hL2 : SqL K H2 p [.int x, .int y, .int (c + 1)] := .inl (.inl h2)
      have hb : Bu p H H2 := Bu.trans Bu.put (Bu.new nt)
      have hT : SqL K H2 t [.int 2305843009213693951, .int 999999999989, .int 1000000000039, .int 67280421310721] := .inl (.inl upd_same)
      obtain ⟨pr, hpr, p1, p2⟩ : ∃ pr : Int, atI [V.int 2305843009213693951, .int 999999999989, .int 1000000000039, .int 67280421310721] ((c + 1) % 4) = some (.int pr) ∧ 0 < pr ∧ pr ≤ 2305843009213693951 := by
        have r0 : 0 ≤ (c + 1) % 4 := Int.emod_nonneg _ (by decide)
        have r1 : (c + 1) % 4 < 4 := Int.emod_lt_of_pos _ (by decide)
        generalize (c + 1) % 4 = r at r0 r1
        have : r = 0 ∨ r = 1 ∨ r = 2 ∨ r = 3 := by omega
        rcases this with rfl | rfl | rfl | rfl <;> exact ⟨_, rfl, by decide, by decide⟩
      dsimp only [gName]
      refine ⟨_, rfl, _, _, rfl, rfl, (show (0 : Int) < 4 by decide), t, _, _, _, rfl, rfl, hT, hpr, ?_⟩
      have m3 : 0 ≤ 7919 * (c + 1) := by omega
      refine ⟨_, rfl, p, _, 1, .int y, rfl, rfl, hL2, rfl, _, rfl, _, _, rfl, rfl, .inl ⟨by decide, by decide⟩, _, rfl, _, _, rfl, rfl, .inr ⟨by omega, by omega⟩, ?_⟩
      refine ⟨_, _, rfl, rfl, _, rfl, _, _, rfl, rfl, .inl ⟨by decide, by decide⟩, _, _, rfl, rfl, _, rfl, _, _, rfl, rfl, p1, ?_⟩
      have w0 : 0 ≤ (y + 7919 * (c + 1) * (c + 1) + 65537 * (c + 1)) % pr := Int.emod_nonneg _ (by omega)
      have w1 : (y + 7919 * (c + 1) * (c + 1) + 65537 * (c + 1)) % pr < pr := Int.emod_lt_of_pos _ p1
      have fin := fun d => q H2 d hb ⟨_, h2, x, y, c + 1, rfl, x0, y0, y1, c0', by omega⟩
      show gName 5 (V.int ((y + 7919 * (c + 1) * (c + 1) + 65537 * (c + 1)) % pr)) _ _ _
      generalize (y + 7919 * (c + 1) * (c + 1) + 65537 * (c + 1)) % pr = u at w0 w1 ⊢
      refine ⟨_, rfl, _, _, rfl, rfl, ⟨by decide, by decide, by omega⟩, _, rfl, _, _, rfl, rfl, p1, ?_⟩
      have z0 : 0 ≤ u ^ (5 : Int).toNat % pr := Int.emod_nonneg _ (by omega)
      have z1 : u ^ (5 : Int).toNat % pr < pr := Int.emod_lt_of_pos _ p1
      show gName 5 (V.int (u ^ (5 : Int).toNat % pr)) _ _ _
      generalize u ^ (5 : Int).toNat % pr = v at z0 z1 ⊢
      refine ⟨_, rfl, _, _, rfl, rfl, ⟨by decide, by decide +kernel⟩, _, rfl, _, _, rfl, rfl, ⟨by decide, by decide +kernel⟩, _, _, rfl, rfl, .inr ⟨by decide, by decide⟩, _, _, rfl, rfl, _, rfl, _, _, rfl, rfl, m0, ?_⟩
      exact fin _ (Int.emod_nonneg _ (by omega)) (Int.emod_lt_of_pos _ m0)
theorem ok_pick (D : Def K mg "_law_pick" (topS 8) ["_law_draws_here", "_law_items"]) (C__law_below : Cal P w K mg base 1 "_law_below" ["_law_draws_here", "_law_many"] spDraw) (nb : NB mg) :
    Cal P w K mg base 2 "_law_pick" ["_law_draws_here", "_law_items"] (spPick K) := by
  refine D.ok scPk (fun vs H Q E h => ?_) (fun f cdv A outer s H vs Q E hr gd h => ?_)
  · obtain ⟨p, r, zs, n, rfl, _⟩ := h
    rfl
  · obtain ⟨p, r, zs, n, rfl, hp, hn, ne, hS, z0, z1, q⟩ := h
    refine ⟨_, (pss_one (ps_ret (pe_ix ix_list (pv 1) (pcall C__law_below (hr.mono (by omega)) gd (by rfl) (pa_cons (pv 0) (pa_cons (pe_callB call_len_seq (by rfl) nb.at PySem.boot_len (pa_cons (pv 1) pa_nil)) pa_nil))) (fun _ _ => rfl)))), ?_⟩
    have hz : 0 < zs.length := by
      cases zs with
      | nil => exact absurd rfl z0
      | cons _ _ => exact Nat.succ_pos _
    refine ⟨_, rfl, _, rfl, _, rfl, r, zs, rfl, .inl hS, p, _, n, rfl, hp, hn, by omega, log_i (k := 20) (by omega) (by omega) (by decide) (by decide), fun H' d hb hy d0 d1 => ?_⟩
    have hd : d.toNat < zs.length := by omega
    have g : atI zs d = some zs[d.toNat] := by
      have y := atI_nat (List.getElem?_eq_getElem hd)
      rw [Int.toNat_of_nonneg d0] at y
      exact y
    exact ⟨r, zs, d, _, rfl, rfl, bu_seq ne.symm hb hS, g, q H' _ hb hy (List.getElem_mem hd)⟩
end
end Ev

/-! ## == and != of any data with a text, == of a tuple with () -/
namespace PySem.SeqAt
open AutoSeq1 (wpAny_loadPart')
open MeetsSeq
section
variable {A : Around} {s : Shared}
theorem ev_sub_sd : isSubtype (.type "str") (.type "dict") = pure false := by rw [isSubtype_type]; kernel_rfl
theorem ev_dict_eq_str (l : Addr) (es : Array DictEntry) (n : Nat) (dd : Option Addr) (sl : Array (Option Value)) (b : Str) (u : Tok) :
    Meets (Builtin.«dict.__eq__» ⟨[.ref l, .str b u], []⟩)
      (fun _ R s => s.heap.get? l = some { cls := .type "dict", dict := dd, data := .dict es n, slots := sl } ∧ R (.ok (.ret .notImplemented)) s) :=
  .of_wp fun prog w A R s h => by
    obtain ⟨hp, g, d, tk, os⟩ := s
    obtain ⟨hl, h⟩ := h
    have f1 := ev_sub_sd
    wp_walk using wpAny_loadPart' hl, wpAny_load hl
    exact ⟨_, rfl, h⟩
theorem ev_dict_ne_str (l : Addr) (es : Array DictEntry) (n : Nat) (dd : Option Addr) (sl : Array (Option Value)) (b : Str) (u : Tok) :
    Meets (Builtin.«dict.__ne__» ⟨[.ref l, .str b u], []⟩)
      (fun _ R s => s.heap.get? l = some { cls := .type "dict", dict := dd, data := .dict es n, slots := sl } ∧ R (.ok (.ret .notImplemented)) s) :=
  .of_wp fun prog w A R s h => by
    obtain ⟨hp, g, d, tk, os⟩ := s
    obtain ⟨hl, h⟩ := h
    have f1 := ev_sub_sd
    wp_walk using wpAny_loadPart' hl, wpAny_load hl
    exact ⟨_, rfl, h⟩
theorem ev_str_eq_dict (b : Str) (u : Tok) (l : Addr) (c : Value) (es : Array DictEntry) (n : Nat) (dd : Option Addr) (sl : Array (Option Value)) :
    Meets (Builtin.«str.__eq__» ⟨[.str b u, .ref l], []⟩) (fun _ R s => s.heap.get? l = some { cls := c, dict := dd, data := .dict es n, slots := sl } ∧ R (.ok (.ret .notImplemented)) s) :=
  .of_wp fun prog w A R s h => by
    obtain ⟨hp, g, d, tk, os⟩ := s
    obtain ⟨hl, h⟩ := h
    wp_walk using wpAny_loadPart' hl, wpAny_load hl
    exact ⟨_, rfl, h⟩
theorem ev_str_ne_dict (b : Str) (u : Tok) (l : Addr) (c : Value) (es : Array DictEntry) (n : Nat) (dd : Option Addr) (sl : Array (Option Value)) :
    Meets (Builtin.«str.__ne__» ⟨[.str b u, .ref l], []⟩) (fun _ R s => s.heap.get? l = some { cls := c, dict := dd, data := .dict es n, slots := sl } ∧ R (.ok (.ret .notImplemented)) s) :=
  .of_wp fun prog w A R s h => by
    obtain ⟨hp, g, d, tk, os⟩ := s
    obtain ⟨hl, h⟩ := h
    wp_walk using wpAny_loadPart' hl, wpAny_load hl
    exact ⟨_, rfl, h⟩
theorem ev_rc_dict_str {l : Addr} {o : Obj} {es : Array DictEntry} {n : Nat} (b : Str) (u : Tok) (ho : s.heap.get? l = some o) (hc : o.cls = .type "dict") (hd : o.data = .dict es n) (hu : A.units < cLine) :
    RcAt A s (.ref l) (.str b u) false := fun prog w E Q h => by
  obtain ⟨cls, dd, data, sl⟩ := o
  simp only at hc hd
  subst hc hd
  exact rc_eq_decline_or (k := false) ⟨_, ho, rfl⟩ (typeIs_str s b u) (by decide) ev_sub_sd F.slot_dict_eq F.slot_str_eq_refl
    (fun _ hq => call_meets F.slot_dict_eq ⟨_, ho, rfl⟩ F.entry_dict_eq (F.args_dict_eq_2 _ _) (ev_dict_eq_str l es n dd sl b u) ⟨ho, hq⟩)
    (fun _ hq => call_meets F.slot_str_eq_refl (typeIs_str s b u) F.entry_str_eq (F.args_str_eq_2 _ _) (ev_str_eq_dict b u l (.type "dict") es n dd sl) ⟨ho, hq⟩)
    (fun _ hq => wpAny_of_eq (rfl : isSame (.ref l) (.str b u) = pure false) hq) (.inr hu) h
theorem ev_rn_dict_str {l : Addr} {o : Obj} {es : Array DictEntry} {n : Nat} (b : Str) (u : Tok) (ho : s.heap.get? l = some o) (hc : o.cls = .type "dict") (hd : o.data = .dict es n) (hu : A.units < cLine) :
    RcNeAt A s (.ref l) (.str b u) true := fun prog w E Q h => by
  obtain ⟨cls, dd, data, sl⟩ := o
  simp only at hc hd
  subst hc hd
  exact rc_ne_decline_or (k := false) ⟨_, ho, rfl⟩ (typeIs_str s b u) (by decide) ev_sub_sd F.slot_dict_ne F.slot_str_ne_refl
    (fun _ hq => call_meets F.slot_dict_ne ⟨_, ho, rfl⟩ F.entry_dict_ne (F.args_dict_ne_2 _ _) (ev_dict_ne_str l es n dd sl b u) ⟨ho, hq⟩)
    (fun _ hq => call_meets F.slot_str_ne_refl (typeIs_str s b u) F.entry_str_ne (F.args_str_ne_2 _ _) (ev_str_ne_dict b u l (.type "dict") es n dd sl) ⟨ho, hq⟩)
    (fun _ hq => wpAny_of_eq (rfl : isSame (.ref l) (.str b u) = pure false) hq) (.inr hu) h
end
end PySem.SeqAt
namespace Ev
open PySem PySem.Spec PyProof.Rows L2
def isStrD (t : Str) : PyData → Bool
  | .str x => x == t
  | _ => false
def rEqS (K : PySem.W.Frag) : R2 := fun x y H Q => ∃ (d : PyData) (t : Str), Da K H x d ∧ y = .str t ∧ Q (.bl (isStrD t d)) H
def rNeS (K : PySem.W.Frag) : R2 := fun x y H Q => ∃ (d : PyData) (t : Str), Da K H x d ∧ y = .str t ∧ Q (.bl (!isStrD t d)) H
section
variable {X : Cx}
theorem op_eqS (hu : X.A.units < cLine) : OpR X (compareOp .Eq) (rEqS X.K) := by
  intro pins s σ H x y v u Q I rx ry h
  obtain ⟨d, t, hd, rfl, q⟩ := h
  obtain ⟨tk, rfl⟩ := ry
  have fin : ∀ b, b = isStrD t d → EP X pins σ Q (.bool b) s := fun b e => ⟨.bl b, H, I, rfl, by rw [e]; exact q⟩
  cases hd with
  | non =>
    cases rx
    exact SeqAt.RcAt.none_str t tk _ _ _ _ (fin _ rfl)
  | bl b =>
    cases rx
    exact SeqAt.RcAt.bool_str b t tk _ _ _ _ (fin _ rfl)
  | int i =>
    obtain ⟨tk', rfl⟩ := rx
    exact SeqAt.RcAt.int_str i tk' t tk _ _ _ _ (fin _ rfl)
  | str x =>
    obtain ⟨tk', rfl⟩ := rx
    exact SeqAt.RcAt.str_str x tk' t tk _ _ _ _ (fin _ rfl)
  | lst hs ha =>
    cases rx
    obtain ⟨its, rv, ⟨o, n, ho, hc, _, hd⟩, _⟩ := I.list hs
    exact SeqAt.RcAt.list_str t tk ⟨o, ho, hc, n, hd⟩ hu _ _ _ _ (fin _ rfl)
  | tup hs ha =>
    cases rx
    obtain ⟨its, rv, ⟨o, ho, hc, n, hd⟩, _⟩ := I.tuple hs
    exact SeqAt.RcAt.tuple_str t tk ⟨o, ho, hc, n, hd⟩ hu _ _ _ _ (fin _ rfl)
  | @dic a kvs _ he hk =>
    cases rx
    have ok : ObjOk X.prog X.w H s.heap a (.dK kvs) := I.hok a _ he
    obtain ⟨_, ns, vs, kv, o, es, ep, ho, ex, hd, _⟩ := ok
    exact SeqAt.ev_rc_dict_str t tk ho ex.1 hd hu _ _ _ _ (fin _ rfl)
theorem op_neS (hu : X.A.units < cLine) : OpR X (compareOp .NotEq) (rNeS X.K) := by
  intro pins s σ H x y v u Q I rx ry h
  obtain ⟨d, t, hd, rfl, q⟩ := h
  obtain ⟨tk, rfl⟩ := ry
  have fin : ∀ b, b = (!isStrD t d) → EP X pins σ Q (.bool b) s := fun b e => ⟨.bl b, H, I, rfl, by rw [e]; exact q⟩
  cases hd with
  | non =>
    cases rx
    exact SeqAt.RcNeAt.none_str t tk _ _ _ _ (fin _ rfl)
  | bl b =>
    cases rx
    exact SeqAt.RcNeAt.bool_str b t tk _ _ _ _ (fin _ rfl)
  | int i =>
    obtain ⟨tk', rfl⟩ := rx
    exact SeqAt.RcNeAt.int_str i tk' t tk _ _ _ _ (fin _ rfl)
  | str x =>
    obtain ⟨tk', rfl⟩ := rx
    exact SeqAt.RcNeAt.str_str x tk' t tk _ _ _ _ (fin _ rfl)
  | lst hs ha =>
    cases rx
    obtain ⟨its, rv, ⟨o, n, ho, hc, _, hd⟩, _⟩ := I.list hs
    exact SeqAt.RcNeAt.list_str t tk ⟨o, ho, hc, n, hd⟩ hu _ _ _ _ (fin _ rfl)
  | tup hs ha =>
    cases rx
    obtain ⟨its, rv, ⟨o, ho, hc, n, hd⟩, _⟩ := I.tuple hs
    exact SeqAt.RcNeAt.tuple_str t tk ⟨o, ho, hc, n, hd⟩ hu _ _ _ _ (fin _ rfl)
  | @dic a kvs _ he hk =>
    cases rx
    have ok : ObjOk X.prog X.w H s.heap a (.dK kvs) := I.hok a _ he
    obtain ⟨_, ns, vs, kv, o, es, ep, ho, ex, hd, _⟩ := ok
    exact SeqAt.ev_rn_dict_str t tk ho ex.1 hd hu _ _ _ _ (fin _ rfl)
/-- t == () -/
def rEqT0 (K : PySem.W.Frag) : R2 := fun x y H Q => ∃ (a b : Addr) (xs : List V), x = .ref a ∧ y = .ref b ∧ SqT K H a xs ∧ SqT K H b [] ∧ Q (.bl (decide (xs = []))) H
theorem op_eqT0 (hu : X.A.units < cLine) : OpR X (compareOp .Eq) (rEqT0 X.K) := by
  intro pins s σ H x y v u Q I rx ry h
  obtain ⟨a, b, xs, rfl, rfl, h1, h2, q⟩ := h
  cases rx
  cases ry
  obtain ⟨i1, r1, ⟨o1, ho1, hc1, n1, hd1⟩, _⟩ := I.tuple h1
  obtain ⟨i2, r2, ⟨o2, ho2, hc2, n2, hd2⟩, _⟩ := I.tuple h2
  have e2 : i2 = [] := by
    have z := Paired.length r2
    exact List.length_eq_zero_iff.mp z.symm
  subst e2
  have l1 : i1.length = xs.length := (Paired.length r1).symm
  refine SeqAt.rcIn_tuples (e := fun _ => true) ⟨o1, ho1, hc1, n1, hd1⟩ ⟨o2, ho2, hc2, n2, hd2⟩ hu (fun j j1 j2 => absurd j2 (by simp)) ?_
  have z : ((List.range (min i1.toArray.size ([] : List Value).toArray.size)).all (fun _ => true) && i1.toArray.size == ([] : List Value).toArray.size) = decide (xs = []) := by
    cases xs with
    | nil =>
      have : i1 = [] := List.length_eq_zero_iff.mp l1
      subst this
      rfl
    | cons x r =>
      have : i1.length = r.length + 1 := l1
      simp [this]
  rw [z]
  exact ⟨.bl _, H, I, rfl, q⟩
end
end Ev

/-! ## numbers and flags: x + 1, x - 1, str(x); a tuple != () -/
namespace Ev
open PySem PySem.Spec PyProof.Rows L2
def IoB (x : V) (i : Int) : Prop := x = .int i ∨ ∃ k : Bool, x = .bl k ∧ i = if k = true then (1 : Int) else 0
def rAddIB : R2 := fun x y H Q => ∃ i j : Int, IoB x i ∧ y = .int j ∧ Q (.int (i + j)) H
def rSubIB : R2 := fun x y H Q => ∃ i j : Int, IoB x i ∧ y = .int j ∧ Q (.int (i - j)) H
section
variable {X : Cx}
theorem op_addIB : OpR X (binaryOp .Add) rAddIB := by
  intro pins s σ H x y v u Q I rx ry h
  obtain ⟨i, j, hi, rfl, q⟩ := h
  obtain ⟨tk, rfl⟩ := ry
  rcases hi with rfl | ⟨k, rfl, rfl⟩
  · obtain ⟨t2, rfl⟩ := rx
    exact add_int ⟨.int _, H, I.tok _, ⟨_, rfl⟩, q⟩
  · cases rx
    exact PySem.IntBool.add_bool_int ⟨.int _, H, I.tok _, ⟨_, rfl⟩, q⟩
theorem op_subIB : OpR X (binaryOp .Sub) rSubIB := by
  intro pins s σ H x y v u Q I rx ry h
  obtain ⟨i, j, hi, rfl, q⟩ := h
  obtain ⟨tk, rfl⟩ := ry
  rcases hi with rfl | ⟨k, rfl, rfl⟩
  · obtain ⟨t2, rfl⟩ := rx
    exact sub_int ⟨.int _, H, I.tok _, ⟨_, rfl⟩, q⟩
  · cases rx
    exact PySem.IntBool.sub_bool_int ⟨.int _, H, I.tok _, ⟨_, rfl⟩, q⟩
def rStrIB : List V → Hp → VK → Prop := fun xs H Q => (∃ i, xs = [.int i] ∧ i.natAbs.log2 < 1920 ∧ Q (.str (toString i)) H) ∨ ∃ k : Bool, xs = [.bl k] ∧ Q (.str (if k then "True" else "False")) H
theorem call_strIB : CallR X (.type "str") rStrIB := by
  intro pins s σ H xs us Q I r h
  rcases h with ⟨i, rfl, hz, q⟩ | ⟨k, rfl, q⟩
  · obtain ⟨u, rfl, t, rfl⟩ := vals1 r
    exact PySem.P.str_of_int hz ⟨.str _, H, I.tok _, ⟨_, rfl⟩, q⟩
  · obtain ⟨u, rfl, rfl⟩ := vals1 r
    exact PySem.P.str_of_bool ⟨.str _, H, I.tok _, ⟨_, rfl⟩, q⟩
/-- t != () -/
def rNeT0 (K : PySem.W.Frag) : R2 := fun x y H Q => ∃ (a b : Addr) (xs : List V), x = .ref a ∧ y = .ref b ∧ SqT K H a xs ∧ SqT K H b [] ∧ Q (.bl (!decide (xs = []))) H
theorem op_neT0 (hu : X.A.units < cLine) : OpR X (compareOp .NotEq) (rNeT0 X.K) := by
  intro pins s σ H x y v u Q I rx ry h
  obtain ⟨a, b, xs, rfl, rfl, h1, h2, q⟩ := h
  cases rx
  cases ry
  obtain ⟨l1, r1, ⟨o1, p1, p2, n1, p3⟩, _⟩ := I.tuple h1
  obtain ⟨l2, r2, ⟨o2, q1, q2, n2, q3⟩, _⟩ := I.tuple h2
  obtain rfl : l2 = [] := List.length_eq_zero_iff.mp (Paired.length r2).symm
  have el := (Paired.length r1).symm
  refine SeqAt.RcNeAt.tuples (e := fun _ => true) ⟨o1, p1, p2, n1, p3⟩ ⟨o2, q1, q2, n2, q3⟩ hu (fun j j1 j2 => absurd j2 (by simp)) _ _ _ _ ⟨.bl _, H, I, rfl, ?_⟩
  cases xs with
  | nil =>
    obtain rfl : l1 = [] := List.length_eq_zero_iff.mp el
    exact q
  | cons x r =>
    have e : (!((List.range (min l1.toArray.size ([] : List Value).toArray.size)).all (fun _ => true) && l1.toArray.size == ([] : List Value).toArray.size)) = !decide (x :: r = []) := by
      have : l1.length = r.length + 1 := el
      simp [this]
    rw [e]
    exact q
/-- xs != [] -/
def rNeL0 (K : PySem.W.Frag) : R2 := fun x y H Q => ∃ (a b : Addr) (xs : List V), x = .ref a ∧ y = .ref b ∧ SqL K H a xs ∧ SqL K H b [] ∧ Q (.bl (!decide (xs = []))) H
theorem op_neL0 (hu : X.A.units < cLine) : OpR X (compareOp .NotEq) (rNeL0 X.K) := by
  intro pins s σ H x y v u Q I rx ry h
  obtain ⟨a, b, xs, rfl, rfl, h1, h2, q⟩ := h
  cases rx
  cases ry
  obtain ⟨l1, r1, g1, _⟩ := I.list h1
  obtain ⟨l2, r2, g2, _⟩ := I.list h2
  obtain rfl : l2 = [] := List.length_eq_zero_iff.mp (Paired.length r2).symm
  have el := (Paired.length r1).symm
  cases xs with
  | nil =>
    obtain rfl : l1 = [] := List.length_eq_zero_iff.mp el
    exact SeqAt.RcNeAt.lists (e := fun _ => true) g1.isList g2.isList rfl hu (fun j j1 j2 => absurd j2 (by simp)) _ _ _ _ ⟨.bl _, H, I, rfl, q⟩
  | cons x r =>
    have e : (l1.toArray.size != ([] : List Value).toArray.size) = true := by
      have : l1.length = r.length + 1 := el
      simp [this]
    exact SeqAt.RcNeAt.lists_lengths g1.isList g2.isList e hu _ _ _ _ ⟨.bl _, H, I, rfl, q⟩
end
end Ev

/-! ## in a drawn order -/
namespace Ev
open PySem PySem.Spec PyProof.Rows L2
theorem perm_er {α : Type} : ∀ (l : List α) (k : Nat) (h : k < l.length), List.Perm ([l[k]] ++ l.eraseIdx k) l
  | [], _, h => by simp at h
  | x :: l, 0, _ => .refl _
  | x :: l, k + 1, h => by
    have h' : k < l.length := by simpa using h
    exact (List.Perm.swap x l[k] (l.eraseIdx k)).trans ((perm_er l k h').cons x)
def spSh (K : PySem.W.Frag) : Sp := fun vs H Q _ => ∃ (p q : Addr) (xs : List V) (n : Nat), vs = [.ref p, .ref q] ∧ PotA p n H ∧ n + xs.length ≤ 9000000 ∧ p ≠ q ∧ SqL K H q xs ∧ xs.length ≤ 1000 ∧
  ∀ H' l ys, Bu p H H' → PotA p (n + xs.length) H' → H l = none → l ≠ p → H' l = some (.lst ys) → ys.Perm xs → Q (.ref l) H'
theorem scSh : FnScope ["_law_draws_here", "_law_items", "_law_left", "_law_found"] ["_law_draws_here", "_law_items"] (defScope (topS 11)) := ⟨rfl, rfl, rfl, by decide +kernel, rfl, by decide +kernel, by decide +kernel⟩
section
variable {P : Program} {w : World} {K : PySem.W.Frag} {mg : Str → Option Value} {base : Heap}
theorem ok_sh (D : Def K mg "_law_shuffled" (topS 11) ["_law_draws_here", "_law_items"]) (C__law_below : Cal P w K mg base 1 "_law_below" ["_law_draws_here", "_law_many"] spDraw) (nb : NB mg) : Cal P w K mg base 2 "_law_shuffled" ["_law_draws_here", "_law_items"] (spSh K) := by
  refine D.ok scSh (fun vs H Q E h => ?_) (fun f cdv A outer s H vs Q E hr gd h => ?_)
  · obtain ⟨p, q, xs, n, rfl, _⟩ := h
    rfl
  · obtain ⟨p, q, xs, n, rfl, hp, hn, npq, hS, hx, k⟩ := h
    refine ⟨_, (pss_cons (ps_par (i := 2) (j := 3) rfl scSh.nd rfl rfl (by decide) rfl rfl (pa_cons (pe_callTy call_list_of (by rfl) nb.at (by decide +kernel) (pa_cons (pv 1) pa_nil)) (pa_cons (pe_lst pa_nil) pa_nil)) (by rfl))
      (pss_cons (ps_while PassesOwn.never (pt_cmpR (op_neL0 hr.units0) (pv 2) (pe_lst pa_nil) (nomark _))
        (pss_one (ps_expr (pe_bm PySem.F.plainAttrs_list PySem.F.slot_list_append PySem.F.type_list_append mt_append (pv 3) (pa_cons (pe_bm PySem.F.plainAttrs_list PySem.F.slot_list_pop PySem.F.type_list_pop mt_popAt (pv 2) (pa_cons (pcall C__law_below (hr.mono (by omega)) gd (by rfl) (pa_cons (pv 0) (pa_cons (pe_callB call_len_seq (by rfl) nb.at PySem.boot_len (pa_cons (pv 2) pa_nil)) pa_nil))) pa_nil)) pa_nil)))))
      (pss_one (ps_ret (pv 3))))), ?_⟩
    have yz := sizeLine_eq
    refine ⟨_, rfl, q, xs, rfl, .inl hS, fun a na => ⟨Nat.zero_le _, fun l nl => ⟨_, _, rfl, ?_⟩⟩⟩
    have npa := hp.ne na
    have npl := (hp.new na).ne nl
    have nal : a ≠ l := fun z => by
      rw [← z, upd_same] at nl
      cases nl
    have nlH : H l = none := by
      rw [upd_ne nal.symm] at nl
      exact nl
    refine while_w (fun m σ' H' => ∃ zs ys : List V, σ' = [some (.ref p), some (.ref q), some (.ref a), some (.ref l)] ∧ PotA p (n + ys.length) H' ∧ H' a = some (.lst zs) ∧ H' l = some (.lst ys) ∧ zs.length = m ∧ (ys ++ zs).Perm xs ∧ Bu p H H')
      ⟨xs.length, xs, [], rfl, (hp.new na).new nl, by rw [upd_ne nal]; exact upd_same, upd_same, rfl, .refl _, fun b o nb e => by
        rw [upd_ne (ne_of_none e nlH), upd_ne (ne_of_none e na)]
        exact e⟩ ?_ ?_
    · rintro m σ' H' ⟨zs, ys, rfl, hp', ha, hl, hm, pm, hb⟩
      have hlen := pm.length_eq
      rw [List.length_append] at hlen
      refine ⟨_, rfl, Nat.zero_le _, fun e ne => ⟨a, e, zs, rfl, rfl, .inl (.inl (same_put ne _ _ ha)), .inl (.inl upd_same), _, rfl, ?_⟩⟩
      have se := same_put (o := .lst []) ne
      cases zs with
      | nil =>
        refine iteF ⟨_, rfl, ?_⟩
        rw [List.length_nil, Nat.add_zero] at hlen
        rw [List.append_nil] at pm
        exact k _ l ys (hb.trans (Bu.of se)) (by rw [← hlen]; exact hp'.same se) nlH npl.symm (se _ _ hl) pm
      | cons z zs =>
        rw [decide_eq_false (show ¬ z :: zs = [] from nofun)]
        refine iteT ⟨_, rfl, .inl ⟨rfl, _, .inl (.inl (se _ _ hl))⟩, _, rfl, .inl ⟨rfl, _, .inl (.inl (se _ _ ha))⟩, _, rfl, _, rfl, a, z :: zs, rfl, .inl (.inl (.inl (se _ _ ha))), p, (((z :: zs).length : Nat) : Int), _, rfl, hp'.same se, by omega, by rw [List.length_cons]; omega, log_i (k := 20) (by omega) (by omega) (by decide) (by decide), fun H2 d b2 hp2 d0 d1 => ?_⟩
        have ha2 := b2 _ _ npa.symm (se _ _ ha)
        have hl2 := b2 _ _ npl.symm (se _ _ hl)
        have hk : d.toNat < (z :: zs).length := by omega
        refine ⟨a, z :: zs, d, d.toNat, (z :: zs)[d.toNat], rfl, rfl, ha2, by omega, by omega, ?_, List.getElem?_eq_getElem hk, ?_⟩
        · exact seq_nn d0 d1
        · refine ⟨l, ys, _, rfl, rfl, by rw [upd_ne nal.symm]; exact hl2, by omega, _, ?_, (z :: zs).eraseIdx d.toNat, ys ++ [(z :: zs)[d.toNat]], rfl, ?_, by rw [upd_ne nal, upd_same], upd_same, rfl, ?_, fun b o nb e' => ?_⟩
          · rw [List.length_eraseIdx_of_lt hk]
            omega
          · rw [List.length_append]
            exact (hp2.put npa).put npl
          · rw [List.append_assoc]
            exact ((perm_er (z :: zs) d.toNat hk).append_left ys).trans pm
          · rw [upd_ne (ne_of_none e' nlH), upd_ne (ne_of_none e' na)]
            exact b2 _ _ nb (se _ _ (hb _ _ nb e'))
    · rintro σ' H' Q1 Q2 hQ ⟨v, hv, h0, h⟩
      refine ⟨v, hv, h0, fun e ne => ?_⟩
      obtain ⟨a', b', xs', e1, e2, s1, s2, kk, ek, hh⟩ := h e ne
      exact ⟨a', b', xs', e1, e2, s1, s2, kk, ek, hQ _ _ hh⟩
end
end Ev

/-! ## name = {..: .. for ..}, the name a local of the def -/
namespace Ev
open PySem PySem.Spec PyProof.Rows L2
theorem swd_true {kx vx : Expr} {gs : List Comprehension} {sc : Scope} {p0 p1 : Pos} {nm : Str} {ln : Nat} {en : Env} (h1 : en.scope.kind = .function) (h2 : en.scope.names.lookup nm = some .local)
    (h3 : (p1.line == p0.line) = true) (h4 : (sc.names.any fun (n, k) => n == nm && (k == .local || k == .cell)) = false) : swapsWith (.DictComp kx vx gs sc p0) (some (.Name nm p1)) ln en = pure true := by
  have e1 : en.kindOf nm = some .local := h2
  have e2 : en.blockKind = .function := by
    unfold Env.blockKind
    rw [h1]
    rfl
  unfold swapsWith
  simp only [e2, e1, h4, Expr.pos, h3]
  rfl
theorem ps_setDc {X : Cx} {n : Nat} {nm : Str} {p0 p1 p2 : Pos} {kx vx tg it : Expr} {cs : List Expr} {sc : Scope} {own : List (Str × Nat)} {wi : TI} {g : TG} {tt : TT} {tk tv : TE} (hc : X.calm = true) (hN : X.N.Nodup) (h1 : X.N[n]? = some nm)
    (h2 : X.env.scope.names.lookup nm = some .local) (h3 : swapsWith (.DictComp kx vx [⟨tg, it, cs, 0⟩] sc p0) (some (.Name nm p1)) p2.line X.env = pure true) (hi : PI X tg it wi) (ok : BlkOk X.N X.env.scope sc own)
    (hg : ∀ (s : Shared) (H : Hp) (c : Addr) (l : List (Str × Addr)) (fp : List Addr), PG (X.blk s H sc (compEnvC sc l c X.env) fp) tg g) (ht : ∀ (s : Shared) (H : Hp) (c : Addr) (l : List (Str × Addr)) (fp : List Addr), PTs (X.blk s H sc (compEnvC sc l c X.env) fp) cs tt)
    (hk : ∀ (s : Shared) (H : Hp) (c : Addr) (l : List (Str × Addr)) (fp : List Addr), PE (X.blk s H sc (compEnvC sc l c X.env) fp) kx tk) (he : ∀ (s : Shared) (H : Hp) (c : Addr) (l : List (Str × Addr)) (fp : List Addr), PE (X.blk s H sc (compEnvC sc l c X.env) fp) vx tv)
    (hs : ∀ x, foldedSetIterable it X.env x = pure x := by intro _; rfl) : PS X (.Assign [.Name nm p1] (.DictComp kx vx [⟨tg, it, cs, 0⟩] sc p0) p2) (tAsg (tDc wi g tt tk tv (own.map (·.2))) (gName n)) := by
  constructor
  intro pins s σ H D I h
  have e0 := exec_Assign_Name_used (env := X.env) _ _ _ _ h3
  rw [e0]
  have h : tDc wi g tt tk tv (own.map (·.2)) σ H (fun x H1 => gName n x σ H1 D.nx) := h
  refine wpAny_bind (wpAny_standAt (wpAny_bind ?go))
  case go =>
    change wpAny _ X.A (do let _ ← comprehension (.DictComp kx vx [⟨tg, it, cs, 0⟩] sc p0) sc X.env (firstIterPos [⟨tg, it, cs, 0⟩] p0) newDict false (eval it X.env) (some (assign (.Name nm p1) X.env))) _ _ s
    refine wpAny_bind (thn (dc_core (Qf := fun _ z => SP X pins D .next z) hc hN I hi ok hg ht hk he hs h fun dd C s1 mm H1 I1 q hn fp => ?_) fun _ z hq => wpAny_pure (wpAny_pure hq))
    change wpAny _ _ (assign (.Name nm p1) X.env (.ref dd)) _ _ _
    refine wpAny_assign_Name (store_ok2 (v := V.ref dd) I1 hN h1 (.inl h2) rfl (fun s2 I2 ⟨aa, sb, ha⟩ => ?_) (.inr h2))
    obtain ⟨g0, g1, g2, g3, g4, g5⟩ := fp
    have ne : C ≠ aa := by
      rcases ha with z | z
      · rw [z]
        exact g1
      · exact fun e => g4 nm aa z e.symm
    exact ⟨mm, hn.sameBut sb ne, fun h' sb' => ⟨_, H1, I2.turned (t' := s2.toks) (fun b o hb e => (sb'.2 b hb).trans e) g0 g1 g3 g4 g5, q⟩⟩
/-! ### dicts by names -/
def mapD (names : List Str) (v : Str → V) : List (Key × V) := names.map fun n => ((.inr n : Key), v n)
section
variable {names : List Str} {v : Str → V} {x : Str} {u : V}
theorem mapD_len : (mapD names v).length = names.length := by
  unfold mapD
  rw [List.length_map]
theorem mapD_val (h : x ∈ names) : valV (mapD names v) (.inr x) = some (v x) := by
  induction names with
  | nil => cases h
  | cons n names ih =>
    by_cases e : n = x
    · subst e
      exact valV_pos rfl
    · rw [show mapD (n :: names) v = ((.inr n, v n) : Key × V) :: mapD names v from rfl, valV_neg (fun z => e (Sum.inr.inj z))]
      exact ih ((List.mem_cons.mp h).resolve_left fun z => e z.symm)
theorem mapD_any : ((mapD names v).any fun p => decide (p.1 = (.inr x : Key))) = decide (x ∈ names) := by
  induction names with
  | nil => rfl
  | cons n names ih =>
    rw [show mapD (n :: names) v = ((.inr n, v n) : Key × V) :: mapD names v from rfl, List.any_cons, ih]
    by_cases e : n = x
    · subst e
      simp
    · have h1 : decide ((Sum.inr n : Key) = Sum.inr x) = false := decide_eq_false fun z => e (Sum.inr.inj z)
      have h2 : ¬ x = n := fun z => e z.symm
      show (decide ((Sum.inr n : Key) = Sum.inr x) || decide (x ∈ names)) = _
      rw [h1, Bool.false_or]
      exact decide_eq_decide.mpr ⟨fun z => List.mem_cons_of_mem _ z, fun z => (List.mem_cons.mp z).resolve_left h2⟩
theorem mapD_put (h : x ∈ names) : putK (mapD names v) (.inr x) u = mapD names fun n => if n = x then u else v n := by
  unfold putK
  rw [mapD_any, decide_eq_true h, if_pos rfl]
  unfold mapD
  rw [List.map_map]
  refine List.map_congr_left fun n _ => ?_
  show (if (Sum.inr n : Key) = Sum.inr x then _ else _) = ((.inr n, if n = x then u else v n) : Key × V)
  by_cases e : n = x
  · subst e
    rw [if_pos rfl]
    simp
  · rw [if_neg fun z => e (Sum.inr.inj z), if_neg e]
theorem mapD_new (h : x ∉ names) : putK (mapD names v) (.inr x) u = mapD names v ++ [(.inr x, u)] := by
  unfold putK
  rw [mapD_any, decide_eq_false h, if_neg Bool.false_ne_true]
theorem mapD_snoc (h : x ∉ names) : mapD names v ++ [(.inr x, u)] = mapD (names ++ [x]) fun n => if n = x then u else v n := by
  unfold mapD
  rw [List.map_append]
  congr 1
  · refine List.map_congr_left fun n hn => ?_
    have ne : ¬ n = x := fun z => by
      rw [z] at hn
      exact h hn
    show _ = ((.inr n, if n = x then u else v n) : Key × V)
    rw [if_neg ne]
  · simp
end
theorem but_bu {H H' : Hp} {p : Addr} (b : Bu p H H') : Same (but H p) (but H' p) := fun x o e => by
  by_cases h : x = p
  · rw [h] at e
    have z : but H p p = none := if_pos rfl
    rw [z] at e
    cases e
  · rw [but_ne h] at e ⊢
    exact b x o h e
theorem but_in {H : Hp} {p : Addr} : Same (but H p) H := fun x o e => by
  by_cases h : x = p
  · rw [h] at e
    have z : but H p p = none := if_pos rfl
    rw [z] at e
    cases e
  · rw [but_ne h] at e
    exact e
theorem newer_but {H H' : Hp} {p : Addr} {o : HO} (hp : H p = some o) : Same (newer H H') (but H' p) := fun x u e => by
  by_cases hb : H x = none
  · rw [newer_at hb] at e
    have n : x ≠ p := fun z => by
      rw [z, hp] at hb
      cases hb
    rw [but_ne n]
    exact e
  · have z : newer H H' x = none := if_neg hb
    rw [z] at e
    cases e
theorem newer_in {H H' : Hp} : Same (newer H H') H' := fun b o e => by
  by_cases hb : H b = none
  · rw [newer_at hb] at e
    exact e
  · have z : newer H H' b = none := if_neg hb
    rw [z] at e
    cases e
/-! ### columns as data -/
def intsD (m : Nat) (f : Nat → Int) : List PyData := (List.range m).map fun c => .int (f c)
def colD (m : Nat) (p : Str × (Nat → Int)) : PyData := .tuple [.str p.1, .list (intsD m p.2)]
theorem da_LI {K : PySem.W.Frag} {H : Hp} {m : Nat} {f : Nat → Int} : DaAll K H (LI m f) (intsD m f) := by
  unfold LI intsD
  generalize List.range m = l
  induction l with
  | nil => exact .nil
  | cons c l ih => exact .cons (.int _) ih
theorem da_ints {K : PySem.W.Frag} {H : Hp} : ∀ {ns : List Int} {vs : List V}, DaAll K H vs (ns.map PyData.int) → vs = ns.map V.int
  | [], _, .nil => rfl
  | n :: ns, _, .cons h t => by
    cases h
    rw [da_ints t]
    rfl
theorem da_col {K : PySem.W.Frag} {H : Hp} {m : Nat} {v : V} {p : Str × (Nat → Int)} (h : Da K H v (colD m p)) : ∃ t q, v = .ref t ∧ SqT K H t [.str p.1, .ref q] ∧ SqL K H q (LI m p.2) := by
  unfold colD at h
  cases h with
  | @tup t xs _ hs ha =>
  cases ha with
  | cons h1 ha =>
  cases ha with
  | cons h2 ha =>
  cases ha
  cases h1
  cases h2 with
  | @lst q ys _ hq hb =>
  have e : intsD m p.2 = ((List.range m).map p.2).map PyData.int := by
    unfold intsD
    rw [List.map_map]
    rfl
  rw [e] at hb
  have e2 := da_ints hb
  rw [← LI_ints] at e2
  subst e2
  exact ⟨t, q, rfl, hs, hq⟩
/-! ### starts behind items -/
def Its.st (m : Nat) : List It → (Nat → Int) → (Nat → Int)
  | [], f => f
  | i :: is, f => Its.st m is (mvF m (It.w i).length f)
theorem cols_app (m : Nat) : ∀ (is js : List It) (f : Nat → Int), Its.cols m (is ++ js) f = Its.cols m is f ++ Its.cols m js (Its.st m is f)
  | [], js, f => by
    rw [List.nil_append, Its.cols, Its.st, List.nil_append]
  | i :: is, js, f => by
    rw [List.cons_append, Its.cols, Its.cols, cols_app m is js, Its.st, List.append_assoc]
theorem st_app (m : Nat) : ∀ (is js : List It) (f : Nat → Int), Its.st m (is ++ js) f = Its.st m js (Its.st m is f)
  | [], js, f => by
    rw [List.nil_append, Its.st]
  | i :: is, js, f => by
    rw [List.cons_append, Its.st, Its.st, st_app m is js]
theorem cols_take {m : Nat} {is : List It} {i : Nat} {it : It} {f : Nat → Int} (h : is[i]? = some it) : Its.cols m (is.take (i + 1)) f = Its.cols m (is.take i) f ++ It.cols m it (Its.st m (is.take i) f) := by
  rw [List.take_add_one, h, cols_app]
  show _ ++ Its.cols m [it] _ = _
  rw [Its.cols, Its.cols, List.append_nil]
theorem st_take {m : Nat} {is : List It} {i : Nat} {it : It} {f : Nat → Int} (h : is[i]? = some it) : Its.st m (is.take (i + 1)) f = mvF m (It.w it).length (Its.st m (is.take i) f) := by
  rw [List.take_add_one, h, st_app]
  rfl
theorem st_bd {R m : Nat} (hm : 0 < m) : ∀ (is : List It) {f : Nat → Int}, Bd R m f → Bd R m (Its.st m is f)
  | [], _, h => h
  | i :: is, _, h => st_bd hm is (bd_mv hm h)
mutual
theorem It.cols_len (m : Nat) : ∀ (i : It) (f : Nat → Int), (It.cols m i f).length = It.nl i
  | .line _ _, _ => by
    rw [It.cols, It.nl]
    rfl
  | .loop _ js, _ => by
    rw [It.cols, It.nl, Its.cols_len m js]
theorem Its.cols_len (m : Nat) : ∀ (is : List It) (f : Nat → Int), (Its.cols m is f).length = Its.nl is
  | [], _ => by
    rw [Its.cols, Its.nl]
    rfl
  | i :: is, _ => by
    rw [Its.cols, Its.nl, List.length_append, It.cols_len m i, Its.cols_len m is]
end
mutual
theorem It.cols_nm (m : Nat) (r : Int) : ∀ (i : It) (f : Nat → Int), (It.cols m i f).map (·.1) = (It.sp r i).map (·.1)
  | .line _ _, _ => by
    rw [It.cols, It.sp]
    rfl
  | .loop k js, _ => by
    rw [It.cols, It.sp, Its.cols_nm m (r * k) js]
theorem Its.cols_nm (m : Nat) (r : Int) : ∀ (is : List It) (f : Nat → Int), (Its.cols m is f).map (·.1) = (Its.sp r is).map (·.1)
  | [], _ => by
    rw [Its.cols, Its.sp]
    rfl
  | i :: is, _ => by
    rw [Its.cols, Its.sp, List.map_append, List.map_append, It.cols_nm m r i, Its.cols_nm m r is]
end
mutual
theorem It.w_bd {B : Nat} : ∀ (n : Nat) (i : It), Okp B n i → (It.w i).length ≤ It.nl i * 2 ^ ((n + 1) * B)
  | n, .line x t, h => by
    have h := okp_line.mp h
    rw [It.w, It.nl, List.length_replicate, Nat.one_mul]
    have : 2 ^ B ≤ 2 ^ ((n + 1) * B) := Nat.pow_le_pow_right (by decide) (Nat.le_mul_of_pos_left _ (Nat.succ_pos _))
    omega
  | 0, .loop _ _, h => h.elim
  | n + 1, .loop r js, h => by
    obtain ⟨h1, h2, h3⟩ : 0 ≤ r ∧ r < (2 ^ B : Nat) ∧ ∀ i ∈ js, Okp B n i := h
    rw [It.w, It.nl, flat_len]
    have a := Its.w_bd n js h3
    have b : r.toNat * (Its.w js).length ≤ 2 ^ B * (Its.nl js * 2 ^ ((n + 1) * B)) := Nat.mul_le_mul (by omega) a
    have e : 2 ^ B * (Its.nl js * 2 ^ ((n + 1) * B)) = Its.nl js * 2 ^ ((n + 1 + 1) * B) := by
      rw [← Nat.mul_assoc, Nat.mul_comm (2 ^ B), Nat.mul_assoc, ← Nat.pow_add, Nat.succ_mul (n + 1) B, Nat.add_comm B]
    omega
theorem Its.w_bd {B : Nat} : ∀ (n : Nat) (is : List It), (∀ i ∈ is, Okp B n i) → (Its.w is).length ≤ Its.nl is * 2 ^ ((n + 1) * B)
  | n, [], _ => by
    rw [Its.w]
    exact Nat.zero_le _
  | n, i :: is, h => by
    rw [Its.w, Its.nl, List.length_append, Nat.add_mul]
    exact Nat.add_le_add (It.w_bd n i (h i (List.mem_cons_self ..))) (Its.w_bd n is fun j hj => h j (List.mem_cons_of_mem _ hj))
end
theorem w_bits {B n : Nat} {is : List It} (h : ∀ i ∈ is, Okp B n i) (hn : Its.nl is ≤ 100000) : (Its.w is).length < 2 ^ (17 + (n + 1) * B) := by
  have a := Its.w_bd n is h
  rw [Nat.pow_add]
  have p : 0 < 2 ^ ((n + 1) * B) := Nat.pos_of_ne_zero (by simp)
  have b : Its.nl is * 2 ^ ((n + 1) * B) < 2 ^ 17 * 2 ^ ((n + 1) * B) := Nat.mul_lt_mul_of_pos_right (by omega) p
  omega
theorem _root_.L2.SqL.mono' {K : PySem.W.Frag} {H H' : Hp} {a : Addr} {xs : List V} (h : SqL K H a xs) (s : Same H H') : SqL K H' a xs := s.seq h
theorem okp_up1 {B : Nat} : ∀ {n : Nat} {i : It}, Okp B n i → Okp B (n + 1) i
  | n, .line x t, h => okp_line.mpr (okp_line.mp h)
  | 0, .loop r is, h => h.elim
  | n + 1, .loop r is, h => ⟨h.1, h.2.1, fun i hi => okp_up1 (h.2.2 i hi)⟩
theorem room_dn {B d M : Nat} (h : Room2 B M) (hd : d ≤ M) : Room2 B d := ⟨h.1, by
  have a := h.2
  have b : (d + 1) * B ≤ (M + 1) * B := Nat.mul_le_mul_right B (Nat.succ_le_succ hd)
  omega⟩
end Ev

/-! ## Items as drawn (family C) -/
namespace Ev
open PySem PySem.Spec PyProof.Rows L2
def poolC : List Str := ["a", "b", "a", "c", "idle", "line", "loop", "zzzzzzzz"]
/-- an item as drawn -/
def Wc (T R : Int) : Nat → It → Prop
  | _, .line x t => x ∈ poolC ∧ 1 ≤ t ∧ t ≤ T
  | 0, .loop _ _ => False
  | n + 1, .loop r is => 1 ≤ r ∧ r ≤ R ∧ 1 ≤ is.length ∧ is.length ≤ 2 ∧ ∀ i ∈ is, Wc T R n i
theorem wc_line {T R : Int} {n : Nat} {x : Str} {t : Int} : Wc T R n (.line x t) ↔ x ∈ poolC ∧ 1 ≤ t ∧ t ≤ T := by
  cases n <;> exact Iff.rfl
theorem ni_mem : ∀ {is : List It} {i : It}, i ∈ is → It.ni i ≤ Its.ni is
  | j :: is, i, h => by
    rw [Its.ni]
    rcases List.mem_cons.mp h with rfl | h
    · exact Nat.le_add_right _ _
    · exact Nat.le_trans (ni_mem h) (Nat.le_add_left _ _)
theorem It.ni_pos : ∀ i : It, 1 ≤ It.ni i
  | .line _ _ => by rw [It.ni]; exact Nat.le_refl _
  | .loop _ _ => by rw [It.ni]; exact Nat.le_add_right _ _
theorem ni_len : ∀ is : List It, is.length ≤ Its.ni is
  | [] => Nat.zero_le _
  | i :: is => by
    rw [Its.ni, List.length_cons]
    have := It.ni_pos i
    have := ni_len is
    omega
theorem ni_sum : ∀ is : List It, (is.map fun i => ((It.ni i : Nat) : Int)).sum = ((Its.ni is : Nat) : Int)
  | [] => by rw [Its.ni]; rfl
  | i :: is => by
    rw [Its.ni, List.map_cons, List.sum_cons, ni_sum is]
    omega
/-! ### items as drawn -/
theorem wc_ps {T R : Int} : ∀ (n : Nat) (i : It), Wc T R n i → It.ps i
  | n, .line x t, h => by
    rw [It.ps]
    exact (wc_line.mp h).2.1
  | 0, .loop r is, h => h.elim
  | n + 1, .loop r is, h => by
    obtain ⟨h1, h2, h3, h4, h5⟩ : 1 ≤ r ∧ r ≤ R ∧ 1 ≤ is.length ∧ is.length ≤ 2 ∧ ∀ i ∈ is, Wc T R n i := h
    rw [It.ps]
    exact ⟨h1, (fun e => by rw [e] at h3; exact absurd h3 (by decide)), ps_of fun i hi => wc_ps n i (h5 i hi)⟩
theorem wc_okp {T R : Int} {B : Nat} (hT : T < (2 ^ B : Nat)) (hR : R < (2 ^ B : Nat)) : ∀ (n : Nat) (i : It), Wc T R n i → Okp B n i
  | n, .line x t, h => by
    have h := wc_line.mp h
    exact okp_line.mpr ⟨by omega, by omega⟩
  | 0, .loop r is, h => h.elim
  | n + 1, .loop r is, h => by
    obtain ⟨h1, h2, h3, h4, h5⟩ : 1 ≤ r ∧ r ≤ R ∧ 1 ≤ is.length ∧ is.length ≤ 2 ∧ ∀ i ∈ is, Wc T R n i := h
    exact ⟨by omega, by omega, fun i hi => wc_okp hT hR n i (h5 i hi)⟩
theorem poolC_nm : poolC.all nmB = true := by decide +kernel
theorem wc_nm {T R : Int} (hT : T < (2 ^ 64 : Nat)) (hR : R < (2 ^ 64 : Nat)) : ∀ (n : Nat) (i : It), Wc T R n i → It.nm i
  | n, .line x t, h => by
    have h := wc_line.mp h
    rw [It.nm]
    exact ⟨List.all_eq_true.mp poolC_nm x h.1, by omega⟩
  | 0, .loop r is, h => h.elim
  | n + 1, .loop r is, h => by
    obtain ⟨h1, h2, h3, h4, h5⟩ : 1 ≤ r ∧ r ≤ R ∧ 1 ≤ is.length ∧ is.length ≤ 2 ∧ ∀ i ∈ is, Wc T R n i := h
    rw [It.nm]
    exact ⟨by omega, nm_of fun i hi => wc_nm hT hR n i (h5 i hi)⟩
theorem wc_up {T R T' R' : Int} (hT : T ≤ T') (hR : R ≤ R') : ∀ (d e : Nat) (i : It), d ≤ e → Wc T R d i → Wc T' R' e i
  | d, e, .line x t, _, h => by
    have h := wc_line.mp h
    exact wc_line.mpr ⟨h.1, h.2.1, by omega⟩
  | 0, _, .loop _ _, _, h => h.elim
  | d + 1, 0, .loop _ _, hl, _ => absurd hl (Nat.not_succ_le_zero d)
  | d + 1, e + 1, .loop r is, hl, h => by
    obtain ⟨h1, h2, h3, h4, h5⟩ : 1 ≤ r ∧ r ≤ R ∧ 1 ≤ is.length ∧ is.length ≤ 2 ∧ ∀ i ∈ is, Wc T R d i := h
    exact ⟨h1, by omega, h3, h4, fun i hi => wc_up hT hR d e i (by omega) (h5 i hi)⟩
def itC : Nat → Nat
  | 0 => 1
  | n + 1 => 1 + 2 * itC n
theorem wc_ni {T R : Int} : ∀ (n : Nat) (i : It), Wc T R n i → It.ni i ≤ itC n
  | n, .line x t, _ => by
    rw [It.ni]
    cases n
    · exact Nat.le_refl _
    · show 1 ≤ 1 + _
      omega
  | 0, .loop r is, h => h.elim
  | n + 1, .loop r is, h => by
    obtain ⟨h1, h2, h3, h4, h5⟩ : 1 ≤ r ∧ r ≤ R ∧ 1 ≤ is.length ∧ is.length ≤ 2 ∧ ∀ i ∈ is, Wc T R n i := h
    rw [It.ni]
    have z := ni_mul fun i hi => wc_ni n i (h5 i hi)
    have z2 : is.length * itC n ≤ 2 * itC n := Nat.mul_le_mul_right _ h4
    show 1 + Its.ni is ≤ 1 + 2 * itC n
    omega
theorem w_takeS {is : List It} {i : Nat} {it : It} (h : is[i]? = some it) : Its.w (is.take (i + 1)) = Its.w (is.take i) ++ It.w it := by
  obtain ⟨h1, h2⟩ := List.getElem?_eq_some_iff.mp h
  rw [List.take_succ_eq_append_getElem h1, h2, w_app, w_one]
theorem w_len_take (is : List It) (i : Nat) : (Its.w (is.take i)).length ≤ (Its.w is).length := by
  have e : Its.w is = Its.w (is.take i) ++ Its.w (is.drop i) := by
    rw [← w_app, List.take_append_drop]
  rw [e, List.length_append]
  exact Nat.le_add_right _ _
theorem w_mem_len {is : List It} {it : It} (h : it ∈ is) : (It.w it).length ≤ (Its.w is).length := by
  obtain ⟨i, hi⟩ := List.getElem?_of_mem h
  have a := w_len_take is (i + 1)
  rw [w_takeS hi, List.length_append] at a
  omega
theorem flat_str (n : Nat) (xs : List Str) : (List.replicate n (xs.map V.str)).flatten = ((List.replicate n xs).flatten).map V.str := by
  rw [List.map_flatten, List.map_replicate]
theorem flat_one (n : Nat) (x : V) : (List.replicate n [x]).flatten = List.replicate n x := by
  induction n with
  | zero => rfl
  | succ n ih => rw [List.replicate_succ, List.flatten_cons, ih]; rfl
theorem len_flat (n : Nat) (xs : List Str) : ((List.replicate n xs).flatten).length = xs.length * n := by
  induction n with
  | zero => rfl
  | succ n ih =>
    rw [List.replicate_succ, List.flatten_cons, List.length_append, ih, Nat.mul_succ]
    omega
theorem ni_takeC (is : List It) (k : Nat) : Its.ni (is.take k) + Its.ni (is.drop k) = Its.ni is := by
  have app : ∀ is js : List It, Its.ni (is ++ js) = Its.ni is + Its.ni js := fun is => by
    induction is with
    | nil => intro js; rw [List.nil_append, Its.ni, Nat.zero_add]
    | cons i is ih => intro js; rw [List.cons_append, Its.ni, Its.ni, ih js, Nat.add_assoc]
  rw [← app, List.take_append_drop]
theorem w_sumC : ∀ is : List It, (is.map fun i => (((It.w i).length : Nat) : Int)).sum = (((Its.w is).length : Nat) : Int)
  | [] => by rw [Its.w]; rfl
  | i :: is => by
    rw [Its.w, List.length_append, List.map_cons, List.sum_cons, w_sumC is]
    omega
end Ev

/-! ## Any walk by an invariant, whatever its body is -/
namespace Ev
open PySem PySem.Spec PyProof.Rows L2
theorem it_gen {J : L2.It} {n : Nat} {G : Hp → Prop} {Y : Nat → Hp → V → Hp → Prop} (wk : Walk J n G Y) {Bd : (Hp → Prop) → V → Hp → Prop} {Qd : Hp → Prop} {H1 : Hp} (Pv : Nat → Hp → Prop) (h0 : Pv 0 H1) (hG : ∀ i H, i ≤ n → Pv i H → G H)
    (hs : ∀ i x H H', i < n → Pv i H → Y i H x H' → Bd (Pv (i + 1)) x H') (hd : ∀ H, Pv n H → Qd H) :
    ∃ W : Nat → Nat → Hp → Prop, (∃ m, W 0 m H1) ∧ ∀ i m H, W i m H → (J.stop i H ∧ Qd H) ∨ (J.go i H ∧ ∃ Nx : Hp → Prop, (∀ H', Nx H' → ∃ m', m' < m ∧ W (i + 1) m' H') ∧ ∀ x H', J.yld i H x H' → Bd Nx x H') := by
  refine ⟨fun i m H => m + i = n ∧ Pv i H, ⟨n, rfl, h0⟩, fun i m H ⟨e, p⟩ => ?_⟩
  cases m with
  | zero =>
    have e : i = n := by omega
    subst e
    exact .inl ⟨wk.stops H (hG _ H (Nat.le_refl _) p), hd H p⟩
  | succ k =>
    have hi : i < n := by omega
    have g := hG i H (Nat.le_of_lt hi) p
    exact .inr ⟨wk.goes i H hi g, Pv (i + 1), fun H' p' => ⟨k, Nat.lt_succ_self k, by omega, p'⟩, fun x H' y => hs i x H H' hi p (wk.yields i H x H' hi g y)⟩
theorem Its.tupd' (is : List It) : tupDs (is.map It.d) = true := by
  rw [← Its.d_map]
  exact Its.tupd is
theorem seqT_kt {K : PySem.W.Frag} {H H' : Hp} {a : Addr} {xs : List V} (k : Kt H H') (h : SqT K H a xs) : SqT K H' a xs := by
  rcases h with (e | ⟨o, e⟩) | e
  · exact .inl (.inl (k _ _ e fun _ z => by cases z))
  · exact .inl (.inr ⟨o, k _ _ e fun _ z => by cases z⟩)
  · exact .inr e
/-! ### the items within loops -/
def insI : It → List It
  | .line _ _ => []
  | .loop _ js => js
def insIs (is : List It) : List It := (is.map insI).flatten
def isLn : It → Bool
  | .line _ _ => true
  | .loop _ _ => false
theorem ins_take {is : List It} {i : Nat} {it : It} (h : is[i]? = some it) : insIs (is.take (i + 1)) = insIs (is.take i) ++ insI it := by
  unfold insIs
  rw [List.take_add_one, h, List.map_append, List.flatten_append]
  show _ ++ (insI it ++ []) = _
  rw [List.append_nil]
theorem insI_len : ∀ i : It, (insI i).length ≤ It.ni i
  | .line _ _ => Nat.zero_le _
  | .loop _ js => by
    have := ni_len js
    rw [insI, It.ni]
    omega
theorem insIs_len : ∀ is : List It, (insIs is).length ≤ Its.ni is
  | [] => Nat.zero_le _
  | i :: is => by
    have h1 := insIs_len is
    have h2 := insI_len i
    have e : insIs (i :: is) = insI i ++ insIs is := rfl
    rw [e, List.length_append, Its.ni]
    omega
theorem ins_ok {B : Nat} {is : List It} (h : ∀ i ∈ is, Okp B 1 i) : (insIs is).all isLn = true := by
  refine List.all_eq_true.mpr fun j hj => ?_
  unfold insIs at hj
  obtain ⟨l, hl, hjl⟩ := List.mem_flatten.mp hj
  obtain ⟨i, hi, rfl⟩ := List.mem_map.mp hl
  have hok := h i hi
  cases i with
  | line x t => cases hjl
  | loop r js =>
    obtain ⟨_, _, h3⟩ : 0 ≤ r ∧ r < (2 ^ B : Nat) ∧ ∀ i ∈ js, Okp B 0 i := hok
    have hj0 := h3 j hjl
    cases j with
    | line x t => rfl
    | loop r ks => exact hj0.elim
end Ev

/-! ## the law's divisor -/
namespace Ev
open PySem PySem.Spec PyProof.Rows L2
def spLG : Sp := fun vs H Q _ => ∃ a b : Nat, vs = [.int (a : Nat), .int (b : Nat)] ∧ Q (.int (Nat.gcd a b : Nat)) H
theorem scLG : FnScope ["_law_one", "_law_other"] ["_law_one", "_law_other"] (defScope (topS 9)) := ⟨rfl, rfl, rfl, by decide +kernel, rfl, by decide +kernel, by decide +kernel⟩
section
variable {P : Program} {w : World} {K : PySem.W.Frag} {mg : Str → Option Value} {base : Heap}
theorem ok_lg (D : Def K mg "_law_gcd" (topS 9) ["_law_one", "_law_other"]) (nb : NB mg) : Cal P w K mg base 1 "_law_gcd" ["_law_one", "_law_other"] spLG := by
  refine D.ok scLG (fun vs H Q E h => ?_) (fun f cdv A outer s H vs Q E hr gd h => ?_)
  · obtain ⟨a, b, rfl, _⟩ := h
    rfl
  · obtain ⟨a, b, rfl, q⟩ := h
    refine ⟨_, (pss_cons (ps_while PassesOwn.never (pt_cmpR op_gt (pv 1) pe_int (nomark _))
        (pss_one (ps_par (i := 0) (j := 1) rfl scLG.nd rfl rfl (by decide) rfl rfl (pa_cons (pv 1) (pa_cons (pe_op op_mod (pv 0) (pv 1)) pa_nil)) (by rfl))))
      (pss_one (ps_ret (pv 0)))), ?_⟩
    refine while_w (fun m σ' H' => ∃ x : Nat, σ' = [some (.int (x : Nat)), some (.int (m : Nat))] ∧ H' = H ∧ Nat.gcd x m = Nat.gcd a b) ⟨b, a, rfl, rfl, rfl⟩ ?_ ?_
    · rintro m σ' H' ⟨x, rfl, rfl, e⟩
      refine ⟨_, rfl, _, _, rfl, rfl, _, rfl, ite2 (fun hm => ?_) (fun hm => ?_)⟩
      · have hm : (0 : Int) < (m : Int) := of_decide_eq_true hm
        refine ⟨_, rfl, _, rfl, _, rfl, _, _, rfl, rfl, hm, _, _, rfl, x % m, Nat.mod_lt _ (by omega), m, by
          show [some (V.int (m : Nat)), some (V.int ((x : Int) % (m : Int)))] = _
          rw [← Int.natCast_emod], rfl, ?_⟩
        rw [← e, Nat.gcd_comm x m, Nat.gcd_rec m x, Nat.gcd_comm]
      · have hm : ¬ (0 : Int) < (m : Int) := of_decide_eq_false (Bool.eq_false_iff.mpr hm)
        have hm0 : m = 0 := by omega
        subst hm0
        refine ⟨_, rfl, ?_⟩
        rw [Nat.gcd_zero_right] at e
        rw [e]
        exact q
    · rintro σ' H' Q1 Q2 hQ ⟨v, hv, i, j, e1, e2, k, ek, h⟩
      exact ⟨v, hv, i, j, e1, e2, k, ek, hQ _ _ h⟩
end
end Ev

/-! ## A caught exception that is kept: it is taken into the ledger before the clause's suite runs -/
namespace Ev
open PySem PySem.Spec PyProof.Rows L2
/-- an exception, as the ledger knows it -/
def XcO (a : Addr) (cls : Value) (d : Option Addr) : HO := .ext fun h => ∃ oe vs, h.get? a = some oe ∧ Zc cls d oe ∧ oe.data = .fields vs
/-- the ledger may learn of a: nothing else speaks of it -/
structure Room1 (X : Cx) (pins : List (Addr × Obj)) (H : Hp) (a : Addr) : Prop where
  led : H a = none
  ent : X.s_0.heap.get? a = none
  loc : X.env.locals ≠ a
  cel : ∀ x c, X.env.cells.lookup x = some c → c ≠ a
  pin : ∀ p ∈ X.pn ++ pins, p.1 ≠ a
theorem Room1.other {X : Cx} {pins : List (Addr × Obj)} {H : Hp} {a b : Addr} {u : HO} (r : Room1 X pins H a) (h : H b = some u) : b ≠ a := ne_of_none h r.led |> fun z => z
theorem Room1.same {X : Cx} {pins : List (Addr × Obj)} {H : Hp} {a b : Addr} {u o : HO} (r : Room1 X pins H a) (h : H b = some u) : upd H a o b = some u := (upd_ne (r.other h)).trans h
theorem upd_none {H : Hp} {a b : Addr} {o : HO} (n : b ≠ a) (h : H b = none) : upd H a o b = none := (upd_ne n).trans h
theorem learn {X : Cx} {pins : List (Addr × Obj)} {σ : L2.St} {H : Hp} {s : Shared} {a : Addr} {o : HO} (r : Room1 X pins H a) (I : Inv X pins σ H s) (here : ObjOk X.prog X.w (upd H a o) s.heap a o) : Inv X pins σ (upd H a o) s where
  ok := I.ok
  os := I.os
  bare := I.bare
  base := {
    keep := I.base.keep
    slot := I.base.slot
    free := fun b ob e n x => upd_none (fun z => nomatch (z ▸ e).symm.trans r.ent) (I.base.free b ob e n x)
    there := I.base.there
    tups := fun b xs e => r.same (I.base.tups b xs e)
    frzs := fun b ob u e => r.same (I.base.frzs b ob u e)
    tbls := fun b ps e => (I.base.tbls b ps e).imp fun _ q => r.same q }
  loc := I.loc
  cell := I.cell
  free := upd_none r.loc I.free
  freeC := fun x c e => upd_none (r.cel x c e) (I.freeC x c e)
  pin := fun p hp => (I.pin p hp).imp id fun q => ⟨upd_none (r.pin p hp) q.1, q.2⟩
  hok := fun b u e => by
    by_cases hb : b = a
    · cases hb
      cases upd_same.symm.trans e
      exact here
    · exact (I.hok b u ((upd_ne hb).symm.trans e)).stay (fun _ _ _ q => q) (fun _ q => r.same q) fun _ _ q => r.same q
  len := I.len
/-- an exception has come down to the ground of X -/
structure Down (X : Cx) (pins : List (Addr × Obj)) (σ : L2.St) (H : Hp) (a : Addr) (cls : Value) (d : Option Addr) (B h : Heap) (s : Shared) : Prop where
  fly : HandSPX.FlyingZ B (X.env :: X.outer) a (Zc cls d) h
  room : Room1 X pins H a
  inv : ∀ h', HandSPX.FlyingZ B (X.env :: X.outer) a (Zc cls d) h' → h.UpToSlots h' → Inv X pins σ H { s with heap := h' }
  up : ∀ h', h.UpToSlots h' → HandSPX.HeldZ B (X.env :: X.outer) a (Zc cls d) X.env.locals h' → ∀ W : WX, W cls d σ H → XE X W (.ref a) { s with heap := h' }
theorem come_down {X : Cx} {pins : List (Addr × Obj)} {xe : Value → Shared → Prop} {W : WX} {u : Value} {s : Shared} {Q : Flow → Shared → Prop} {E : Value → Shared → Prop} {hds : List ExceptHandler} (ok : X.Ok) (hs : X.stack = X.env :: X.outer) (hf : X.env.frame = some X.env.locals) (hex : X.ex = [])
    (x : XE (X.tr (X.pn ++ pins) xe) W u s)
    (k : ∀ a σ H cls d B h, u = .ref a → W cls d σ H → Down X pins σ H a cls d B h s → wpAny (model X.prog X.w) X.A (handleBy (.ref a) X.env hds) Q E { s with heap := h }) :
    wpAny (model X.prog X.w) X.A (noteFrame u X.env) (fun _ s2 => wpAny (model X.prog X.w) X.A (setFlight u none) (fun _ s3 => wpAny (model X.prog X.w) X.A (handleBy u X.env hds) Q E s3) E s2) E s := by
  obtain ⟨a, B, sI, ps, σ, H, cls, d, rfl, It, ground, up, sky, na, os, ag, w⟩ := x
  have I : Inv X pins σ H sI := It.ofTry ok
  have sky : Sky B (X.env :: X.outer) a (Zc cls d) X.env.locals s.heap := hs ▸ sky
  have frames : X.A.frames = some (X.env :: X.outer) := ok.frames.trans (congrArg some hs)
  refine Sky.land Zc.steady frames hf sky fun h fl up1 => k a σ H cls d B h rfl w ?_
  have noFrame : a ∉ frs (X.env :: X.outer) := fun m => by
    obtain ⟨oe, vs, ge, _, de⟩ := fl.there
    obtain ⟨_, o, go, no⟩ := fl.2.2.1.mem m
    exact no vs (Option.some.inj (go.symm.trans ge) ▸ de)
  have gone : sI.heap.get? a = none := Option.eq_none_iff_forall_not_mem.mpr fun o e => nomatch (ground a o e (hs ▸ noFrame)).symm.trans fl.2.1
  have not : ∀ {b : Addr} {o : Obj}, sI.heap.get? b = some o → b ≠ a := fun e z => nomatch (z ▸ e).symm.trans gone
  refine ⟨fl, ⟨na, ?_, ?_, fun x c e => ?_, fun p hp => not (I.pin p hp).1⟩, fun h' fl' up' => I.landed ground fl'.1 ((up.trans up1).trans up') os ag, fun h' up' held W' w' => ?_⟩
  · refine Option.eq_none_iff_forall_not_mem.mpr fun o e => ?_
    obtain ⟨o', e'⟩ := I.base.there a o e (hex ▸ List.not_mem_nil)
    exact not e' rfl
  · intro z
    exact noFrame (List.mem_filterMap.mpr ⟨X.env, List.mem_cons_self .., hf.trans (congrArg some z)⟩)
  · obtain ⟨v, o, e', _⟩ := I.cell x c e
    exact not e'
  · exact ⟨a, B, sI, pins, σ, H, cls, d, rfl, I, ground, (up.trans up1).trans up', .inr (.inr (hs ▸ held)), na, os, ag, w'⟩
end Ev
namespace Ev
open PySem PySem.Spec PyProof.Rows L2
section
variable {X : Cx} {pins : List (Addr × Obj)} {σ : L2.St} {H : Hp} {s : Shared} {a : Addr}
/-- into a clause's suite and out of it, with the same pins -/
theorem go_in (I : Inv X pins σ H s) : Inv (X.suite a (X.pn ++ pins)) [] σ H s where
  ok := I.ok.suite _ _
  os := I.os
  bare := I.bare
  base := I.base
  loc := I.loc
  cell := I.cell
  free := I.free
  freeC := I.freeC
  pin := by
    intro p hp
    exact I.pin p (List.append_nil (X.pn ++ pins) ▸ hp)
  hok := I.hok
  len := I.len
theorem go_out {q : List (Addr × Obj)} (ok : X.Ok) (I : Inv (X.suite a (X.pn ++ pins)) q σ H s) : Inv X pins σ H s where
  ok := ok
  os := I.os
  bare := I.bare
  base := I.base
  loc := I.loc
  cell := I.cell
  free := I.free
  freeC := I.freeC
  pin := fun p hp => I.pin p (List.mem_append_left q hp)
  hok := I.hok
  len := I.len
end
/-- the clause's own ends: its name goes -/
def lessE (D : Ends) (i : Nat) : Ends := ⟨fun σ H => D.nx (σ.set i none) H, D.rt, fun σ H => D.bk (σ.set i none) H, fun σ H => D.ct (σ.set i none) H⟩
/-- what 'except x as n' wishes of an exception that it catches and that is kept -/
def wKept (K : PySem.W.Frag) (c : Value) (i : Nat) (ts : TS) (D : Ends) : WX := fun cls d σ H =>
  PySem.W.exmOne K cls c = some true ∧ ∀ a, H a = none → ts (lessE D i) (σ.set i (some (.ref a))) (upd H a (XcO a cls d))
section
variable {X : Cx} {x n : Str} {c : Value} {i : Nat} {body suite : List Stmt} {b₀ : Stmt} {np pos pos' : Pos} {tb : WX → TS} {ts : TS}
/-- the clause is looked at -/
theorem look_clause {pins : List (Addr × Obj)} {σ : L2.St} {H : Hp} {a : Addr} {cls : Value} {d : Option Addr} {B h : Heap} {s : Shared} {D : Ends} (ok : X.Ok) (hf : X.env.frame = some X.env.locals) (hN : X.N.Nodup) (hi : X.N[i]? = some n) (hln : X.env.kindOf n = some .local) (hc : Names X x c)
    (hsu : ∀ (a : Addr) (pn : List (Addr × Obj)), PSs (X.suite a pn) (b₀ :: suite) ts) (dn : Down X pins σ H a cls d B h s) (w : wKept X.K c i ts D cls d σ H) :
    wpAny (model X.prog X.w) X.A (handleBy (.ref a) X.env [.ExceptHandler (some (.Name x np)) (some n) (b₀ :: suite) pos']) (SP X pins D) X.xe { s with heap := h } := by
  have here : Inv X pins σ H { s with heap := h } := dn.inv h dn.fly (Heap.UpToSlots.refl h)
  obtain ⟨oe, vs, ge, ze, de⟩ := dn.fly.there
  have cls_is : PySem.W.Looks (model X.prog X.w) h (typeOf (.ref a)) cls := fun A Q E t k q => wpAny_typeOf_ref (k a oe ge) (ze.1.symm ▸ q)
  have name : ∀ {Q : Value → Shared → Prop} {E : Value → Shared → Prop}, Q c { s with heap := h } → wpAny (model X.prog X.w) (X.A.mark (some (.ref a))) (eval (.Name x np) X.env) Q E { s with heap := h } := fun q =>
    match hc with
    | ⟨g, nd, .inl m⟩ => ld_glob (X := X.suite a (X.pn ++ pins)) (go_in here) g m q nd
    | ⟨g, nd, .inr ⟨m, v, nn⟩⟩ => ld_blt (X := X.suite a (X.pn ++ pins)) (go_in here) g m v q nn nd
  refine wpAny_handleBy_cons (codeAny_handlers_test (name ?_)) nofun
  obtain ⟨hit, w⟩ := w
  · refine (PySem.W.exm_one (M := model X.prog X.w) here.kIn cls_is hit).here (codeAny_handlers_suite_as (HandSPX.lands_againZ dn.fly fun h' fl' up' => ?_))
    obtain ⟨oe', vs', ge', ze', de'⟩ := fl'.there
    have known : Inv X pins σ (upd H a (XcO a cls d)) { s with heap := h' } :=
      learn dn.room (dn.inv h' fl' up') ⟨⟨oe', vs', ge', ze', de'⟩, ⟨oe', ge'⟩, fun _ _ ⟨o, v, g, z, e⟩ k => ⟨o, v, k o g, z, e⟩⟩
    refine store_ok (X := X.suite a (X.pn ++ pins)) (v := .ref a) (go_in known) hN hi (.inl hln) rfl (fun s5 J5 => ?_) (.inr hln)
    have run := (hsu a (X.pn ++ pins)).run [] s5 _ _ (lessE D i) J5 (w a dn.room.led)
    refine wpAny_mono run (fun f s6 e6 => ?_) fun _ _ z => z.elim
    have out : ∀ {σ6 : L2.St} {H6 : Hp} {Q : Shared → Prop}, Inv (X.suite a (X.pn ++ pins)) [] σ6 H6 s6 → (∀ s7, Inv X pins (σ6.set i none) H6 s7 → Q s7) → wpAny (model X.prog X.w) X.A (do bindName X.env n .none; unbindBehindTheSuite X.env n pos') (fun _ => Q) X.xe s6 := fun J q => gone_ok (go_out ok J) hN hi hln q
    match f, e6 with
    | .next, ⟨_, _, J, q⟩ => exact out J fun _ J' => ⟨_, _, J', q⟩
    | .brk, ⟨_, _, J, q⟩ => exact out J fun _ J' => ⟨_, _, J', q⟩
    | .cont, ⟨_, _, J, q⟩ => exact out J fun _ J' => ⟨_, _, J', q⟩
    | .ret u, ⟨_, _, _, J, r, q⟩ => exact out J fun _ J' => ⟨_, _, _, J', r, q⟩
/-- try: body / except x as n: suite, the exception kept -/
theorem ps_try_kept (hs : X.stack = X.env :: X.outer) (hf : X.env.frame = some X.env.locals) (hex : X.ex = []) (hN : X.N.Nodup) (hi : X.N[i]? = some n) (hln : X.env.kindOf n = some .local) (hc : Names X x c)
    (hb : ∀ (W : WX) (pn : List (Addr × Obj)) (xe : Value → Shared → Prop), Takes (X.tr pn xe) W → PSs (X.tr pn xe) body (tb W)) (hsu : ∀ (a : Addr) (pn : List (Addr × Obj)), PSs (X.suite a pn) (b₀ :: suite) ts) :
    PS X (.Try body [.ExceptHandler (some (.Name x np)) (some n) (b₀ :: suite) pos'] [] [] pos) (fun D => tb (wKept X.K c i ts D) D) where
  run pins s σ H D I h := by
    have caught : Takes (X.tr (X.pn ++ pins) _) (wKept X.K c i ts D) := fun u s' air => come_down I.ok hs hf hex air fun a σ' H' cls d B g e w dn => by
      exact look_clause (pos' := pos') (np := np) I.ok hf hN hi hln hc hsu dn w
    refine wpAny_Try_except (wpAny_mono ((hb _ _ _ caught).run [] s σ H D (I.toTry _) h) (fun f s1 e1 => ?_) fun _ _ z => z)
    match f, e1 with
    | .next, ⟨_, _, J, q⟩ => exact wpAny_execs_nil ⟨_, _, J.ofTry I.ok, q⟩
    | .brk, ⟨_, _, J, q⟩ => exact ⟨_, _, J.ofTry I.ok, q⟩
    | .cont, ⟨_, _, J, q⟩ => exact ⟨_, _, J.ofTry I.ok, q⟩
    | .ret u, ⟨_, _, _, J, r, q⟩ => exact ⟨_, _, _, J.ofTry I.ok, r, q⟩
end
end Ev

/-! ## A kept exception: its class, its field -/
namespace Ev
open PySem PySem.Spec PyProof.Rows L2
/-- what is written of an error class -/
structure ErrC (K : PySem.W.Frag) (C : Addr) : Prop where
  ox : OexC K C
  ga : PySem.W.findIn K (.ref C) "__getattribute__" = some (some (.builtin "BaseException.__getattribute__"))
  gt : PySem.W.findIn K (.ref C) "__getattr__" = some none
  ac : PySem.W.findIn K (.ref C) "__class__" = some (some (.builtin "object.__class__"))
  gs : PySem.W.specialIn K (.builtin "object.__class__") "__get__" = some (some (.builtin "getset_descriptor.__get__"))
  tk : PySem.W.takesIn K (.builtin "object.__class__") = some true
  mo : PySem.W.mroIn K C (.type "object") = some true
  cl : (PySem.W.clsIn K C).isSome = true
  hd : PySem.W.hasDictIn K C = true
/-- a kept exception of class C, with these fields (no dict where there are none) -/
def Kept (H : Hp) (a C : Addr) (fs : Option (List (Str × V))) : Prop := ∃ d : Option Addr, H a = some (XcO a (.ref C) d) ∧ match d, fs with
  | some d, some fs => H d = some (.xd fs)
  | none, none => True
  | _, _ => False
section
variable {X : Cx} {pins : List (Addr × Obj)} {σ : L2.St} {H : Hp} {s : Shared} {a C : Addr} {fs : Option (List (Str × V))}
/-- where it stands -/
theorem Kept.inst (I : Inv X pins σ H s) (k : Kept H a C fs) : ∃ (o : Obj) (od : Option Obj), PySem.W.InstAt s.heap a o C od ∧ ∀ l, fs = some l → ∃ (d : Addr) (mA : Str → Option Value), o.dict = some d ∧ s.heap.Ns1 d mA ∧ ∀ f, RelO (l.lookup f) (mA f) := by
  obtain ⟨d, ea, m⟩ := k
  obtain ⟨⟨o, vs, ho, hz, hd⟩, _⟩ := I.hok a _ ea
  match d, fs, m with
  | none, none, _ => exact ⟨o, none, ⟨ho, hz.1, by unfold PySem.W.notCls; rw [hd], by rw [hz.2]; trivial⟩, nofun⟩
  | some d, some l, m =>
    obtain ⟨mA, ns, rel⟩ := I.hok d _ m
    obtain ⟨od, hod, _⟩ := lookIn_ns ns
    exact ⟨o, some od, ⟨ho, hz.1, by unfold PySem.W.notCls; rw [hd], by rw [hz.2]; exact hod⟩, fun l' e => by cases e; exact ⟨d, mA, hz.2, ns, rel⟩⟩
theorem Kept.kit (I : Inv X pins σ H s) (k : Kept H a C fs) (T : ErrC X.K C) : ∃ P : Heap → Prop, PySem.W.KitX X.K (.ref a) (.ref C) P ∧ P s.heap := by
  obtain ⟨o, od, at_, _⟩ := k.inst I
  exact ⟨_, PySem.W.kitx_exc (ox := o) (od := od) T.cl T.ga T.gt T.ox.exC T.ac T.gs T.tk T.mo, at_⟩
end
/-- isinstance(kept, c), isinstance(kept, (c, ..)) -/
def rIsK (K : PySem.W.Frag) : List V → Hp → VK → Prop := fun xs H Q => ∃ (a C : Addr) (fs : Option (List (Str × V))) (c : V) (u : Value) (b : Bool), xs = [.ref a, c] ∧ Kept H a C fs ∧ ErrC K C ∧ ClsV c u ∧ PySem.W.kitOne K (.ref C) u = some b ∧ Q (.bl b) H
def rIsKT (K : PySem.W.Frag) : List V → Hp → VK → Prop := fun xs H Q => ∃ (a C : Addr) (fs : Option (List (Str × V))) (t : Addr) (cs : List V) (us : List Value) (b : Bool), xs = [.ref a, .ref t] ∧ Kept H a C fs ∧ ErrC K C ∧ H t = some (.tup cs) ∧ Paired ClsV cs us ∧ PySem.W.kitAny K (.ref C) us = some b ∧ Q (.bl b) H
/-- kept.f -/
def tAtK (K : PySem.W.Frag) (f : Str) (te : TE) : TE := fun σ H Q => te σ H fun x H1 => ∃ (a C : Addr) (l : List (Str × V)) (v : V), x = .ref a ∧ Kept H1 a C (some l) ∧ ErrC K C ∧ PySem.W.findIn K (.ref C) f = some none ∧ l.lookup f = some v ∧ Q v H1
section
variable {X : Cx}
theorem call_isK : CallR X (.builtin "isinstance") (rIsK X.K) := by
  rintro pins s σ H _ us Q I rel ⟨a, C, fs, c, u, b, rfl, kept, T, isC, kit, q⟩
  obtain ⟨v1, v2, rfl, r1, r2⟩ := vals2 rel
  cases r1
  cases isC.eq r2
  obtain ⟨P, Z, p⟩ := kept.kit I T
  exact PySem.W.kia_one Z I.kIn p kit nofun fun tk => ⟨.bl b, H, I.tok tk, rfl, q⟩
theorem call_isKT : CallR X (.builtin "isinstance") (rIsKT X.K) := by
  rintro pins s σ H _ us Q I rel ⟨a, C, fs, t, cs, ws, b, rfl, kept, T, tup, isC, kit, q⟩
  obtain ⟨v1, v2, rfl, r1, r2⟩ := vals2 rel
  cases r1
  cases r2
  obtain ⟨P, Z, p⟩ := kept.kit I T
  obtain ⟨_, its, vals, ⟨oc, od, dt, sl⟩, g, e1, n, e2⟩ := I.hok t _ tup
  cases (show oc = Value.type "tuple" from e1)
  cases (show dt = Data.seq its.toArray n from e2)
  cases ClsV.all isC vals
  exact PySem.W.kia_tup Z I.kIn p g kit nofun fun tk => ⟨.bl b, H, I.tok tk, rfl, q⟩
theorem pe_atK {e : Expr} {te : TE} {f : Str} {pos : Pos} (he : PE X e te) (hb : attributeBase e f X.env (eval e X.env) = eval e X.env := by rfl) : PE X (.Attribute e f pos) (tAtK X.K f te) where
  run pins s σ H Q I h := by
    refine attr_of hb (thn (he.run pins s σ H _ I h) ?_)
    rintro u s1 ⟨x, H1, I1, rx, a, C, l, v, rfl, kept, T, no, lk, q⟩
    cases rx
    obtain ⟨d, ea, m⟩ := kept
    obtain ⟨⟨o, vs, ho, hz, hd⟩, _⟩ := I1.hok a _ ea
    match d, m with
    | some d, m =>
      obtain ⟨mA, ns, rel⟩ := I1.hok d _ m
      obtain ⟨od, hod, look⟩ := lookIn_ns ns
      obtain ⟨w, hw, rw'⟩ := RelO.some_of (v := v) (o := mA f) (lk ▸ rel f)
      have at_ : PySem.W.InstAt s1.heap a o C (some od) := ⟨ho, hz.1, by unfold PySem.W.notCls; rw [hd], by rw [hz.2]; exact hod⟩
      exact HandSPX.exc_get I1.kIn at_ T.ga T.gt T.ox.exC (PySem.W.findObj_own T.hd no rfl ((look f).trans (hw ▸ rfl))) (handed_of rw') ⟨v, H1, I1.tok _, rw', q⟩
end
end Ev

/-! ## Defs that may raise -/
namespace Ev
open PySem PySem.Spec PyProof.Rows L2
/-- a def that keeps a promise or raises, ready to be called -/
structure CalX (P : Program) (w : World) (K : PySem.W.Frag) (mg : Str → Option Value) (base : Heap) (k : Nat) (x : Str) (ps : List Str) (sp : Sp) : Prop where
  ex : ∃ (f : Addr) (fd : FuncData), FnG P w K mg base (L2.CX P w) k f fd ps sp ∧ Binds K fd ps [] ∧ mg x = some (.ref f) ∧ PySem.W.keepIn K (.ref f) = true
section
variable {P : Program} {w : World} {K : PySem.W.Frag} {mg : Str → Option Value} {base : Heap} {x : Str} {st : Stmt} {ps N : List Str} {sp : Sp} {k : Nat}
theorem Def.okX (D : Def K mg x st ps) (S : FnScope N ps (defScope st)) (len : ∀ vs H Q E, sp vs H Q E → vs.length = ps.length)
    (walk : ∀ (f : Addr) (cdv : Value) (A : Around) (outer : List Env) (s : Shared) (H : Hp) (vs : List V) (Q : VK) (E : XK), Room k (A.deeper (envOfC x (defScope st) s.heap.objs.size f cdv)) → A.guards = some [] → sp vs H Q E →
      ∃ t, PSs (cxOf (L2.CX P w) P w K mg base N x (defScope st) f cdv A outer s H E) (defBody st) t ∧ t { nx := fun _ H' => Q .non H', rt := Q } (start N vs) H) : CalX P w K mg base (k + 1) x ps sp := by
  obtain ⟨f, fd, F, b, m⟩ := D.ex
  obtain ⟨oc, od, kV, doc, pm, an, cdv, ct, osl, e, lk, hcd⟩ := id F.ex
  cases e
  exact ⟨f, _, fnG_of lk hcd S len fun A outer s H vs Q E hr gd h => walk f cdv A outer s H vs Q E hr gd h, b, m, F.kp⟩
end
section
variable {X : Cx} {k : Nat} {ps : List Str} {sp : Sp} {x : Str} {p pos : Pos} {e : Expr} {es : List Expr} {t : TA} {W : WX}
/-- f(e, ..), where W takes what f raises -/
theorem pcallX (C : CalX X.prog X.w X.K X.mg X.base k x ps sp) (hr : Room k X.A) (gd : X.A.guards = some []) (hg : Gl X x) (tk : Takes X W) (ha : PA X (e :: es) t)
    (hdb : (x == ("__debug__" : Str)) = false := by decide) (he : starEach (e :: es) X.env = (false, eval e X.env) :: starEach es X.env := by rfl) (hpl : (backTo pos (starEach es X.env)).any (·.1) = false := by rfl) :
    PE X (.Call (.Name x p) (e :: es) [] pos) (tCallS sp (WE W) t) where
  run pins s σ H Q I h := by
    obtain ⟨f, fd, F, hb, hm, hk⟩ := C.ex
    have args := ha.run pos pins s σ H _ I h
    refine wpAny_Call_Name_kw (ld_glob I hg hm (PySem.W.callWith_K (h₀ := X.base) I.ok.mod.kin hk (thn args ?_) he hpl) hdb)
    rintro us s1 ⟨vs, H1, I1, rel, q⟩
    have l : us.length = ps.length := (rel.length).symm.trans (F.many _ _ _ _ q)
    have bound := hb s1 us I1.kIn (by rw [List.append_nil]; exact l)
    rw [List.append_nil] at bound
    refine ⟨I1.kIn, wpAny_call (codeAny_mono (F.go X.A X.stack s1 H1 ⟨us, []⟩ us vs Q (WE W σ) hr gd I1.env0 bound rel q) fun res s2 out => ?_)⟩
    match res, out with
    | .error er, out => exact passAt tk σ pins H1 s1 er s2 I1 out
    | .ok (.ret v), out => exact I1.after out
end
end Ev

/-! ## raise C(v), C an error class with one field or none -/
namespace Ev
open PySem PySem.Spec PyProof.Rows L2
section
variable {X : Cx} {o e : Expr} {es : List Expr} {to te : TE} {ta : TA} {f x : Str} {p p' p1 p2 pos : Pos}
/-- S.__init__(self, ..) of an own class S that has none itself -/
theorem pe_seInit {pl : Sem Bool} {S : Addr} (hg : Gl X x) (hm : X.mg x = some (.ref S))
    (sg : PySem.W.specialIn X.K (.ref S) "__getattribute__" = some (some (.builtin "type.__getattribute__")))
    (rd : PySem.W.readsIn X.K S (.type "type") = true)
    (vV : PySem.W.findCls X.K (.ref S) (.type "type") "__init__" = some (.val (.builtin "ValueError.__init__")))
    (ha : PA X (e :: es) ta) (hdb : (x == ("__debug__" : Str)) = false := by decide)
    (hc : eval (.Call (.Attribute (.Name x p1) "__init__" p2) (e :: es) [] pos) X.env = (eval (.Name x p1) X.env >>= fun ov =>
      standAt p2.atName >>= fun _ => holding [ov] (getMethod ov "__init__" pl) >>= fun fx =>
      callWith pos fx.1 fx.2 (backTo pos (starEach (e :: es) X.env)) (backToKw pos (keywordEach [] X.env))) := by rfl)
    (he : starEach (e :: es) X.env = (false, eval e X.env) :: starEach es X.env := by rfl)
    (hpl : (backTo pos (starEach es X.env)).any (·.1) = false := by rfl) :
    PE X (.Call (.Attribute (.Name x p1) "__init__" p2) (e :: es) [] pos) (tVeI X.K ta) := by
  constructor
  intro pins s σ H Q I h
  refine PySem.W.methodCall_KW (ld_glob I hg hm ?_ hdb) hc
  refine PySem.W.method_cls I.kIn sg (PySem.W.cls_value (mc := .type "type") I.kIn rd vV (by decide +kernel) ?_)
  have z := ha.run pos pins _ σ H _ (I.tok (s.toks + 1)) h
  refine PyProof.Rows.callWith_method1 (first := []) (thn z ?_) he hpl
  rintro us s1 ⟨vs, H1, I1, r1, a, C, ws, ev, hl, T, ea, q⟩
  subst ev
  cases r1 with
  | @cons _ u0 _ ur ra rt =>
    obtain rfl : u0 = Value.ref a := ra
    have hlen : ur.length ≤ sizeLine := by
      have z := Paired.length rt
      have y := sizeLine_eq
      omega
    exact oinit_ok T I1 ea hlen fun s' J => ⟨.non, H1, J, rfl, q⟩

end
/-- the errors' common base -/
structure BaseT (K : PySem.W.Frag) (mg : Str → Option Value) (S : Addr) : Prop where
  g : mg "SampleError" = some (.ref S)
  sg : PySem.W.specialIn K (.ref S) "__getattribute__" = some (some (.builtin "type.__getattribute__"))
  rd : PySem.W.readsIn K S (.type "type") = true
  vV : PySem.W.findCls K (.ref S) (.type "type") "__init__" = some (.val (.builtin "ValueError.__init__"))
def spInit1 (C : Addr) (f : Str) : Sp := fun vs H Q _ => ∃ (a : Addr) (v : V), vs = [.ref a, v] ∧ H a = some (exo a C none) ∧ ∀ dx, H dx = none → dx ≠ a → Q .non (upd (upd H dx (exd dx [(f, v)])) a (exo a C (some dx)))
/-- an error class with the field f, ready to be raised -/
structure Err1 (P : Program) (w : World) (K : PySem.W.Frag) (mg : Str → Option Value) (base : Heap) (x : Str) (C : Addr) (f : Str) : Prop where
  g : mg x = some (.ref C)
  cls : ErrC K C
  fld : PySem.W.findIn K (.ref C) f = some none
  ini : ∃ (fI : Addr) (fd : FuncData), PySem.W.findIn K (.ref C) "__init__" = some (some (.ref fI)) ∧ PySem.W.typeIn K (.ref fI) = some (.type "function") ∧ FnOk P w K mg base CX0 1 fI fd ["self", f] (spInit1 C f) ∧ Binds K fd ["self", f] []
theorem field_only {H : Hp} {a d : Addr} {C : Addr} {f : Str} {v : V} (na : H a = none) (da : d ≠ a) : upd (del (upd (upd (upd H a (exo a C none)) d (exd d [(f, v)])) a (exo a C (some d))) a) d (.xd [(f, v)]) = upd H d (.xd [(f, v)]) := by
  funext b
  by_cases hd : b = d
  · subst hd
    rw [upd_same, upd_same]
  · rw [upd_ne hd, upd_ne hd]
    by_cases ha : b = a
    · subst ha
      exact del_same.trans na.symm
    · rw [del_ne ha, upd_ne ha, upd_ne hd, upd_ne ha]
section
variable {X : Cx} {x : Str} {C : Addr} {f : Str} {e : Expr} {te : TE} {W : WX} {p pos pos' : Pos}
/-- raise C(e): the exception's own dict d holds the field -/
theorem ps_raise1 (R : Err1 X.prog X.w X.K X.mg X.base x C f) (hc : X.calm = true) (hr : Room 2 X.A) (hg : Gl X x) (tk : Takes X W) (he : PE X e te) (hdb : (x == ("__debug__" : Str)) = false := by decide)
    (h1 : starEach [e] X.env = (false, eval e X.env) :: starEach [] X.env := by rfl) : PS X (.Raise (some (.Call (.Name x p) [e] [] pos)) none pos') (fun _ σ H => tMkO C (spInit1 C f) [] (tCons te tNil) σ H fun cls d H' => W cls d σ H') := by
  obtain ⟨fI, fd, iC, tI, F, b⟩ := R.ini
  exact ps_raise hc tk (pmk_oex (pos := pos) (p := p) R.cls.ox iC tI F hr b .nil pass0 hg R.g (pa_cons he pa_nil h1) hdb h1 rfl)
theorem raise1_go {H : Hp} {v : V} {Q : XK} (q : ∀ d, H d = none → Q (.ref C) (some d) (upd H d (.xd [(f, v)]))) : [v].length ≤ 1000 ∧ ∀ a, H a = none → spInit1 C f (.ref a :: ([v] ++ [])) (upd H a (exo a C none))
    (fun u H2 => u = .non ∧ ∃ (d : Addr) (fs : List (Str × V)), H2 a = some (exo a C (some d)) ∧ H2 d = some (exd d fs) ∧ H d = none ∧ Q (.ref C) (some d) (upd (del H2 a) d (.xd fs))) (fun _ _ _ => False) := by
  refine ⟨(by show 1 ≤ 1000; decide), fun a na => ⟨a, v, rfl, upd_same, fun d nd da => ⟨rfl, d, [(f, v)], upd_same, ?_, ?_, ?_⟩⟩⟩
  · rw [upd_ne da]
    exact upd_same
  · rw [upd_ne da] at nd
    exact nd
  · rw [field_only na da]
    rw [upd_ne da] at nd
    exact q d nd
end
end Ev

/-! ## raise C(), C an error class whose __init__ takes self alone -/
namespace Ev
open PySem PySem.Spec PyProof.Rows L2
def spInit0 (C : Addr) : Sp := fun vs H Q _ => ∃ a : Addr, vs = [.ref a] ∧ H a = some (exo a C none) ∧ Q .non H
/-- such a class, ready to be raised -/
structure Err0 (P : Program) (w : World) (K : PySem.W.Frag) (mg : Str → Option Value) (base : Heap) (x : Str) (C : Addr) : Prop where
  g : mg x = some (.ref C)
  cls : ErrC K C
  ini : ∃ (fI : Addr) (fd : FuncData), PySem.W.findIn K (.ref C) "__init__" = some (some (.ref fI)) ∧ PySem.W.typeIn K (.ref fI) = some (.type "function") ∧ FnOk P w K mg base CX0 1 fI fd ["self"] (spInit0 C) ∧ Binds K fd ["self"] []
section
variable {X : Cx} {x : Str} {C : Addr} {W : WX} {p pos pos' : Pos}
/-- C(): a new error, held as a value -/
theorem pe_err0 (R : Err0 X.prog X.w X.K X.mg X.base x C) (hr : Room 2 X.A) (hg : Gl X x) (hdb : (x == ("__debug__" : Str)) = false := by decide) :
    PE X (.Call (.Name x p) [] [] pos) (fun _ H Q => ∀ a, H a = none → Q (.ref a) (upd H a (exo a C none))) := by
  constructor
  intro pins s σ H Q I q
  obtain ⟨fI, fd, iC, tI, F1, hb⟩ := R.ini
  have T := R.cls.ox
  obtain ⟨nm, qn, N, bs, bm, sn, sub, ab, col, dd, k0, k1, k2, k3, k5, hC, hbm⟩ := T.cls
  refine wpAny_Call_Name_kw (ld_glob I hg R.g (PySem.W.callWith_K0 I.kIn T.kC ?_) hdb)
  obtain ⟨hp, g, dr, tk, os⟩ := s
  have hsz : hp.objs.size ≤ hp.objs.size + 1 := Nat.le_succ _
  have hn : H (hp.objs.size + 1) = none := I.hok.fresh hsz
  have there : ((hp.push (PySem.W.kdv_tup [])).push (PySem.HandSPX.excO C hp.objs.size)).get? (hp.objs.size + 1) = some (PySem.HandSPX.excO C hp.objs.size) := by heap_get
  have old : ∀ b o, hp.get? b = some o → ((hp.push (PySem.W.kdv_tup [])).push (PySem.HandSPX.excO C hp.objs.size)).get? b = some o := fun b o e => Heap.get?_push_of_some _ (Heap.get?_push_of_some _ e)
  have J : Inv X pins σ (upd H (hp.objs.size + 1) (exo (hp.objs.size + 1) C none)) ⟨_, g, dr, tk, os⟩ := I.laid (t' := tk) old hsz (exo_ok there)
  have bt := hb _ [Value.ref (hp.objs.size + 1)] J.kIn rfl
  have run := F1.run _ X.stack _ _ ⟨[Value.ref (hp.objs.size + 1)], []⟩ [Value.ref (hp.objs.size + 1)] [V.ref (hp.objs.size + 1)] (fun v H2 => v = .non ∧ Q (.ref (hp.objs.size + 1)) H2) E0 (hr.make C [] []) (J.env0.make C [] []) bt (.cons rfl .nil)
    ⟨_, rfl, upd_same, rfl, q _ hn⟩
  refine wpAny_call (PySem.HandSPX.call_own F.excBase_ValueError (fun Y => PySem.HandSPX.refsVE_contains Y bm hbm) (I.kIn _ _ hC) (PySem.W.looks_findIn I.kIn iC) (fun self => PySem.W.bind_fn I.kIn self tI) (Nat.zero_le _) (codeAny_mono run fun r s' z => ?_))
  match r, z with
  | .error er, z => exact pass0 pins σ _ _ er s' J z
  | .ok .next, z => exact False.elim z
  | .ok .brk, z => exact False.elim z
  | .ok .cont, z => exact False.elim z
  | .ok (.ret u), z =>
    obtain ⟨v, H2, J2, rv, ev, q2⟩ := (J.after z : EP X pins σ _ u s')
    subst ev
    obtain rfl : u = Value.none := rv
    exact ⟨rfl, .ref _, H2, J2, rfl, q2⟩
/-- raise C() -/
theorem ps_raise0 (R : Err0 X.prog X.w X.K X.mg X.base x C) (hc : X.calm = true) (hx : X.ex = []) (hr : Room 2 X.A) (hg : Gl X x) (tk : Takes X W) (hdb : (x == ("__debug__" : Str)) = false := by decide) :
    PS X (.Raise (some (.Call (.Name x p) [] [] pos)) none pos') (fun _ σ H => ∀ a, H a = none → Fr0 X.H_0 a ∧ W (.ref C) none σ H) := by
  refine ps_raise (t := fun σ H Q => ∀ a, H a = none → Fr0 X.H_0 a ∧ Q (.ref C) none H) hc tk fun pins s σ H Q I h => ?_
  refine wpAny_mono ((pe_err0 R hr hg hdb).run pins s σ H (fun v H1 => ∃ a, v = .ref a ∧ H a = none ∧ H1 = upd H a (exo a C none)) I fun a na => ⟨a, rfl, na, rfl⟩) (fun u s1 hu => ?_) fun _ _ z => z
  obtain ⟨v, H1, J, rv, a, rfl, na, rfl⟩ := hu
  obtain rfl : u = Value.ref a := rv
  obtain ⟨fr, q⟩ := h a na
  obtain ⟨t1, ho⟩ := exo_at J.hok (upd_same (H := H) (a := a) (o := exo a C none))
  obtain ⟨G, g1, g2, J'⟩ := J.untrack upd_same fr hx
  rw [delH_new na] at J'
  exact ⟨a, _, _, { s1 with heap := G }, H, .ref C, none, rfl, J', g1, g2, ho, ⟨rfl, rfl⟩, rfl, rfl, na, rfl, J.bare, raises_own R.cls.ox.exC R.cls.ox.tyC, q⟩
end
end Ev

/-! ## Methods of own classes -/
namespace Ev
open PySem PySem.Spec PyProof.Rows L2
/-- a method of a class, ready to be called -/
structure MCal (P : Program) (w : World) (K : PySem.W.Frag) (mg : Str → Option Value) (base : Heap) (k : Nat) (C : Addr) (m : Str) (ps : List Str) (sp : Sp) : Prop where
  ex : ∃ (f : Addr) (fd : FuncData), FnOk P w K mg base CX0 k f fd ps sp ∧ Binds K fd ps [] ∧ Meth K C m f
/-- a method as it is written -/
structure MDef (K : PySem.W.Frag) (C : Addr) (m q : Str) (st : Stmt) (ps : List Str) : Prop where
  ex : ∃ (f : Addr) (fd : FuncData), Fun K m q st f fd ∧ Binds K fd ps [] ∧ Meth K C m f
section
variable {P : Program} {w : World} {K : PySem.W.Frag} {mg : Str → Option Value} {base : Heap} {x q : Str} {st : Stmt} {ps N : List Str} {sp : Sp} {k j : Nat} {C : Addr}
theorem MCal.up (M : MCal P w K mg base j C x ps sp) (h : j ≤ k) : MCal P w K mg base k C x ps sp := by
  obtain ⟨f, fd, F, b, m⟩ := M.ex
  exact ⟨f, fd, ⟨F.len, fun A o s H args us vs Q E hr => F.run A o s H args us vs Q E (hr.mono h)⟩, b, m⟩
theorem MDef.ok (D : MDef K C x q st ps) (S : FnScope N ps (defScope st)) (len : ∀ vs H Q E, sp vs H Q E → vs.length = ps.length)
    (hbody : ∀ (f : Addr) (cdv : Value) (A : Around) (outer : List Env) (s : Shared) (H : Hp) (vs : List V) (Q : VK) (E : XK),
      Room k (A.deeper (envOfC q (defScope st) s.heap.objs.size f cdv)) → sp vs H Q E →
      ∃ t, PSs (cxOf CX0 P w K mg base N q (defScope st) f cdv A outer s H E).nox (defBody st) t ∧
        t { nx := fun _ H' => Q .non H', rt := Q } (start N vs) H) : MCal P w K mg base (k + 1) C x ps sp := by
  obtain ⟨f, fd, F, b, m⟩ := D.ex
  exact ⟨f, fd, F.ok S len (hbody f), b, m⟩
end
section
variable {X : Cx} {k : Nat} {C : Addr} {ps : List Str} {sp : Sp} {m : Str} {pos apos : Pos} {e o : Expr} {es : List Expr} {ta : TE} {t : TA}
theorem pmeth {pl : Sem Bool} (M : MCal X.prog X.w X.K X.mg X.base k C m ps sp) (c : Cls X.K C) (hr : Room k X.A) (ho : PE X o ta) (ha : PA X (e :: es) t)
    (h1 : starEach (e :: es) X.env = (false, eval e X.env) :: starEach es X.env := by rfl) (h2 : (backTo pos (starEach es X.env)).any (·.1) = false := by rfl)
    (h3 : eval (.Call (.Attribute o m apos) (e :: es) [] pos) X.env = (do
      let v ← eval o X.env
      standAt apos.atName
      let (f, first) ← holding [v] (getMethod v m pl)
      callWith pos f first (backTo pos (starEach (e :: es) X.env)) (backToKw pos (keywordEach [] X.env))) := by rfl) : PE X (.Call (.Attribute o m apos) (e :: es) [] pos) (tMeth C m sp [] E0 ta t) := by
  obtain ⟨f, fd, F, hb, hm⟩ := M.ex
  exact pe_meth (pl := pl) ho c hm F hr hb .nil pass0 ha h1 h2 h3
theorem pmeth0 {pl : Sem Bool} (M : MCal X.prog X.w X.K X.mg X.base k C m ps sp) (c : Cls X.K C) (hr : Room k X.A) (ho : PE X o ta)
    (h3 : eval (.Call (.Attribute o m apos) [] [] pos) X.env = (do
      let v ← eval o X.env
      standAt apos.atName
      let (f, first) ← holding [v] (getMethod v m pl)
      callWith pos f first (backTo pos (starEach [] X.env)) (backToKw pos (keywordEach [] X.env))) := by rfl) : PE X (.Call (.Attribute o m apos) [] [] pos) (tMeth C m sp [] E0 ta tNil) := by
  obtain ⟨f, fd, F, hb, hm⟩ := M.ex
  exact pe_meth0 (pl := pl) ho c hm F hr hb .nil pass0 h3
/-- a class whose __init__ keeps a promise -/
structure KCal (P : Program) (w : World) (K : PySem.W.Frag) (mg : Str → Option Value) (base : Heap) (k : Nat) (C : Addr) (x : Str) (ps : List Str) (sp : Sp) : Prop where
  ex : ∃ (f : Addr) (fd : FuncData), FnOk P w K mg base CX0 k f fd ps sp ∧ Binds K fd ps [] ∧ Mk K C f ∧ mg x = some (.ref C)
theorem pmake {x : Str} {p : Pos} (M : KCal X.prog X.w X.K X.mg X.base k C x ps sp) (hr : Room (k + 1) X.A) (hg : Gl X x) (ha : PA X (e :: es) t)
    (h0 : (x == ("__debug__" : Str)) = false := by decide) (h1 : starEach (e :: es) X.env = (false, eval e X.env) :: starEach es X.env := by rfl) (h2 : (backTo pos (starEach es X.env)).any (·.1) = false := by rfl) :
    PE X (.Call (.Name x p) (e :: es) [] pos) (tMake C sp [] E0 t) := by
  obtain ⟨f, fd, F, hb, mk, hm⟩ := M.ex
  exact pe_make mk F hr hg hm hb .nil pass0 ha h0 h1 h2
end
/-! ### tuples stay, while objects and lists change -/
def Kj (H H' : Hp) : Prop := ∀ b o, H b = some o → (∀ xs, o ≠ .lst xs) → (∀ C dx fs, o ≠ .ins C dx fs) → H' b = some o
section
variable {K : PySem.W.Frag} {H H' H'' : Hp}
theorem Kj.of (s : Same H H') : Kj H H' := fun b o e _ _ => s b o e
theorem Kj.kt (s : Kt H H') : Kj H H' := fun b o e n _ => s b o e n
theorem Kj.trans (a : Kj H H') (b : Kj H' H'') : Kj H H'' := fun x o e n m => b x o (a x o e n m) n m
theorem Kj.putL {l : Addr} {xs : List V} {o : HO} (h : H l = some (.lst xs)) : Kj H (upd H l o) := .kt (Kt.put h)
theorem Kj.putI {p C dx : Addr} {fs : List (Str × V)} {o : HO} (h : H p = some (.ins C dx fs)) : Kj H (upd H p o) := fun b u e _ m => by
  have z : b ≠ p := fun z => by
    rw [z, h] at e
    cases e
    exact m _ _ _ rfl
  rw [upd_ne z]
  exact e
mutual
theorem Da.kj (k : Kj H H') : ∀ {v : V} {d : PyData}, tupD d = true → Da K H v d → Da K H' v d
  | _, _, _, .non => .non
  | _, _, _, .bl b => .bl b
  | _, _, _, .int i => .int i
  | _, _, _, .str x => .str x
  | _, _, n, .lst _ _ => by
    rw [tupD] at n
    cases n
  | _, _, n, .tup h t => by
    rw [tupD] at n
    refine .tup ?_ (DaAll.kj k n t)
    rcases h with (e | ⟨o, e⟩) | e
    · exact .inl (.inl (k _ _ e (fun xs z => by cases z) (fun _ _ _ z => by cases z)))
    · exact .inl (.inr ⟨o, k _ _ e (fun xs z => by cases z) (fun _ _ _ z => by cases z)⟩)
    · exact .inr e
  | _, _, n, .dic _ _ => by
    rw [tupD] at n
    cases n
theorem DaAll.kj (k : Kj H H') : ∀ {vs : List V} {ds : List PyData}, tupDs ds = true → DaAll K H vs ds → DaAll K H' vs ds
  | _, _, _, .nil => .nil
  | _, _, n, .cons h t => by
    rw [tupDs, Bool.and_eq_true] at n
    exact .cons (Da.kj k n.1 h) (DaAll.kj k n.2 t)
end
end
theorem none_of' {H H' : Hp} {p : Addr} (s : Same H H') (n : H' p = none) : H p = none := by
  cases e : H p with
  | none => rfl
  | some o =>
    rw [s _ _ e] at n
    cases n
/-- all but two stand -/
def Bu2 (p e : Addr) (H H' : Hp) : Prop := ∀ b o, b ≠ p → b ≠ e → H b = some o → H' b = some o
theorem Bu2.refl {p e : Addr} {H : Hp} : Bu2 p e H H := fun _ _ _ _ h => h
theorem Bu2.trans {p e : Addr} {H H1 H2 : Hp} (a : Bu2 p e H H1) (b : Bu2 p e H1 H2) : Bu2 p e H H2 := fun x o n m h => b x o n m (a x o n m h)
theorem Bu2.of {p e : Addr} {H H' : Hp} (s : Same H H') : Bu2 p e H H' := fun b o _ _ h => s b o h
theorem Bu2.put1 {p e : Addr} {H : Hp} {o : HO} : Bu2 p e H (upd H p o) := fun b _ n _ h => by
  rw [upd_ne n]
  exact h
theorem Bu2.put2 {p e : Addr} {H : Hp} {o : HO} : Bu2 p e H (upd H e o) := fun b _ _ n h => by
  rw [upd_ne n]
  exact h
end Ev

/-! ## A law whose defs make lambdas: the tables of their code objects are known from the start -/
namespace Ev
open PySem PySem.Spec PyProof.Rows L2
open LamX (TabB)
/-- the script is read only: it stands whatever else changes -/
def Scr (K : PySem.W.Frag) (H : Hp) (a : Addr) (xs : List V) : Prop := (∃ o, H a = some (.frz o (.lst xs))) ∨ ∀ H', SqL K H' a xs
/-- what the ledger holds when a law begins: the script (if no written object is the script), empty tables -/
structure Begun (K : PySem.W.Frag) (a : Addr) (o : Obj) (xs : List V) (cs : List (Addr × Addr)) (H : Hp) : Prop where
  tab : ∀ p ∈ cs, H p.2 = some (.tbl #[])
  seq : Scr K H a xs
  all : ∀ b u, H b = some u → (∃ p ∈ cs, p.2 = b ∧ u = .tbl #[]) ∨ (b = a ∧ u = .frz o (.lst xs) ∧ K.lookup a = none)
theorem begun {K : PySem.W.Frag} {h : Heap} {a : Addr} {vs : List Value} {xs : List V} {cs : List (Addr × Addr)} (KX : K.In h) (ha : h.get? a = some { cls := .type "list", data := .seq vs.toArray })
    (hT : ∀ p ∈ cs, h.get? p.2 = some (PySem.W.tabObj #[])) (rv : Vals xs vs) (hl : xs.length ≤ sizeLine) : ∃ H, Begun K a { cls := .type "list", data := .seq vs.toArray } xs cs H := by
  have ne : ∀ p ∈ cs, p.2 ≠ a := fun p hp z => by
    have e := hT p hp
    rw [z, ha] at e
    cases e
  let T : Hp := fun b => if ∃ p ∈ cs, p.2 = b then some (.tbl #[]) else none
  have at1 : ∀ p ∈ cs, T p.2 = some (.tbl #[]) := fun p hp => if_pos ⟨p, hp, rfl⟩
  have inv1 : ∀ b u, T b = some u → ∃ p ∈ cs, p.2 = b ∧ u = .tbl #[] := fun b u e => by
    by_cases z : ∃ p ∈ cs, p.2 = b
    · have e2 : T b = some (.tbl #[]) := if_pos z
      obtain ⟨p, hp, hb⟩ := z
      exact ⟨p, hp, hb, Option.some.inj (e.symm.trans e2)⟩
    · exact nomatch (if_neg z : T b = none).symm.trans e
  cases hk : K.lookup a with
  | none =>
    refine ⟨upd T a (.frz { cls := .type "list", data := .seq vs.toArray } (.lst xs)), fun p hp => (upd_ne (ne p hp)).trans (at1 p hp), .inl ⟨_, upd_same⟩, fun b u e => ?_⟩
    by_cases z : b = a
    · subst z
      exact .inr ⟨rfl, Option.some.inj (e.symm.trans upd_same), hk⟩
    · exact .inl (inv1 b u ((upd_ne z).symm.trans e))
  | some ob =>
    have e := KX a ob hk
    rw [ha] at e
    cases e
    exact ⟨T, at1, .inr fun _ => .inr ⟨_, vs.toArray, _, hk, rfl, rfl, rfl, by rw [List.size_toArray, ← rv.length]; exact hl, by simpa using rv⟩, fun b u e => .inl (inv1 b u e)⟩
section
variable {P : Program} {w : World} {K : PySem.W.Frag} {mg mb : Str → Option Value} {h : Heap} {a : Addr} {vs : List Value} {xs : List V} {cs : List (Addr × Addr)} {H : Hp}
/-- what is neither the script nor a table is not in the ledger -/
theorem Begun.off (B : Begun K a { cls := .type "list", data := .seq vs.toArray } xs cs H) (ha : h.get? a = some { cls := .type "list", data := .seq vs.toArray }) (hT : ∀ p ∈ cs, h.get? p.2 = some (PySem.W.tabObj #[]))
    {b : Addr} {ob : Obj} (e : h.get? b = some ob) (n1 : ob.data ≠ .seq vs.toArray) (n2 : ob.data ≠ .fields #[]) : H b = none := by
  cases q : H b with
  | none => rfl
  | some u =>
    rcases B.all b u q with ⟨p, hp, rfl, _⟩ | ⟨rfl, _, _⟩
    · rw [hT p hp] at e
      cases e
      exact (n2 rfl).elim
    · rw [ha] at e
      cases e
      exact (n1 rfl).elim
theorem Begun.ns (B : Begun K a { cls := .type "list", data := .seq vs.toArray } xs cs H) (ha : h.get? a = some { cls := .type "list", data := .seq vs.toArray }) (hT : ∀ p ∈ cs, h.get? p.2 = some (PySem.W.tabObj #[]))
    {b : Addr} {m : Str → Option Value} : h.Ns b m → (hidT h H).Ns b m := fun ⟨ob, es, ep, e, d, r⟩ => ⟨ob, es, ep, hidT_get e (B.off ha hT e (by rw [d]; nofun) (by rw [d]; nofun)), d, r⟩
theorem Begun.kin (B : Begun K a { cls := .type "list", data := .seq vs.toArray } xs cs H) (KX : K.In h) (nT : ∀ p ∈ cs, K.lookup p.2 = none) : K.In (hidT h H) := fun b ob e => by
  refine hidT_get (KX b ob e) ?_
  cases q : H b with
  | none => rfl
  | some u =>
    rcases B.all b u q with ⟨p, hp, rfl, _⟩ | ⟨rfl, _, n⟩
    · exact nomatch (nT p hp).symm.trans e
    · exact nomatch n.symm.trans e
theorem Begun.hok (B : Begun K a { cls := .type "list", data := .seq vs.toArray } xs cs H) (ha : h.get? a = some { cls := .type "list", data := .seq vs.toArray }) (hT : ∀ p ∈ cs, h.get? p.2 = some (PySem.W.tabObj #[])) (rv : Vals xs vs) (hl : xs.length ≤ sizeLine) : HOk P w H h := fun b u e => by
  rcases B.all b u e with ⟨p, hp, rfl, rfl⟩ | ⟨rfl, rfl, _⟩
  · exact hT p hp
  · exact ⟨ha, hl, vs, _, rv, ha⟩
theorem Begun.tabB (B : Begun K a { cls := .type "list", data := .seq vs.toArray } xs cs H) (ha : h.get? a = some { cls := .type "list", data := .seq vs.toArray }) (hT : ∀ p ∈ cs, h.get? p.2 = some (PySem.W.tabObj #[])) (C : ∀ p ∈ cs, PySem.W.CodeHd h p.1 p.2) (hns : h.Ns mainGlobals mg)
    (hbm : ∃ bm ob, mg "__builtins__" = some (.ref bm) ∧ bm ≠ builtinsNs ∧ h.get? bm = some ob ∧ ob.cls = .type "module" ∧ ob.dict = some builtinsNs ∧ ob.data = .plain) {p : Addr × Addr} (hp : p ∈ cs) : TabB (hidT h H) mg p.1 p.2 where
  code := by
    obtain ⟨o, us, file, tf, flags, tg, inF, text, tt, e, r1, r2, r3, r⟩ := C p hp
    refine ⟨o, us, file, tf, flags, tg, inF, text, tt, hidT_get e (B.off ha hT e ?_ ?_), r1, r2, r3, r⟩
    · rw [r2]
      nofun
    · intro z
      rw [r2] at z
      cases z
      simp at r3
  bm := by
    obtain ⟨bm, ob, b1, b2, b3, b4, b5, b6⟩ := hbm
    refine ⟨bm, ob, b1, b2, fun z => ?_, fun z => ?_, hidT_get b3 (B.off ha hT b3 ?_ ?_), b4, b5, b6⟩
    · obtain ⟨o, es, ep, e, d, _⟩ := hns
      rw [z, e] at b3
      cases b3
      rw [d] at b6
      cases b6
    · rw [z, hT p hp] at b3
      cases b3
      cases b6
    · rw [b6]
      nofun
    · rw [b6]
      nofun
  gP := fun z => by
    obtain ⟨o, es, ep, e, d, _⟩ := hns
    rw [z, hT p hp] at e
    cases e
    cases d
/-- at the end all stands as it was, but for what the tables were told -/
theorem Begun.over {H' : Hp} {h' : Heap} (B : Begun K a { cls := .type "list", data := .seq vs.toArray } xs cs H) (ha : h.get? a = some { cls := .type "list", data := .seq vs.toArray }) (hT : ∀ p ∈ cs, h.get? p.2 = some (PySem.W.tabObj #[])) (C : ∀ p ∈ cs, PySem.W.CodeHd h p.1 p.2)
    (un : Un [] [] H H' h h') (ok : HOk P w H' h') : OldK h h' := by
  have one : ∀ b ob, h.get? b = some ob → asItWas h h' b ob ∧ ∃ o', h'.get? b = some o' := fun b ob e => by
    cases q : H b with
    | none =>
      have z := un.keep b ob e q (by simp) (by simp)
      exact ⟨.inl z, _, z⟩
    | some u =>
      rcases B.all b u q with ⟨p, hp, rfl, rfl⟩ | ⟨rfl, rfl, _⟩
      · obtain ⟨more, z⟩ := un.tbls _ _ q
        have z : h'.get? p.2 = some { cls := .none, data := .fields (#[] ++ more) } := ok _ _ z
        rw [hT p hp] at e
        cases e
        exact ⟨.inr (.inl ⟨((C p hp).tab (hT p hp)).isCodeTable, rfl, #[], more, rfl, z⟩), _, z⟩
      · obtain ⟨z, _⟩ := ok _ _ (un.frzs _ _ _ q)
        rw [ha] at e
        cases e
        exact ⟨.inl z, _, z⟩
  exact ⟨fun b ob e => (one b ob e).1, fun b ob e => (one b ob e).2⟩
end
/-- the law, called -/
theorem law_endT {P : Program} {w : World} {K : PySem.W.Frag} {mg mb : Str → Option Value} {CX : CXT} {k : Nat} {fa a : Addr} {fd : FuncData} {x : Str} {sp : Sp} {s₁ : Shared} {vs : List Value} {ns : List Int} {cs : List (Addr × Addr)}
    (KX : K.In s₁.heap) (hns : s₁.heap.Ns mainGlobals mg) (hb : s₁.heap.Ns builtinsNs mb) (hbb : ∀ x : Str, x ≠ "__name__" → mb x = bootBuiltins x) (hlim : s₁.heap.NoLimit) (hg : s₁.gens = #[])
    (hbm : ∃ bm ob, mg "__builtins__" = some (.ref bm) ∧ bm ≠ builtinsNs ∧ s₁.heap.get? bm = some ob ∧ ob.cls = .type "module" ∧ ob.dict = some builtinsNs ∧ ob.data = .plain)
    (hT : ∀ p ∈ cs, s₁.heap.get? p.2 = some (PySem.W.tabObj #[])) (nT : ∀ p ∈ cs, K.lookup p.2 = none) (C : ∀ p ∈ cs, PySem.W.CodeHd s₁.heap p.1 p.2)
    (ha : s₁.heap.get? a = some { cls := .type "list", data := .seq vs.toArray }) (hi : IntsAre vs ns) (hl : ns.length ≤ sizeLine) (hr : Room k callerA) (hsm : ∃ mm, s₁.heap.Ns sysModules mm)
    (F : ∀ base : Heap, K.In base → base.Ns mainGlobals mg → (∃ mm, base.Ns sysModules mm) → (∀ p ∈ cs, TabB base mg p.1 p.2) → FnG P w K mg base CX k fa fd [x] sp)
    (hbind : ∀ (s : Shared) (u : Value), BindsTo s fd ⟨[u], []⟩ [(x, u)])
    (hsp : ∀ H : Hp, (∀ p ∈ cs, H p.2 = some (.tbl #[])) → Scr K H a (ns.map V.int) → sp [.ref a] H (fun v _ => v = .bl true) fun _ _ _ => False)
    (hCX : ∀ H e s', CX [] H s₁ (fun _ _ _ => False) e s' → False) :
    codeAny (model P w) callerA (.call (.ref fa) ⟨[.ref a], []⟩) (fun r s' => r = .ok (.ret (.bool true)) ∧ OldK s₁.heap s'.heap ∧ s'.os = s₁.os ∧ AllBare s'.gens) s₁ := by
  have rv := vals_ints hi
  have hl' : (ns.map V.int).length ≤ sizeLine := by rw [List.length_map]; exact hl
  obtain ⟨H, B⟩ := begun KX ha hT rv hl'
  have kin := B.kin KX nT
  have seen : ∀ {b m}, s₁.heap.Ns b m → (hidT s₁.heap H).Ns b m := B.ns ha hT
  obtain ⟨mc, m1, m2⟩ := hlim
  obtain ⟨mm, hmm⟩ := hsm
  have e0 : Env0 P w K mg (hidT s₁.heap H) callerA [] s₁ H :=
    { frames := rfl, mod := ⟨kin, seen hns, ⟨mb, seen hb, hbb⟩, ⟨mc, seen m1, m2⟩⟩, bs := fun _ _ => of_hidT, bsz := Nat.le_of_eq (hidT_size _ _), funs := trivial, frf := nofun, hok := B.hok ha hT rv hl', bare := .of_eq hg }
  refine codeAny_mono ((F _ kin (seen hns) ⟨mm, seen hmm⟩ fun p hp => B.tabB ha hT C hns hbm hp).go callerA [] s₁ H ⟨[.ref a], []⟩ [.ref a] [.ref a] _ _ hr rfl e0 (hbind s₁ (.ref a)) (.cons rfl .nil) (hsp H B.tab B.seq)) fun r s' out => ?_
  match r, out with
  | .error e, out => exact (hCX H e s' out).elim
  | .ok (.ret u), ⟨v, H', os, bare, un, ok, rel, q⟩ =>
    have q : v = .bl true := q
    subst q
    cases (show u = Value.bool true from rel)
    exact ⟨rfl, B.over ha hT C un ok, os, bare⟩
/-- the code objects and tables of these defs -/
def TabF (h : Heap) (mg : Str → Option Value) (x : Str) (p : Addr × Addr) : Prop := ∃ (f : Addr) (o : Obj) (fd : FuncData), mg x = some (.ref f) ∧ h.get? f = some o ∧ o.data = .func fd ∧ fd.code = .ref p.1
theorem walkT (xs : List Str) {l : PySem.W.OpenLaw} {n k : Nat} {q : Program} {loose : List Str} {XP : (Str → Option Value) → Heap → Prop} {YP : World → Heap → Prop} {d : DefRec} {K : Params → PySem.W.Frag} {CX : CXT} {sp : PySem.W.Frag → List Addr → Sp} {x : Str}
    (hq : importsNone q = true) (hxs : (xs.all fun y => (recsOf q).any fun e => e.name == y) = true) (hK : ∀ w : World, PySem.W.noTabs (K w.params) = true) (hn : l.most = some n) (hn2 : n ≤ sizeLine) (hdf : d.params.defaults = []) (hr : Room k callerA) (hY : ∀ (w : World) (h : Heap), YP w h → (K w.params).In h)
    (F : ∀ (w : World) (mg : Str → Option Value) (fa : Addr) (h : Heap), (K w.params).In h → h.Ns mainGlobals mg → mg d.name = some (.ref fa) → ∀ cs : List (Addr × Addr), Paired (TabF h mg) xs cs →
      ∃ fd : FuncData, (∀ (s : Shared) (u : Value), BindsTo s fd ⟨[u], []⟩ [(x, u)]) ∧ ∀ base : Heap, (K w.params).In base → base.Ns mainGlobals mg → (∃ mm, base.Ns sysModules mm) → (∀ p ∈ cs, TabB base mg p.1 p.2) → FnG l.prog w (K w.params) mg base CX k fa fd [x] (sp (K w.params) (cs.map (·.2))))
    (hsp : ∀ (K : PySem.W.Frag) (H : Hp) (a : Addr) (ns : List Int) (ps : List Addr), ns.length ≤ n → (∀ P ∈ ps, H P = some (.tbl #[])) → Scr K H a (ns.map V.int) → sp K ps [.ref a] H (fun v _ => v = .bl true) fun _ _ _ => False)
    (hCX : ∀ (H : Hp) (s : Shared) (e : Value) (s' : Shared), CX [] H s (fun _ _ _ => False) e s' → False) : PySem.W.WalkO q loose XP YP l.row.toRowW d [] (fun f vs => PySem.call f vs) := by
  refine Att.attach_call hn hdf fun w s₀ s₁ mg mb fa o pm cd doc a vs ns G Y ho hd hcd hmg hobj hints hlen hg => ?_
  have KX := hY w _ Y
  obtain ⟨mm, hmm, _⟩ := (G.T.seer hq).mods
  obtain ⟨cs, hcs, tabs⟩ : ∃ cs, Paired (TabF s₁.heap mg) xs cs ∧ ∀ p ∈ cs, PySem.W.CodeHd s₁.heap p.1 p.2 ∧ s₁.heap.get? p.2 = some (PySem.W.tabObj #[]) := by
    have all := List.all_eq_true.mp hxs
    clear hxs F
    induction xs with
    | nil => exact ⟨[], .nil, nofun⟩
    | cons y ys ih =>
      obtain ⟨cs, c1, c2⟩ := ih fun z hz => all z (List.mem_cons_of_mem _ hz)
      obtain ⟨e, he, hy⟩ := List.any_eq_true.mp (all y (List.mem_cons_self ..))
      obtain ⟨f, ob, fd, c, P, h1, h2, h3, h4, h5, h6⟩ := G.T.tab e he
      rw [beq_iff_eq.mp hy] at h1
      refine ⟨(c, P) :: cs, .cons ⟨f, ob, fd, h1, h2, h3, h4⟩ c1, fun p hp => ?_⟩
      rcases List.mem_cons.mp hp with rfl | hp
      · exact ⟨.of h5 h6, h6.2⟩
      · exact c2 p hp
  have nT : ∀ p ∈ cs, (K w.params).lookup p.2 = none := fun p hp => by
    cases e : (K w.params).lookup p.2 with
    | none => rfl
    | some ob =>
      have z := KX _ _ e
      rw [(tabs p hp).2] at z
      cases z
      have y := List.all_eq_true.mp (hK w) _ (PySem.W.mem_of_lookupK e)
      exact absurd (show false = true from y) Bool.false_ne_true
  obtain ⟨fd, hb, hF⟩ := F w mg fa _ KX G.T.g hmg cs hcs
  refine law_endT KX G.T.g G.T.b G.T.builtins G.T.nolimit hg G.T.bmain (fun p hp => (tabs p hp).2) nT (fun p hp => (tabs p hp).1) hobj hints (Nat.le_trans hlen hn2) hr ⟨mm, hmm⟩ hF hb (fun H hH hS => hsp _ H a ns _ hlen (fun P hP => ?_) hS) fun H e s' => hCX H s₁ e s'
  obtain ⟨p, hp, rfl⟩ := List.mem_map.mp hP
  exact hH p hp
end Ev

/-! ## Methods that may raise; lambdas; what a table's growth leaves -/
namespace Ev
open PySem PySem.Spec PyProof.Rows L2
open LamX (CodeO TabS Tabs ExtN TabB LamS lamCx lamEnv GivesTo tLam)
/-! ### promises for any stack -/
/-- a def that keeps a promise whatever stands around it, ready to be called (CX: what it lets out) -/
structure CalN (CX : CXT) (P : Program) (w : World) (K : PySem.W.Frag) (mg : Str → Option Value) (base : Heap) (k : Nat) (x : Str) (ps : List Str) (sp : Sp) : Prop where
  ex : ∃ (f : Addr) (fd : FuncData), FnOk P w K mg base CX k f fd ps sp ∧ Binds K fd ps [] ∧ mg x = some (.ref f) ∧ PySem.W.keepIn K (.ref f) = true
/-- a method that keeps a promise or raises -/
structure MCalX (P : Program) (w : World) (K : PySem.W.Frag) (mg : Str → Option Value) (base : Heap) (k : Nat) (C : Addr) (m : Str) (ps : List Str) (sp : Sp) : Prop where
  ex : ∃ (f : Addr) (fd : FuncData), FnOk P w K mg base (L2.CX P w) k f fd ps sp ∧ Binds K fd ps [] ∧ Meth K C m f
/-- a class whose __init__ keeps a promise or raises -/
structure KCalX (P : Program) (w : World) (K : PySem.W.Frag) (mg : Str → Option Value) (base : Heap) (k : Nat) (C : Addr) (x : Str) (ps : List Str) (sp : Sp) : Prop where
  ex : ∃ (f : Addr) (fd : FuncData), FnOk P w K mg base (L2.CX P w) k f fd ps sp ∧ Binds K fd ps [] ∧ Mk K C f ∧ mg x = some (.ref C)
section
variable {P : Program} {w : World} {K : PySem.W.Frag} {mg : Str → Option Value} {base : Heap} {x q : Str} {st : Stmt} {ps N : List Str} {sp : Sp} {k j : Nat} {C : Addr}
theorem CalN.cal (c : CalN CX0 P w K mg base k x ps sp) : Cal P w K mg base k x ps sp := by
  obtain ⟨f, fd, F, b, m, v⟩ := c.ex
  exact ⟨f, fd, .of F, b, m, v⟩
theorem fun_okX {f : Addr} {fd : FuncData} (F : Fun K x q st f fd) (S : FnScope N ps (defScope st)) (len : ∀ vs H Q E, sp vs H Q E → vs.length = ps.length)
    (walk : ∀ (cdv : Value) (A : Around) (outer : List Env) (s : Shared) (H : Hp) (vs : List V) (Q : VK) (E : XK), Room k (A.deeper (envOfC q (defScope st) s.heap.objs.size f cdv)) → sp vs H Q E →
      ∃ t, PSs (cxOf (L2.CX P w) P w K mg base N q (defScope st) f cdv A outer s H E) (defBody st) t ∧ t { nx := fun _ H' => Q .non H', rt := Q } (start N vs) H) : FnOk P w K mg base (L2.CX P w) (k + 1) f fd ps sp := by
  obtain ⟨oc, od, kV, doc, pm, an, cdv, ct, osl, e, lk, hcd⟩ := F.ex
  cases e
  exact fn_of lk hcd S len fun A outer s H vs Q E hr h => walk cdv A outer s H vs Q E hr h
theorem Def.okN (D : Def K mg x st ps) (S : FnScope N ps (defScope st)) (len : ∀ vs H Q E, sp vs H Q E → vs.length = ps.length)
    (walk : ∀ (f : Addr) (cdv : Value) (A : Around) (outer : List Env) (s : Shared) (H : Hp) (vs : List V) (Q : VK) (E : XK), Room k (A.deeper (envOfC x (defScope st) s.heap.objs.size f cdv)) → sp vs H Q E →
      ∃ t, PSs (cxOf (L2.CX P w) P w K mg base N x (defScope st) f cdv A outer s H E) (defBody st) t ∧ t { nx := fun _ H' => Q .non H', rt := Q } (start N vs) H) : CalN (L2.CX P w) P w K mg base (k + 1) x ps sp := by
  obtain ⟨f, fd, F, b, m⟩ := D.ex
  exact ⟨f, fd, fun_okX F S len (walk f), b, m, F.kp⟩
theorem MDef.okX (D : MDef K C x q st ps) (S : FnScope N ps (defScope st)) (len : ∀ vs H Q E, sp vs H Q E → vs.length = ps.length)
    (walk : ∀ (f : Addr) (cdv : Value) (A : Around) (outer : List Env) (s : Shared) (H : Hp) (vs : List V) (Q : VK) (E : XK), Room k (A.deeper (envOfC q (defScope st) s.heap.objs.size f cdv)) → sp vs H Q E →
      ∃ t, PSs (cxOf (L2.CX P w) P w K mg base N q (defScope st) f cdv A outer s H E) (defBody st) t ∧ t { nx := fun _ H' => Q .non H', rt := Q } (start N vs) H) : MCalX P w K mg base (k + 1) C x ps sp := by
  obtain ⟨f, fd, F, b, m⟩ := D.ex
  exact ⟨f, fd, fun_okX F S len (walk f), b, m⟩
end
section
variable {X : Cx} {k : Nat} {C : Addr} {ps : List Str} {sp : Sp} {m x : Str} {p pos apos : Pos} {e o : Expr} {es : List Expr} {ta : TE} {t : TA} {W : WX} {E : XK}
/-- f(e, ..) -/
theorem pcallN (c : CalN (L2.CX X.prog X.w) X.prog X.w X.K X.mg X.base k x ps sp) (hr : Room k X.A) (hg : Gl X x) (tk : Takes X W) (hW : ∀ cls d σ H, E cls d H → W cls d σ H) (ha : PA X (e :: es) t)
    (hdb : (x == ("__debug__" : Str)) = false := by decide) (he : starEach (e :: es) X.env = (false, eval e X.env) :: starEach es X.env := by rfl) (hpl : (backTo pos (starEach es X.env)).any (·.1) = false := by rfl) : PE X (.Call (.Name x p) (e :: es) [] pos) (tCall sp [] E t) := by
  obtain ⟨f, fd, F, b, hm, v⟩ := c.ex
  exact pe_call F hr hg hm v b .nil (passes_call tk hW) ha hdb he hpl
theorem pcallO (c : CalN CX0 X.prog X.w X.K X.mg X.base k x ps sp) (hr : Room k X.A) (hg : Gl X x) (ha : PA X (e :: es) t)
    (hdb : (x == ("__debug__" : Str)) = false := by decide) (he : starEach (e :: es) X.env = (false, eval e X.env) :: starEach es X.env := by rfl) (hpl : (backTo pos (starEach es X.env)).any (·.1) = false := by rfl) : PE X (.Call (.Name x p) (e :: es) [] pos) (tCall sp [] E0 t) := by
  obtain ⟨f, fd, F, b, hm, v⟩ := c.ex
  exact pe_call F hr hg hm v b .nil pass0 ha hdb he hpl
theorem pmethX {pl : Sem Bool} (M : MCalX X.prog X.w X.K X.mg X.base k C m ps sp) (c : Cls X.K C) (hr : Room k X.A) (tk : Takes X W) (hW : ∀ cls d σ H, E cls d H → W cls d σ H) (ho : PE X o ta) (ha : PA X (e :: es) t)
    (h1 : starEach (e :: es) X.env = (false, eval e X.env) :: starEach es X.env := by rfl) (h2 : (backTo pos (starEach es X.env)).any (·.1) = false := by rfl)
    (h3 : eval (.Call (.Attribute o m apos) (e :: es) [] pos) X.env = (do
      let v ← eval o X.env
      standAt apos.atName
      let (f, first) ← holding [v] (getMethod v m pl)
      callWith pos f first (backTo pos (starEach (e :: es) X.env)) (backToKw pos (keywordEach [] X.env))) := by rfl) : PE X (.Call (.Attribute o m apos) (e :: es) [] pos) (tMeth C m sp [] E ta t) := by
  obtain ⟨f, fd, F, hb, hm⟩ := M.ex
  exact pe_meth (pl := pl) ho c hm F hr hb .nil (passes_call tk hW) ha h1 h2 h3
theorem pmethX0 {pl : Sem Bool} (M : MCalX X.prog X.w X.K X.mg X.base k C m ps sp) (c : Cls X.K C) (hr : Room k X.A) (tk : Takes X W) (hW : ∀ cls d σ H, E cls d H → W cls d σ H) (ho : PE X o ta)
    (h3 : eval (.Call (.Attribute o m apos) [] [] pos) X.env = (do
      let v ← eval o X.env
      standAt apos.atName
      let (f, first) ← holding [v] (getMethod v m pl)
      callWith pos f first (backTo pos (starEach [] X.env)) (backToKw pos (keywordEach [] X.env))) := by rfl) : PE X (.Call (.Attribute o m apos) [] [] pos) (tMeth C m sp [] E ta tNil) := by
  obtain ⟨f, fd, F, hb, hm⟩ := M.ex
  exact pe_meth0 (pl := pl) ho c hm F hr hb .nil (passes_call tk hW) h3
theorem pmakeX (M : KCalX X.prog X.w X.K X.mg X.base k C x ps sp) (hr : Room (k + 1) X.A) (hg : Gl X x) (tk : Takes X W) (hW : ∀ cls d σ H, E cls d H → W cls d σ H) (ha : PA X (e :: es) t)
    (h0 : (x == ("__debug__" : Str)) = false := by decide) (h1 : starEach (e :: es) X.env = (false, eval e X.env) :: starEach es X.env := by rfl) (h2 : (backTo pos (starEach es X.env)).any (·.1) = false := by rfl) : PE X (.Call (.Name x p) (e :: es) [] pos) (tMake C sp [] E t) := by
  obtain ⟨f, fd, F, hb, mk, hm⟩ := M.ex
  exact pe_make mk F hr hg hm hb .nil (passes_call tk hW) ha h0 h1 h2
end
/-- what is taken need be taken from as many slots as there are alone -/
theorem takes_len {X : Cx} {W W' : WX} (t : Takes X W) (h : ∀ c d σ H, σ.length = X.N.length → W' c d σ H → W c d σ H) : Takes X W' := fun u s' ⟨a, B, sI, pins, σ, H, cls, d, e, I, r1, r2, r3, r4, r5, r6, w⟩ =>
  t u s' ⟨a, B, sI, pins, σ, H, cls, d, e, I, r1, r2, r3, r4, r5, r6, h _ _ _ _ I.len w⟩
/-! ### list.count of plain values -/
def rCntF (K : PySem.W.Frag) : V → List V → Hp → VK → Prop := fun x xs H Q => ∃ (p : Addr) (ys : List V) (y : V), x = .ref p ∧ xs = [y] ∧ SqL K H p ys ∧ flatV y = true ∧ ys.all flatV = true ∧ Q (.int (ys.countP fun z => eqV z y : Nat)) H
theorem countP_rel {y : V} : ∀ {us : List Value} {ys : List V}, Vals ys us → ys.all flatV = true → us.countP (eqU y) = ys.countP fun z => eqV z y
  | _, _, .nil, _ => rfl
  | _, _, .cons r t, f => by
    rw [List.all_cons, Bool.and_eq_true] at f
    rw [List.countP_cons, List.countP_cons, countP_rel t f.2, eqU_of r f.1]
theorem mt_lcountF {X : Cx} : MtR X "list.count" (rCntF X.K) := by
  intro pins s σ H x xs v us Q I rx rxs h
  obtain ⟨p, ys, y, rfl, rfl, hs, fy, fys, q⟩ := h
  cases rx
  obtain ⟨u, rfl, ru⟩ := rxs.one
  obtain ⟨its, rv, ⟨⟨cls, dd, data, sl⟩, n, ho, hc, hdn, hd⟩, hlen⟩ := I.list hs
  cases (show cls = _ from hc)
  cases (show data = _ from hd)
  refine call_meets PySem.F.slot_list_count ⟨_, ho, rfl⟩ PySem.F.entry_list_count (PySem.F.args_list_count_2 _ _)
    (SeqAt.list_countAt p its.toArray n dd sl u (eqU y)) ⟨ho, fun z hz => mem_eqAt ru fy rv fys z (by simpa using hz), ?_⟩
  refine ⟨.int (ys.countP fun z => eqV z y : Nat), H, I.tok _, ⟨s.toks, ?_⟩, q⟩
  show Value.int ((its.toArray.toList.countP (eqU y) : Nat) : Int) s.toks = _
  rw [show its.toArray.toList = its from rfl, countP_rel rv fys]
/-! ### a lambda handed to a def of the module -/
def tLam1 (Pt : Addr) (q : Str) (TT : (XK → Hp → VK → Prop) → Hp → VK → Prop) (t : XK → TE) : TE := fun σ H Q => TabS H Pt q ∧ ∀ H1, ExtN H H1 → TabS H1 Pt q → TT (fun E H' Q' => t E σ H' Q') H1 Q
/-- x(lambda: body), x a def of one parameter -/
theorem pe_lamD {X : Cx} {TT : (XK → Hp → VK → Prop) → Hp → VK → Prop} {x a q : Str} {st : Stmt} {c Pt : Addr} {k : Nat} {Ng : List Str} {params : Arguments} {body : Expr} {scope : Scope} {t : XK → TE} {p lpos pos : Pos} (D : Def X.K X.mg x st [a]) (hg : Gl X x) (Sg : FnScope Ng [a] (defScope st)) (hNg : Ng[0]? = some a) (hva : Vis (defScope st) a)
    (hG : ∀ g cdg, GivesTo X Ng x (defScope st) g cdg (defBody st) a q TT) (TB : TabB X.base X.mg c Pt) (hcode : X.env.code = .ref c) (hr : Room (k + 2) X.A) (L : LamS X.env.scope scope) (hq : X.env.qual ++ "<lambda>" = q) (hdef : defaultsOf params X.env = ([], []))
    (hbind : ∀ (q : Str) (cl : List (Str × Addr)) (pm cv ctv : Value), bindArgs (PySem.W.kla_fn "<lambda>" q params body scope cl pm cv ctv) ⟨[], []⟩ = pure [])
    (hbody : ∀ (A : Around) (outer : List Env) (s : Shared) (H : Hp) (E : XK) (f c' : Addr), Room k (A.deeper (lamEnv X scope s.heap.objs.size f c')) → PE (lamCx X A outer s H E scope f c') body (t E))
    (hdb : (x == ("__debug__" : Str)) = false := by decide) (hd : (a == ("__debug__" : Str)) = false := by decide) (hcd : (a == ("__classdict__" : Str)) = false := by decide) : PE X (.Call (.Name x p) [.Lambda params body scope lpos] [] pos) (tLam1 Pt q TT t) := by
  obtain ⟨g, fd, F, b, m⟩ := D.ex
  obtain ⟨oc, od, kV, doc, pm, an, cdv, ct, osl, e, lk, hcdv⟩ := id F.ex
  cases e
  subst hq
  have z : PE X (.Call (.Name x p) [.Lambda params body scope lpos] [] pos) (tLam [(Pt, X.env.qual ++ "<lambda>")] TT t) :=
    LamX.pe_lamcall hg m F.kp lk hcdv b Sg hNg hva (hG g cdv) TB hcode (List.mem_singleton.mpr rfl) (fun r hr _ => by rw [List.mem_singleton.mp hr]) hr L hdef hbind hbody hdb hd hcd
  refine ⟨fun pins s σ H Q I h => z.run pins s σ H Q I ⟨fun r hr => ?_, fun H1 e1 t1 => h.2 H1 e1 (t1 _ (List.mem_singleton.mpr rfl))⟩⟩
  rw [List.mem_singleton.mp hr]
  exact h.1
end Ev

/-! ## k44: what the law counts -/
namespace Ev
open PySem PySem.Spec PyProof.Rows L2
def spDue44 (K : PySem.W.Frag) : Sp := fun vs H Q _ => ∃ (x : V) (S : List Cls2), vs = [x] ∧ Da K H x (.tuple (S.map cD)) ∧ Cl2 S ∧ (∀ e ∈ S, e.1 < 2 ^ 60) ∧ S.length ≤ 40 ∧ lcmP S ≤ 100000 ∧ ∀ H', Same H H' → Q (.bl (dueB S)) H'
theorem scDue44 : FnScope ["_law_some", "_law_whole", "_law_period", "_law_start", "_law_tick"] ["_law_some"] (defScope (topS 16)) := ⟨rfl, rfl, rfl, by decide +kernel, rfl, by decide +kernel, by decide +kernel⟩
section
variable {P : Program} {w : World} {K : PySem.W.Frag} {mg : Str → Option Value} {base : Heap}
theorem ok_due44 (D : Def K mg "_law_due" (topS 16) ["_law_some"]) (C__law_gcd : Cal P w K mg base 1 "_law_gcd" ["_law_one", "_law_other"] spLG) (nb : NB mg) : Cal P w K mg base 2 "_law_due" ["_law_some"] (spDue44 K) := by
  refine D.ok scDue44 (fun vs H Q E h => ?_) (fun fa cdv A outer sh H vs Q E hr gd h => ?_)
  · obtain ⟨x, S, rfl, _⟩ := h
    rfl
  · obtain ⟨x, S, rfl, hx, hC, h60, h40, hL, q⟩ := h
    refine ⟨_, (pss_cons (ps_set (i := 1) scDue44.nd rfl (.inl rfl) pe_int)
      (pss_cons (ps_for PassesOwn.never rfl (pi_tup (pv 0)) (pg_tup rfl (pgs_cons (pg_name (i := 2) scDue44.nd rfl (Or.inl rfl)) (pgs_cons (pg_name (i := 3) scDue44.nd rfl (Or.inl rfl)) pgs_nil)))
        (pss_one (ps_set (i := 1) scDue44.nd rfl (.inl rfl) (pe_op op_mulW (pe_op op_fdivW (pv 1) (pcall C__law_gcd (hr.mono (by omega)) gd (by rfl) (pa_cons (pv 1) (pa_cons (pv 2) pa_nil)))) (pv 2)))))
      (pss_cons (ps_for PassesOwn.never rfl (pi_range1 rfl nb.at (pa_cons (pv 1) pa_nil)) (pg_name (i := 4) scDue44.nd rfl (.inr rfl))
        (pss_one (ps_if (pt_cmpR op_ne (pe_bm PySem.F.plainAttrs_list PySem.F.slot_list_count PySem.F.type_list_count mt_lcountF (pe_lc (own := [("_law_period", 2), ("_law_start", 3)]) (g := (gTup K 2 (gCons (gName 2) (gCons (gName 3) gNil)))) (tt := tYes) (te := (tOp rEq (tOp (rI (fun _ j => 0 < j) fun i j => .int (i % j)) (tVar 4) (tVar 2)) (tVar 3))) rfl scDue44.nd (pi_tup (pv 0)) (blkOk_by (N := ["_law_some", "_law_whole", "_law_period", "_law_start", "_law_tick"]) (sc := defScope (topS 16)) (by decide +kernel)) (fun _ _ _ _ _ => (pg_tup rfl (pgs_cons (pg_name (i := 2) scDue44.nd rfl (Or.inl rfl)) (pgs_cons (pg_name (i := 3) scDue44.nd rfl (Or.inl rfl)) pgs_nil)))) (fun _ _ _ _ _ => pts_nil) (fun _ _ _ _ _ => (pe_cmpR op_eq (pe_op op_mod (pv 4) (pv 2)) (pv 3) (nomark _)))) (pa_cons pe_bl pa_nil)) pe_int (nomark _))
          (pss_one (ps_ret pe_bl))
          pss_nil)))
      (pss_one (ps_ret pe_bl))))), ?_⟩
    have sl := sizeLine_eq
    obtain ⟨a, xs, rfl, ht, hall⟩ : ∃ a xs, x = .ref a ∧ SqT K H a xs ∧ DaAll K H xs (S.map cD) := by
      cases hx with
      | @tup a xs _ ht hall => exact ⟨a, xs, rfl, ht, hall⟩
    have hxl := daAll_len hall
    rw [List.length_map] at hxl
    have el : ∀ {H' : Hp} {i : Nat} {v : V}, Same H H' → xs[i]? = some v → ∃ (h : i < S.length), Da K H' v (cD S[i]) := fun {H' i v} s hv => by
      obtain ⟨d, hd, hvd⟩ := daAll_at (hall.mono s) hv
      have hi : i < S.length := by
        have := (List.getElem?_eq_some_iff.mp hv).1
        omega
      rw [List.getElem?_map, List.getElem?_eq_getElem hi] at hd
      cases hd
      exact ⟨hi, hvd⟩
    have hpr : ∀ k, k ≤ S.length → (S.take k).foldl (fun w e => w / Nat.gcd w e.1 * e.1) 1 < 2 ^ (60 * k + 1) := fun k => by
      induction k with
      | zero => intro _; rw [List.take_zero]; decide
      | succ k ih =>
        intro hk
        have hk' : k < S.length := hk
        rw [List.take_succ_eq_append_getElem hk', List.foldl_append, List.foldl_cons, List.foldl_nil, show 60 * (k + 1) + 1 = (60 * k + 1) + 60 by omega, Nat.pow_add]
        exact Nat.mul_lt_mul'' (Nat.lt_of_le_of_lt (Nat.div_le_self _ _) (ih (by omega))) (h60 _ (List.getElem_mem hk'))
    refine ⟨_, rfl, a, rfl, ⟨xs, ht⟩, ?_⟩
    refine for_tup (K := K) (a := a) (xs := xs) (fun k σ' H' => ∃ y2 y3 y4 : Option V, σ' = [some (.ref a), some (.int (((S.take k).foldl (fun w e => w / Nat.gcd w e.1 * e.1) 1 : Nat) : Int)), y2, y3, y4] ∧ H' = H) ⟨_, _, _, rfl, rfl⟩ (fun k σ' H' _ ⟨_, _, _, _, e⟩ => by rw [e]; exact ht) ?_ ?_
    · rintro k v σ' H2 hk ⟨y2, y3, y4, rfl, rfl⟩
      obtain ⟨hkS, hv⟩ := el Same.rfl' hk
      obtain ⟨b, rfl, hb⟩ := da_cD hv
      refine ⟨b, _, rfl, hb, rfl, _, _, rfl, _, _, rfl, rfl, ?_⟩
      have lt := hpr k (Nat.le_of_lt hkS)
      have h2 := h60 _ (List.getElem_mem hkS)
      have h0 := hC.pos _ (List.getElem_mem hkS)
      have hg : (0 : Int) < ((Nat.gcd ((S.take k).foldl (fun w e => w / Nat.gcd w e.1 * e.1) 1) S[k].1 : Nat) : Int) := by
        have := Nat.gcd_pos_of_pos_right ((S.take k).foldl (fun w e => w / Nat.gcd w e.1 * e.1) 1) h0
        omega
      have hgl : Nat.gcd ((S.take k).foldl (fun w e => w / Nat.gcd w e.1 * e.1) 1) S[k].1 < 2 ^ 60 := Nat.lt_of_le_of_lt (Nat.gcd_le_right _ h0) h2
      refine ⟨_, rfl, _, rfl, _, rfl, _, S[k].1, rfl, _, _, rfl, rfl, wide_div (b := 60) hg (by rw [Int.natAbs_natCast]; exact hgl) (by decide) (by decide), _, rfl, _, _, rfl, rfl, wide_mul (a := 2401) (b := 60) ?_ (by rw [Int.natAbs_natCast]; exact h2) (by decide) (by decide) (by decide), some (.int (S[k].1 : Nat)), some (.int (S[k].2 : Nat)), y4, ?_, rfl⟩
      · rw [← Int.natCast_ediv, Int.natAbs_natCast]
        exact Nat.lt_of_le_of_lt (Nat.div_le_self _ _) (Nat.lt_of_lt_of_le lt (Nat.pow_le_pow_right (by decide) (by omega)))
      · rw [List.take_succ_eq_append_getElem hkS, List.foldl_append, List.foldl_cons, List.foldl_nil, Int.natCast_mul, Int.natCast_ediv]
        rfl
    · rintro σ' H2 ⟨y2, y3, y4, rfl, rfl⟩
      rw [hxl, List.take_length]
      have eL : S.foldl (fun w e => w / Nat.gcd w e.1 * e.1) 1 = lcmP S := rfl
      rw [eL]
      refine ⟨_, rfl, ((lcmP S : Nat) : Int), rfl, by omega, by omega, ?_⟩
      rw [Int.toNat_natCast]
      refine for_range (lo := 0) (n := lcmP S) (fun t σ' H' => ∃ y2 y3 y4 : Option V, σ' = [some (.ref a), some (.int ((lcmP S : Nat) : Int)), y2, y3, y4] ∧ Same H2 H' ∧ ∀ k, k < t → hits S k = 1) ⟨_, _, _, rfl, Same.rfl', fun k hk => absurd hk (Nat.not_lt_zero k)⟩ ?_ ?_
      · rintro t σ' H3 hti ⟨y2, y3, y4, rfl, s3, hh⟩
        dsimp only [gName]
        refine ⟨_, rfl, a, rfl, ⟨xs, seqT_mono s3 ht⟩, fun D nD => ?_⟩
        refine lc_tup (K := K) (a := a) (xs := xs) (fun k H' => Same H3 H' ∧ H' D = some (.lst ((S.take k).map fun e => .bl (hitB t e)))) ⟨same_put nD, by rw [List.take_zero]; exact upd_same⟩ (fun k H' _ ⟨s', _⟩ => seqT_mono (s3.trans s') ht) ?_ ?_
        · rintro k v H4 hk ⟨s4, eD⟩
          obtain ⟨hkS, hv⟩ := el (s3.trans s4) hk
          obtain ⟨b, rfl, hb⟩ := da_cD hv
          have h0 := hC.pos _ (List.getElem_mem hkS)
          refine ⟨b, _, rfl, hb, rfl, _, _, rfl, _, _, rfl, rfl, rfl, ?_⟩
          refine ⟨_, rfl, _, rfl, _, _, rfl, rfl, (show (0 : Int) < ((S[k].1 : Nat) : Int) by omega), _, rfl, rfl, _, eD, by rw [List.length_map, List.length_take]; omega, fun b' ob e => ?_, ?_⟩
          · rw [upd_ne (ne_of_none e nD)]
            exact s4 _ _ e
          · rw [upd_same, List.take_succ_eq_append_getElem hkS, List.map_append, List.map_singleton]
            have z : decide (V.int ((0 + ((t : Nat) : Int)) % ((S[k].1 : Nat) : Int)) = V.int ((S[k].2 : Nat) : Int)) = hitB t S[k] := by
              unfold hitB
              refine decide_eq_decide.mpr ⟨fun h => ?_, fun h => ?_⟩
              · have := V.int.inj h
                rw [Int.zero_add] at this
                exact Int.ofNat.inj this
              · rw [← h, Int.zero_add]
                rfl
            rw [← z]
        · rintro H4 ⟨s4, eD⟩
          rw [hxl, List.take_length] at eD
          refine ⟨.inl ⟨rfl, _, .inl (.inl eD)⟩, D, _, .bl true, rfl, rfl, .inl (.inl eD), rfl, List.all_eq_true.mpr fun v hv => ?_, rfl, _, rfl, ?_⟩
          · obtain ⟨e, _, rfl⟩ := List.mem_map.mp hv
            rfl
          · have ec : ((S.map fun e => V.bl (hitB t e)).countP fun z => eqV z (.bl true)) = hits S t := by
              unfold hits
              rw [List.countP_map, ← List.countP_eq_length_filter]
              refine List.countP_congr fun e _ => ?_
              show eqV (.bl (hitB t e)) (.bl true) = true ↔ _
              cases hitB t e <;> decide
            rw [ec]
            refine ite2 (fun e => ?_) (fun e => ?_)
            · have ne : hits S t ≠ 1 := fun z => by
                rw [z] at e
                cases e
              have qf := q H4 (s3.trans s4)
              have z : dueB S = false := by
                unfold dueB
                rw [List.all_eq_false]
                exact ⟨t, List.mem_range.mpr hti, by rw [decide_eq_true_eq]; exact ne⟩
              rw [z] at qf
              exact qf
            · have eq1 : hits S t = 1 := by
                by_cases z : hits S t = 1
                · exact z
                · refine absurd ?_ e
                  rw [decide_eq_false (show ¬ V.int ((hits S t : Nat) : Int) = V.int 1 from fun h => z (by have := V.int.inj h; omega))]
                  rfl
              refine ⟨_, _, _, rfl, s3.trans s4, fun k hk => ?_⟩
              by_cases z : k = t
              · rw [z]
                exact eq1
              · exact hh k (by omega)
      · rintro σ' H3 ⟨y2, y3, y4, rfl, s3, hh⟩
        have qt := q H3 s3
        have z : dueB S = true := by
          unfold dueB
          exact List.all_eq_true.mpr fun t ht => decide_eq_true (hh t (List.mem_range.mp ht))
        rw [z] at qt
        exact qt
end
end Ev

/-! ## Lists of pairs, and dicts of them -/
namespace Ev
open PySem PySem.Spec PyProof.Rows L2
theorem paired_of {α β : Type} {R : α → β → Prop} : ∀ {as : List α} {bs : List β}, as.length = bs.length → (∀ (j : Nat) a b, as[j]? = some a → bs[j]? = some b → R a b) → Paired R as bs
  | [], [], _, _ => .nil
  | [], _ :: _, h, _ => by simp at h
  | _ :: _, [], h, _ => by simp at h
  | a :: as, b :: bs, h, f => .cons (f 0 a b rfl rfl) (paired_of (by simpa using h) fun j x y h1 h2 => f (j + 1) x y (by simpa using h1) (by simpa using h2))
/-- [(..) for x in a list] -/
theorem lcT_list {K : PySem.W.Frag} {σ : L2.St} {H : Hp} {Q : VK} {te ti : TE} {a : Addr} {xs : List V} {g : TG} {vs : List Nat} (row : V → List V) (hi : ∀ Q : VK, Q (.ref a) H → ti σ H Q) (hx : SqL K H a xs) (hz : xs.length ≤ 1000000)
    (he : ∀ x ∈ xs, ∀ (H' : Hp) (R : VK), Same H H' → (∀ H'' t, Same H' H'' → H' t = none → H'' t = some (.tup (row x)) → R (.ref t) H'') → g x (wipe σ vs) H' fun σ2 H2 => wipe σ2 vs = wipe σ vs ∧ te σ2 H2 R)
    (q : ∀ H' D (ps : List Addr), Same H H' → H D = none → H' D = some (.lst (ps.map V.ref)) → ps.length = xs.length → (∀ (j : Nat) t x, ps[j]? = some t → xs[j]? = some x → H' t = some (.tup (row x))) → Q (.ref D) H') : tLc (iList K ti) g tYes te vs σ H Q := by
  refine hi _ ⟨a, rfl, ⟨xs, hx⟩, fun D nD => ?_⟩
  have y := sizeLine_eq
  refine lc_list (K := K) (a := a) (xs := xs) (fun k H' => Same H H' ∧ ∃ ps : List Addr, H' D = some (.lst (ps.map V.ref)) ∧ ps.length = k ∧ ∀ (j : Nat) t x, ps[j]? = some t → xs[j]? = some x → t ≠ D ∧ H' t = some (.tup (row x)))
    ⟨same_put nD, [], upd_same, rfl, fun j t x h => by simp at h⟩ (fun k H' _ ⟨s', _⟩ => s'.seq hx) ?_ ?_
  · rintro k x H' hk ⟨s', ps, eD, hl, hp⟩
    have hkl : k < xs.length := (List.getElem?_eq_some_iff.mp hk).1
    refine cast ?_ (he x (List.mem_of_getElem? hk) H' (fun y H4 => ∃ acc, H4 D = some (.lst acc) ∧ acc.length < sizeLine ∧ Same H (upd H4 D (.lst (acc ++ [y]))) ∧ ∃ ps : List Addr, upd H4 D (.lst (acc ++ [y])) D = some (.lst (ps.map V.ref)) ∧ ps.length = k + 1 ∧ ∀ (j : Nat) t x, ps[j]? = some t → xs[j]? = some x → t ≠ D ∧ upd H4 D (.lst (acc ++ [y])) t = some (.tup (row x))) s' fun H4 t s4 nt h4 => ⟨_, s4 _ _ eD, ?_, ?_, ps ++ [t], ?_, ?_, ?_⟩)
    · rfl
    · rw [List.length_map]
      omega
    · intro b o h
      rw [upd_ne (ne_of_none h nD)]
      exact s4 _ _ (s' _ _ h)
    · rw [upd_same, List.map_append]
      rfl
    · rw [List.length_append, hl]
      rfl
    · intro j u z hj hz
      have htD : t ≠ D := fun e => by
        rw [e, eD] at nt
        cases nt
      by_cases hjk : j < k
      · rw [List.getElem?_append_left (by omega)] at hj
        obtain ⟨g1, g2⟩ := hp j u z hj hz
        refine ⟨g1, ?_⟩
        rw [upd_ne g1]
        exact s4 _ _ g2
      · have hjk : j = k := by
          obtain ⟨h1, _⟩ := List.getElem?_eq_some_iff.mp hj
          rw [List.length_append, hl] at h1
          have h1 : j < k + 1 := h1
          omega
        subst hjk
        rw [List.getElem?_append_right (by omega), hl, Nat.sub_self] at hj
        obtain rfl : t = u := Option.some.inj hj
        obtain rfl : x = z := Option.some.inj (hk.symm.trans hz)
        refine ⟨htD, ?_⟩
        rw [upd_ne htD]
        exact h4
  · rintro H' ⟨s', ps, eD, hl, hp⟩
    exact q H' D ps s' nD eD hl fun j t x h1 h2 => (hp j t x h1 h2).2
theorem merge_val {v : Key → V} {k : Key} : ∀ {kvs acc : List (Key × V)}, (∀ p ∈ kvs, p.2 = v p.1) → ((∃ p ∈ kvs, p.1 = k) ∨ valV acc k = some (v k)) → valV (mergeK acc kvs) k = some (v k)
  | [], acc, _, h => by
    rcases h with ⟨p, hp, _⟩ | h
    · cases hp
    · exact h
  | p :: kvs, acc, hv, h => by
    show valV (mergeK (putK acc p.1 p.2) kvs) k = _
    refine merge_val (fun q hq => hv q (List.mem_cons_of_mem _ hq)) ?_
    by_cases e : k = p.1
    · right
      rw [valV_put, if_pos e, hv p (List.mem_cons_self ..), e]
    · rcases h with ⟨q, hq, eq⟩ | h
      · rcases List.mem_cons.mp hq with rfl | hq
        · exact absurd eq.symm e
        · exact .inl ⟨q, hq, eq⟩
      · right
        rw [valV_put, if_neg e]
        exact h
/-- a dict from numbers -/
theorem merge_nat {v : Nat → V} {ds : List Nat} {d : Nat} (h : d ∈ ds) : valV (mergeK [] (ds.map fun d => ((.inl ((d : Nat) : Int) : Key), v d))) (.inl ((d : Nat) : Int)) = some (v d) := by
  refine merge_val (v := fun k => match k with | .inl i => v i.toNat | .inr _ => .non) (k := .inl ((d : Nat) : Int)) (fun p hp => ?_) (.inl ⟨(.inl ((d : Nat) : Int), v d), List.mem_map.mpr ⟨d, h, rfl⟩, rfl⟩)
  obtain ⟨e, _, rfl⟩ := List.mem_map.mp hp
  rfl
end Ev

/-! ## is True, is False; tuples in a comprehension over a range -/
namespace Ev
open PySem PySem.Spec PyProof.Rows L2
section
variable {X : Cx} {a : Expr} {ta : TE}
def tIsB (b : Bool) (ta : TE) : TE := fun σ H Q => ta σ H fun x H1 => ∃ c, x = .bl c ∧ Q (.bl (c == b)) H1
def tNotB (b : Bool) (ta : TE) : TE := fun σ H Q => ta σ H fun x H1 => ∃ c, x = .bl c ∧ Q (.bl (c != b)) H1
theorem pc_isB {b : Bool} {j pos'} (ha : PE X a ta) : PC X .Is a (.Constant (.bool b) j pos') (tIsB b ta) := by
  refine ⟨fun pins s σ H Q I h => thn (ha.run pins s σ H _ I h) fun v s1 ⟨x, H1, I1, r1, c, ex, q1⟩ => ?_⟩
  subst ex
  cases r1
  exact Constant_bool (is_bool ⟨.bl _, H1, I1, rfl, q1⟩)
theorem pc_notB {b : Bool} {j pos'} (ha : PE X a ta) : PC X .IsNot a (.Constant (.bool b) j pos') (tNotB b ta) := by
  refine ⟨fun pins s σ H Q I h => thn (ha.run pins s σ H _ I h) fun v s1 ⟨x, H1, I1, r1, c, ex, q1⟩ => ?_⟩
  subst ex
  cases r1
  exact Constant_bool (isnot_bool ⟨.bl _, H1, I1, rfl, q1⟩)
end
abbrev rTupOf (K : PySem.W.Frag) : List V → Hp → VK → Prop := fun xs H Q => ∃ p ys, xs = [.ref p] ∧ ((SqL K H p ys ∧ ∀ l, H l = none → Q (.ref l) (upd H l (.tup ys))) ∨ (SqT K H p ys ∧ Q (.ref p) H))
/-- [(..) for k in range(n)] -/
theorem lcT_rng {σ : L2.St} {H : Hp} {Q : VK} {te : TE} {ta : TA} {n : Nat} {g : TG} {vs : List Nat} (row : Nat → List V) (hta : ∀ (Q : List V → Hp → Prop), Q [.int (n : Nat)] H → ta σ H Q) (hz : n ≤ 1000000)
    (he : ∀ k, k < n → ∀ (H' : Hp) (R : VK), Same H H' → (∀ H'' t, Same H' H'' → H' t = none → H'' t = some (.tup (row k)) → R (.ref t) H'') → g (nV k) (wipe σ vs) H' fun σ2 H2 => wipe σ2 vs = wipe σ vs ∧ te σ2 H2 R)
    (q : ∀ H' D (ps : List Addr), Same H H' → H D = none → H' D = some (.lst (ps.map V.ref)) → ps.length = n → (∀ (j : Nat) t, ps[j]? = some t → H' t = some (.tup (row j))) → Q (.ref D) H') : tLc (iRng1 ta) g tYes te vs σ H Q := by
  refine hta _ ⟨(n : Nat), rfl, by omega, by omega, fun D nD => ?_⟩
  have y := sizeLine_eq
  rw [Int.toNat_natCast]
  refine lc_range (lo := 0) (n := n) (fun k H' => Same H H' ∧ ∃ ps : List Addr, H' D = some (.lst (ps.map V.ref)) ∧ ps.length = k ∧ ∀ (j : Nat) t, ps[j]? = some t → t ≠ D ∧ H' t = some (.tup (row j)))
    ⟨same_put nD, [], upd_same, rfl, fun j t h => by simp at h⟩ ?_ ?_
  · rintro k H' hk ⟨s', ps, eD, hl, hp⟩
    have e0 : V.int (0 + (k : Nat)) = nV k := by
      show V.int (0 + (k : Nat)) = V.int (k : Nat)
      rw [Int.zero_add]
    rw [e0]
    refine cast ?_ (he k hk H' (fun y H4 => ∃ acc, H4 D = some (.lst acc) ∧ acc.length < sizeLine ∧ Same H (upd H4 D (.lst (acc ++ [y]))) ∧ ∃ ps : List Addr, upd H4 D (.lst (acc ++ [y])) D = some (.lst (ps.map V.ref)) ∧ ps.length = k + 1 ∧ ∀ (j : Nat) t, ps[j]? = some t → t ≠ D ∧ upd H4 D (.lst (acc ++ [y])) t = some (.tup (row j))) s' fun H4 t s4 nt h4 => ⟨_, s4 _ _ eD, ?_, ?_, ps ++ [t], ?_, ?_, ?_⟩)
    · rfl
    · rw [List.length_map]
      omega
    · intro b o h
      rw [upd_ne (ne_of_none h nD)]
      exact s4 _ _ (s' _ _ h)
    · rw [upd_same, List.map_append]
      rfl
    · rw [List.length_append, hl]
      rfl
    · intro j u hj
      have htD : t ≠ D := fun e => by
        rw [e, eD] at nt
        cases nt
      by_cases hjk : j < k
      · rw [List.getElem?_append_left (by omega)] at hj
        obtain ⟨g1, g2⟩ := hp j u hj
        refine ⟨g1, ?_⟩
        rw [upd_ne g1]
        exact s4 _ _ g2
      · have hjk : j = k := by
          obtain ⟨h1, _⟩ := List.getElem?_eq_some_iff.mp hj
          rw [List.length_append, hl] at h1
          have h1 : j < k + 1 := h1
          omega
        subst hjk
        rw [List.getElem?_append_right (by omega), hl, Nat.sub_self] at hj
        obtain rfl : t = u := Option.some.inj hj
        refine ⟨htD, ?_⟩
        rw [upd_ne htD]
        exact h4
  · rintro H' ⟨s', ps, eD, hl, hp⟩
    exact q H' D ps s' nD eD hl fun j t h1 => (hp j t h1).2
theorem cb_lcB {tl : TE} {r : List V → Hp → VK → Prop} {Q : VK} {σ : L2.St} {H : Hp} (h : tl σ H fun v H1 => r [v] H1 Q) : tCB r (tCons tl tNil) σ H Q := h
theorem ret_cbB {tl : TE} {r : List V → Hp → VK → Prop} {D : Ends} {σ : L2.St} {H : Hp} (h : tl σ H fun v H1 => r [v] H1 D.rt) : tRet (tCB r (tCons tl tNil)) D σ H := h
def stV (e : Str → V) : V → V
  | .str x => e x
  | v => v
theorem filt_st {e : Str → V} {l : List Str} : ((l.map V.str).filter (fun _ => true)).map (stV e) = l.map e := by
  rw [List.filter_eq_self.mpr (fun _ _ => rfl), List.map_map]
  rfl
end Ev

/-! ## k44: classes split, again and again -/
namespace Ev
open PySem PySem.Spec PyProof.Rows L2
theorem da_perm {K : PySem.W.Frag} {H : Hp} {ys us : List V} (h : ys.Perm us) : ∀ {S : List Cls2}, DaAll K H us (S.map cD) → ∃ S' : List Cls2, S'.Perm S ∧ DaAll K H ys (S'.map cD) := by
  induction h with
  | nil =>
    intro S h
    cases S with
    | nil => exact ⟨[], .nil, .nil⟩
    | cons e S => cases h
  | cons x _ ih =>
    intro S h
    cases S with
    | nil => cases h
    | cons e S =>
      cases h with
      | cons h t =>
        obtain ⟨S', p, d⟩ := ih t
        exact ⟨e :: S', p.cons e, .cons h d⟩
  | swap x y l =>
    intro S h
    match S, h with
    | e :: f :: S, .cons h1 (.cons h2 t) => exact ⟨f :: e :: S, .swap e f S, .cons h2 (.cons h1 t)⟩
  | trans _ _ ih1 ih2 =>
    intro S h
    obtain ⟨S2, p2, d2⟩ := ih2 h
    obtain ⟨S1, p1, d1⟩ := ih1 d2
    exact ⟨S1, p1.trans p2, d1⟩
theorem Cl2.perm {S S' : List Cls2} (h : Cl2 S) (p : S'.Perm S) : Cl2 S' := ⟨fun e he => h.pos e (p.mem_iff.mp he), fun e he => h.lt e (p.mem_iff.mp he)⟩
/-- classes whose periods divide M -/
structure Dv44 (M : Nat) (S : List Cls2) : Prop where
  cl : Cl2 S
  m0 : 0 < M
  dv : ∀ e ∈ S, e.1 ∣ M
theorem Dv44.perm {M : Nat} {S S' : List Cls2} (h : Dv44 M S) (p : S'.Perm S) : Dv44 M S' := ⟨h.cl.perm p, h.m0, fun e he => h.dv e (p.mem_iff.mp he)⟩
theorem Dv44.le {M : Nat} {S : List Cls2} (h : Dv44 M S) {e : Cls2} (he : e ∈ S) : e.1 ≤ M := Nat.le_of_dvd h.m0 (h.dv e he)
theorem Dv44.lcm {M : Nat} {S : List Cls2} (h : Dv44 M S) : lcmP S ≤ M := lcmP_le h.cl h.m0 h.dv
theorem Dv44.app {M : Nat} {S T : List Cls2} (h : Dv44 M S) (k : Dv44 M T) : Dv44 M (S ++ T) := ⟨⟨fun e he => (List.mem_append.mp he).elim (h.cl.pos e) (k.cl.pos e), fun e he => (List.mem_append.mp he).elim (h.cl.lt e) (k.cl.lt e)⟩, h.m0, fun e he => (List.mem_append.mp he).elim (h.dv e) (k.dv e)⟩
theorem Dv44.sub {M : Nat} {S T : List Cls2} (h : Dv44 M S) (k : ∀ e ∈ T, e ∈ S) : Dv44 M T := ⟨⟨fun e he => h.cl.pos e (k e he), fun e he => h.cl.lt e (k e he)⟩, h.m0, fun e he => h.dv e (k e he)⟩
theorem Dv44.mul {M c : Nat} {S : List Cls2} (h : Dv44 M S) (hc : 0 < c) : Dv44 (M * c) S := ⟨h.cl, Nat.mul_pos h.m0 hc, fun e he => Nat.dvd_trans (h.dv e he) (Nat.dvd_mul_right _ _)⟩
def cutC (e : Cls2) (c : Nat) : List Cls2 := (List.range c).map fun k => (e.1 * c, e.2 + e.1 * k)
theorem cutC_dv {M c : Nat} {e : Cls2} (h : e.1 ∣ M) (hm : 0 < M) (h1 : 0 < e.1) (h2 : e.2 < e.1) (hc : 0 < c) : Dv44 (M * c) (cutC e c) := by
  refine ⟨⟨fun x hx => ?_, fun x hx => ?_⟩, Nat.mul_pos hm hc, fun x hx => ?_⟩
  · obtain ⟨k, _, rfl⟩ := List.mem_map.mp hx
    exact Nat.mul_pos h1 hc
  · obtain ⟨k, hk, rfl⟩ := List.mem_map.mp hx
    have hk := List.mem_range.mp hk
    have : e.1 * k + e.1 ≤ e.1 * c := by
      rw [← Nat.mul_succ]
      exact Nat.mul_le_mul_left _ hk
    show e.2 + e.1 * k < e.1 * c
    omega
  · obtain ⟨k, _, rfl⟩ := List.mem_map.mp hx
    exact Nat.mul_dvd_mul_right h c
def spSp44 (K : PySem.W.Frag) : Sp := fun vs H Q _ => ∃ (p : Addr) (n : Nat), vs = [.ref p, .int 12] ∧ PotA p n H ∧ n + 40 ≤ 9000000 ∧ ∀ H' u (S : List Cls2), Bu p H H' → PotA p (n + 40) H' → Da K H' u (.tuple (S.map cD)) → 1 ≤ S.length → S.length ≤ 12 → (∃ M, M ≤ 3125 ∧ Dv44 M S) → Q u H'
theorem scSp44 : FnScope ["_law_draws_here", "_law_most", "_law_found", "_law_turn", "_law_parts", "_law_period", "_law_start", "_law_part"] ["_law_draws_here", "_law_most"] (defScope (topS 14)) := ⟨rfl, rfl, rfl, by decide +kernel, rfl, by decide +kernel, by decide +kernel⟩
theorem tup_cD (S : List Cls2) : tupDs (S.map cD) = true := by
  induction S with
  | nil => rfl
  | cons e S ih =>
    rw [List.map_cons]
    simp only [tupDs, tupD, cD, ih, Bool.and_true]
    all_goals exact nofun
theorem da_erase {K : PySem.W.Frag} {H : Hp} : ∀ (i : Nat) {us : List V} {S : List Cls2}, DaAll K H us (S.map cD) → DaAll K H (us.eraseIdx i) ((S.eraseIdx i).map cD)
  | _, [], [], _ => .nil
  | 0, _ :: _, _ :: _, .cons _ t => t
  | i + 1, _ :: _, _ :: _, .cons h t => .cons h (da_erase i t)
theorem ext44 {K : PySem.W.Frag} {i : Nat} {q : Addr} {us : List V} {te : TE} {D : Ends} {σ : L2.St} {H : Hp} (hv : σ[i]? = some (some (.ref q))) (hq : H q = some (.lst us)) (h : te σ H fun v H1 => rExtend (.ref q) [v] H1 fun _ H2 => D.nx σ H2) : tDrop (tBM K "list" rExtend (tVar i) (tCons te tNil)) D σ H :=
  ⟨_, hv, .inl ⟨rfl, us, .inl (.inl hq)⟩, h⟩
theorem da_cut {K : PySem.W.Frag} {H : Hp} {f : Nat → PyData} {ps : List Addr} (h : ∀ (j : Nat) t, ps[j]? = some t → Da K H (.ref t) (f j)) : DaAll K H (ps.map V.ref) ((List.range ps.length).map f) := by
  have go : ∀ (ps : List Addr) (k : Nat), (∀ (j : Nat) t, ps[j]? = some t → Da K H (.ref t) (f (k + j))) → DaAll K H (ps.map V.ref) ((List.range' k ps.length).map f) := fun ps => by
    induction ps with
    | nil => intro k _; exact .nil
    | cons t ps ih =>
      intro k h
      rw [List.length_cons, List.range'_succ]
      exact .cons (h 0 t rfl) (ih (k + 1) fun j t' e => by
        have z := h (j + 1) t' e
        rw [show k + (j + 1) = k + 1 + j by omega] at z
        exact z)
  have z := go ps 0 fun j t e => by
    rw [Nat.zero_add]
    exact h j t e
  rw [List.range_eq_range']
  exact z
section
variable {P : Program} {w : World} {K : PySem.W.Frag} {mg : Str → Option Value} {base : Heap}
theorem ok_sp44 (D : Def K mg "_law_split" (topS 14) ["_law_draws_here", "_law_most"]) (C__law_below : Cal P w K mg base 1 "_law_below" ["_law_draws_here", "_law_many"] spDraw) (C__law_pick : Cal P w K mg base 2 "_law_pick" ["_law_draws_here", "_law_items"] (spPick K))
    (C__law_shuffled : Cal P w K mg base 2 "_law_shuffled" ["_law_draws_here", "_law_items"] (spSh K)) (nb : NB mg) : Cal P w K mg base 3 "_law_split" ["_law_draws_here", "_law_most"] (spSp44 K) := by
  refine D.ok scSp44 (fun vs H Q E h => ?_) (fun fa cdv A outer sh H vs Q E hr gd h => ?_)
  · obtain ⟨p, n, rfl, _⟩ := h
    rfl
  · obtain ⟨p, n, rfl, hp, hn, q⟩ := h
    refine ⟨_, (pss_cons (ps_set (i := 2) scSp44.nd rfl (.inl rfl) (pe_lst (pa_cons (pe_tup (pa_cons pe_int (pa_cons pe_int pa_nil))) pa_nil)))
      (pss_cons (ps_for PassesOwn.never rfl (pi_range1 rfl nb.at (pa_cons (pcall C__law_below (hr.mono (by omega)) gd (by rfl) (pa_cons (pv 0) (pa_cons pe_int pa_nil))) pa_nil)) (pg_name (i := 3) scSp44.nd rfl (Or.inl rfl))
        (pss_cons (ps_set (i := 4) scSp44.nd rfl (.inr rfl) (pcall C__law_pick (hr.mono (by omega)) gd (by rfl) (pa_cons (pv 0) (pa_cons (pe_lst (pa_cons pe_int (pa_cons pe_int (pa_cons pe_int (pa_cons pe_int (pa_cons pe_int pa_nil)))))) pa_nil))))
        (pss_one (ps_if (pt_cmpR op_le (pe_op op_sub (pe_op op_add (pe_callB call_len_seq (by rfl) nb.at PySem.boot_len (pa_cons (pv 2) pa_nil)) (pv 4)) pe_int) (pv 1) (nomark _))
          (pss_cons (ps_asg (pe_bm PySem.F.plainAttrs_list PySem.F.slot_list_pop PySem.F.type_list_pop mt_popAt (pv 2) (pa_cons (pcall C__law_below (hr.mono (by omega)) gd (by rfl) (pa_cons (pv 0) (pa_cons (pe_callB call_len_seq (by rfl) nb.at PySem.boot_len (pa_cons (pv 2) pa_nil)) pa_nil))) pa_nil)) (pg_tup rfl (pgs_cons (pg_name (i := 5) scSp44.nd rfl (.inr rfl)) (pgs_cons (pg_name (i := 6) scSp44.nd rfl (.inr rfl)) pgs_nil))))
          (pss_one (ps_expr (pe_bm PySem.F.plainAttrs_list PySem.F.slot_list_extend PySem.F.type_list_extend mt_extend (pv 2) (pa_cons (pe_lc (own := [("_law_part", 7)]) (g := (gName 7)) (tt := tYes) (te := (tTup (tCons (tOp (rI CMulW fun i j => .int (i * j)) (tVar 5) (tVar 4)) (tCons (tOp (rI0 fun i j => .int (i + j)) (tVar 6) (tOp (rI CMulW fun i j => .int (i * j)) (tVar 5) (tVar 7))) tNil)))) rfl scSp44.nd (pi_range1 rfl nb.at (pa_cons (pv 4) pa_nil)) (blkOk_by (N := ["_law_draws_here", "_law_most", "_law_found", "_law_turn", "_law_parts", "_law_period", "_law_start", "_law_part"]) (sc := defScope (topS 14)) (by decide +kernel)) (fun _ _ _ _ _ => (pg_name (i := 7) scSp44.nd rfl (Or.inl rfl))) (fun _ _ _ _ _ => pts_nil) (fun _ _ _ _ _ => (pe_tup (pa_cons (pe_op op_mulW (pv 5) (pv 4)) (pa_cons (pe_op op_add (pv 6) (pe_op op_mulW (pv 5) (pv 7))) pa_nil))))) pa_nil)))))
          pss_nil))))
      (pss_one (ps_ret (pe_callTy call_tuple_of (by rfl) nb.at (by decide +kernel) (pa_cons (pcall C__law_shuffled (hr.mono (by omega)) gd (by rfl) (pa_cons (pv 0) (pa_cons (pv 2) pa_nil))) pa_nil)))))), ?_⟩
    have sl := sizeLine_eq
    refine ⟨(by show 2 ≤ sizeLine; decide), fun t nt => ⟨(by show 1 ≤ sizeLine; decide), fun l nl => ?_⟩⟩
    have st := same_put (o := .tup [.int 1, .int 0]) nt
    have sl0 := same_put (o := .lst [.ref t]) nl
    have et : (upd (upd H t (.tup [.int 1, .int 0])) l (.lst [.ref t])) t = some (.tup [.int 1, .int 0]) := sl0 _ _ upd_same
    have el : (upd (upd H t (.tup [.int 1, .int 0])) l (.lst [.ref t])) l = some (.lst [.ref t]) := upd_same
    have hp1 := hp.same (st.trans sl0)
    have npl : p ≠ l := (hp.same st).ne nl
    have nlH : H l = none := back_none st nl
    have b1 : Bu p H _ := Bu.of (st.trans sl0)
    generalize upd (upd H t (.tup [.int 1, .int 0])) l (.lst [.ref t]) = H1 at et el hp1 b1 ⊢
    refine ⟨_, rfl, p, 6, _, rfl, hp1, by omega, by decide, by decide, fun H2 d b2 hp2 d0 d6 => ?_⟩
    obtain ⟨d, rfl⟩ : ∃ k : Nat, d = (k : Nat) := ⟨d.toNat, by omega⟩
    have el2 := b2 _ _ npl.symm el
    have et2 : H2 t = some (.tup [.int 1, .int 0]) := b2 _ _ (fun e => by
      obtain ⟨ys, e2, _⟩ := hp1
      rw [← e, et] at e2
      cases e2) et
    refine ⟨_, rfl, by omega, by omega, for_range (lo := 0) (fun k σ' H' => ∃ (y3 y4 y5 y6 y7 : Option V) (us : List V) (S : List Cls2) (M : Nat), σ' = [some (.ref p), some (.int 12), some (.ref l), y3, y4, y5, y6, y7] ∧ Bu p H H' ∧ PotA p (n + 1 + 2 * k) H' ∧ H' l = some (.lst us) ∧ DaAll K H' us (S.map cD) ∧ 1 ≤ S.length ∧ S.length ≤ 12 ∧ M ≤ 5 ^ k ∧ Dv44 M S)
      ⟨none, none, none, none, none, [.ref t], [(1, 0)], 1, rfl, b1.trans b2, hp2, el2, .cons (.tup (.inl (.inl et2)) (.cons (.int _) (.cons (.int _) .nil))) .nil, by decide, by decide, by decide, ⟨⟨fun e he => by rw [List.mem_singleton.mp he]; decide, fun e he => by rw [List.mem_singleton.mp he]; decide⟩, by decide, fun e he => by rw [List.mem_singleton.mp he]; exact Nat.dvd_refl 1⟩⟩ ?_ ?_⟩
    · rintro k σ' H3 hk ⟨y3, y4, y5, y6, y7, us, S, M, rfl, b3, hp3, el3, hd3, hS1, hS12, hM, hv⟩
      have hk5 : k < 5 := by omega
      dsimp only [gName]
      refine ⟨_, rfl, (by show 5 ≤ sizeLine; decide), fun q1 nq1 => ⟨p, q1, _, _, rfl, hp3.new nq1, by omega, hp3.ne nq1, .inl (.inl upd_same), by simp, by show 5 ≤ 1000000; decide, fun H4 v b4 hp4 hvm => ?_⟩⟩
      obtain ⟨c, rfl, c2, c5⟩ : ∃ c : Nat, v = .int (c : Nat) ∧ 2 ≤ c ∧ c ≤ 5 := by
        simp only [List.mem_cons, List.not_mem_nil, or_false] at hvm
        rcases hvm with rfl | rfl | rfl | rfl | rfl
        · exact ⟨2, rfl, by decide, by decide⟩
        · exact ⟨2, rfl, by decide, by decide⟩
        · exact ⟨3, rfl, by decide, by decide⟩
        · exact ⟨4, rfl, by decide, by decide⟩
        · exact ⟨5, rfl, by decide, by decide⟩
      have bs4 : Bu p H3 H4 := (Bu.new nq1).trans b4
      have el4 := bs4 _ _ npl.symm el3
      have kt4 := (Kt.of (same_put (o := .lst [.int 2, .int 2, .int 3, .int 4, .int 5]) nq1)).trans ((hp3.new nq1).kt b4)
      have hd4 := DaAll.kt kt4 (tup_cD S) hd3
      have hul := daAll_len hd3
      rw [List.length_map] at hul
      dsimp only [gName]
      refine ⟨_, rfl, l, us, rfl, .inl (.inl (.inl el4)), _, rfl, _, _, rfl, rfl, _, _, rfl, rfl, _, rfl, _, _, rfl, rfl, _, rfl, ite2 (fun e => ?_) (fun e => ?_)⟩
      · have hfit : us.length + c ≤ 13 := by
          have := of_decide_eq_true e
          omega
        have sl := sizeLine_eq
        have hlg : (((us.length : Nat) : Int)).natAbs.log2 < 9000 := by
          rw [Int.natAbs_natCast]
          exact Nat.lt_of_lt_of_le (PySem.Flt.log2_lt_of (show 0 < 20 by decide) (show us.length < 2 ^ 20 by omega)) (by decide)
        refine ⟨_, rfl, .inl ⟨rfl, _, .inl (.inl el4)⟩, _, rfl, _, rfl, l, us, rfl, .inl (.inl (.inl el4)), p, _, _, rfl, hp4, by omega, by omega, hlg, fun H5 i b5 hp5 i0 i1 => ?_⟩
        obtain ⟨i, rfl⟩ : ∃ a : Nat, i = (a : Nat) := ⟨i.toNat, by omega⟩
        have hi : i < us.length := by omega
        have hiS : i < S.length := by omega
        have el5 := b5 _ _ npl.symm el4
        have hd5 := DaAll.kt (hp4.kt b5) (tup_cD S) hd4
        have h0 := hv.cl.pos _ (List.getElem_mem hiS)
        have h1 := hv.cl.lt _ (List.getElem_mem hiS)
        have hMe := hv.le (List.getElem_mem hiS)
        have hde := hv.dv _ (List.getElem_mem hiS)
        have hM5 : M ≤ 3125 := Nat.le_trans hM (Nat.le_trans (Nat.pow_le_pow_right (by decide) (show k ≤ 5 by omega)) (by decide))
        obtain ⟨b, hbv, hb⟩ : ∃ b, us[i]? = some (.ref b) ∧ SqT K H5 b [.int (S[i].1 : Nat), .int (S[i].2 : Nat)] := by
          obtain ⟨x, hx, hxd⟩ := daAll_at hd5 (List.getElem?_eq_getElem hi)
          rw [List.getElem?_map, List.getElem?_eq_getElem hiS] at hx
          cases hx
          obtain ⟨b, e, hb⟩ := da_cD hxd
          exact ⟨b, by rw [List.getElem?_eq_getElem hi, e], hb⟩
        generalize S[i] = e at h0 h1 hMe hde hb
        have kt6 : Kt H5 (upd H5 l (.lst (us.eraseIdx i))) := Kt.put el5
        have hb6 := seqT_kt kt6 hb
        have hd6 := da_erase i (DaAll.kt kt6 (tup_cD S) hd5)
        refine ⟨l, us, _, i, _, rfl, rfl, el5, by omega, by omega, seq_nn (by omega) (by omega), hbv, ?_⟩
        have el6 : (upd H5 l (.lst (us.eraseIdx i))) l = some (.lst (us.eraseIdx i)) := upd_same
        have hp6 : PotA p (n + 1 + 2 * k + 1 + 1) (upd H5 l (.lst (us.eraseIdx i))) := by
          obtain ⟨ys, e, h⟩ := hp5
          exact ⟨ys, by rw [upd_ne npl]; exact e, h⟩
        have b6 : Bu p H (upd H5 l (.lst (us.eraseIdx i))) := fun b o nb e => by
          rw [upd_ne (ne_of_none e nlH)]
          exact b5 _ _ nb (bs4 _ _ nb (b3 _ _ nb e))
        generalize upd H5 l (.lst (us.eraseIdx i)) = H6 at hb6 hd6 el6 hp6 b6 ⊢
        refine ⟨b, _, rfl, hb6, rfl, _, _, rfl, _, _, rfl, rfl, ?_⟩
        have mul3 : ∀ {x y : Nat}, x ≤ 3125 → y ≤ 5 → CMulW ((x : Nat) : Int) ((y : Nat) : Int) := fun {x y} hx hy => wide_mul (a := 12) (b := 3) (by rw [Int.natAbs_natCast]; omega) (by rw [Int.natAbs_natCast]; omega) (by decide) (by decide) (by decide)
        refine ext44 rfl el6 (lcT_rng (n := c) (fun k => [.int ((e.1 * c : Nat)), .int ((e.2 + e.1 * k : Nat))]) (fun Q hq => ⟨_, rfl, hq⟩) (by omega) (fun j hj H' R s' hR => ⟨rfl, _, rfl, _, rfl, _, _, rfl, rfl, mul3 (by omega) (by omega), _, rfl, _, rfl, _, rfl, _, _, rfl, rfl, mul3 (by omega) (by omega), _, _, rfl, rfl, (by show 2 ≤ sizeLine; decide), fun t nt => hR _ t (same_put nt) nt (by rw [upd_same]; rfl)⟩) (fun H8 D8 ps s8 nD8 hD8 hpl hpt => ?_))
        refine ⟨l, D8, us.eraseIdx i, _, rfl, rfl, s8 _ _ el6, hD8, ?_, _, _, _, _, _, us.eraseIdx i ++ ps.map V.ref, S.eraseIdx i ++ cutC e c, M * c, rfl, ?_, ?_, upd_same, ?_, ?_, ?_, ?_, ?_⟩
        · rw [List.length_map, List.length_eraseIdx_of_lt hi]
          omega
        · intro b' o nb e'
          have := s8 _ _ (b6 _ _ nb e')
          rw [upd_ne (ne_of_none e' nlH)]
          exact this
        · obtain ⟨ys, e', h⟩ := hp6.same s8
          exact PotA.up (n := n + 1 + 2 * k + 1 + 1) ⟨ys, by rw [upd_ne npl]; exact e', h⟩ (by omega)
        · have el8 := s8 _ _ el6
          have kt9 : Kt H8 (upd H8 l (.lst (us.eraseIdx i ++ ps.map V.ref))) := Kt.put el8
          rw [List.map_append]
          refine da_app (DaAll.kt ((Kt.of s8).trans kt9) (tup_cD _) hd6) ?_
          have e9 : (cutC e c).map cD = (List.range ps.length).map fun j => PyData.tuple [.int ((e.1 * c : Nat)), .int ((e.2 + e.1 * j : Nat))] := by
            unfold cutC
            rw [List.map_map, hpl]
            rfl
          rw [e9]
          exact da_cut fun j t hj => .tup (xs := [.int ((e.1 * c : Nat)), .int ((e.2 + e.1 * j : Nat))]) (.inl (.inl (kt9 _ _ (hpt j t hj) nofun))) (.cons (.int _) (.cons (.int _) .nil))
        · rw [List.length_append, List.length_eraseIdx_of_lt hiS, cutC, List.length_map, List.length_range]
          omega
        · rw [List.length_append, List.length_eraseIdx_of_lt hiS, cutC, List.length_map, List.length_range]
          omega
        · rw [Nat.pow_succ]
          exact Nat.mul_le_mul hM (by omega)
        · exact ((hv.mul (by omega)).sub fun x hx => List.mem_of_mem_eraseIdx hx).app (cutC_dv hde hv.m0 h0 h1 (by omega))
      · exact ⟨_, _, _, _, _, us, S, M, rfl, b3.trans bs4, hp4.up (by omega), el4, hd4, hS1, hS12, Nat.le_trans hM (Nat.pow_le_pow_right (by decide) (Nat.le_succ k)), hv⟩
    · rintro σ' H3 ⟨y3, y4, y5, y6, y7, us, S, M, rfl, b3, hp3, el3, hd3, hS1, hS12, hM, hv⟩
      have hul := daAll_len hd3
      rw [List.length_map] at hul
      refine ⟨_, rfl, _, rfl, p, l, us, _, rfl, hp3, by omega, npl, .inl (.inl el3), by omega, fun H4 l4 ys b4 hp4 nl4 npl4 el4 pm => ?_⟩
      obtain ⟨S', pS, dS⟩ := da_perm pm hd3
      have hd4 := DaAll.kt (hp3.kt b4) (tup_cD S') dS
      refine ⟨l4, ys, rfl, .inl ⟨.inl (.inl el4), fun t4 nt4 => ?_⟩⟩
      have s4 := same_put (o := .tup ys) nt4
      refine q _ _ S' (b3.trans (b4.trans (Bu.of s4))) ((hp4.same s4).up (by omega)) (.tup (.inl (.inl upd_same)) (hd4.mono s4)) (by rw [pS.length_eq]; exact hS1) (by rw [pS.length_eq]; exact hS12) ⟨M, Nat.le_trans hM ?_, hv.perm pS⟩
      exact Nat.le_trans (Nat.pow_le_pow_right (by decide) (show (((d : Nat) : Int)).toNat ≤ 5 by omega)) (by decide)
end
end Ev

/-! ## k44: one thing otherwise -/
namespace Ev
open PySem PySem.Spec PyProof.Rows L2
def spSpo44 (K : PySem.W.Frag) : Sp := fun vs H Q _ => ∃ (p : Addr) (x : V) (S : List Cls2) (M n : Nat), vs = [.ref p, x] ∧ PotA p n H ∧ n + 3 ≤ 9000000 ∧ Da K H x (.tuple (S.map cD)) ∧ Dv44 M S ∧ M ≤ 50000 ∧ 1 ≤ S.length ∧ S.length ≤ 12 ∧ ∀ H' u (S' : List Cls2), Bu p H H' → PotA p (n + 3) H' → Da K H' u (.tuple (S'.map cD)) → S'.length ≤ 13 → Dv44 (M * 2) S' → Q u H'
theorem scSpo44 : FnScope ["_law_draws_here", "_law_some", "_law_at", "_law_way", "_law_period", "_law_start"] ["_law_draws_here", "_law_some"] (defScope (topS 15)) := ⟨rfl, rfl, rfl, by decide +kernel, rfl, by decide +kernel, by decide +kernel⟩
theorem da_pr {K : PySem.W.Frag} {H : Hp} {t : Addr} {e : Cls2} (h : H t = some (.tup [.int (e.1 : Nat), .int (e.2 : Nat)])) : Da K H (.ref t) (cD e) := .tup (.inl (.inl h)) (.cons (.int _) (.cons (.int _) .nil))
/-- one item of a tuple otherwise -/
theorem cut44 {K : PySem.W.Frag} {H : Hp} {σ : L2.St} {Q : VK} {x : V} {ds : List PyData} {d : PyData} {i : Nat} {te : TE} (hx : Da K H x (.tuple ds)) (i1 : σ[1]? = some (some x)) (i2 : σ[2]? = some (some (.int (i : Nat))))
    (he : ∀ (H' : Hp) (R : VK), Same H H' → (∀ H'' u, Same H' H'' → Da K H'' u d → R u H'') → te σ H' R) (hl : ds.length ≤ 1000000)
    (q : ∀ H' u, Same H H' → Da K H' u (.tuple (ds.take i ++ [d] ++ ds.drop (i + 1))) → Q u H') :
    tOp (rCatA K) (tOp (rCatA K) (tSl (rSlA K) (tVar 1) tNoPart (tPart (tVar 2))) (tTup (tCons te tNil))) (tSl (rSlA K) (tVar 1) (tPart (tOp (rI0 fun i j => V.int (i + j)) (tVar 2) (tC (V.int 1)))) tNoPart) σ H Q := by
  have sl := sizeLine_eq
  refine ⟨_, i1, _, i2, _, rfl, sl_val (lo := none) (hi := some (i : Nat)) hx fun H3 u3 s3 hu3 => ?_⟩
  rw [cut_to] at hu3
  refine he H3 _ s3 fun H4 u4 s4 hu4 => ⟨by show 1 ≤ sizeLine; decide, fun t nt => ?_⟩
  have st := same_put (o := .tup [u4]) nt
  refine cat_val ((hu3.mono s4).mono st) (.tup (xs := [u4]) (.inl (.inl upd_same)) (.cons (hu4.mono st) .nil)) (by rw [List.length_take]; show _ + 1 ≤ _; omega) fun H5 u5 s5 hu5 => ?_
  have s15 := s3.trans (s4.trans (st.trans s5))
  refine ⟨_, i1, _, i2, _, _, rfl, rfl, _, rfl, ?_⟩
  dsimp only [tNoPart]
  rw [show ((i : Nat) : Int) + 1 = ((i + 1 : Nat) : Int) by omega]
  refine sl_val (lo := some ((i + 1 : Nat) : Int)) (hi := none) (hx.mono s15) fun H6 u6 s6 hu6 => ?_
  rw [cut_from] at hu6
  refine cat_val (hu5.mono s6) hu6 (by rw [List.length_append, List.length_take, List.length_drop]; show _ + 1 + _ ≤ _; omega) fun H7 u7 s7 hu7 => ?_
  exact q H7 u7 (s15.trans (s6.trans s7)) hu7
section
variable {P : Program} {w : World} {K : PySem.W.Frag} {mg : Str → Option Value} {base : Heap}
theorem ok_spo44 (D : Def K mg "_law_spoilt" (topS 15) ["_law_draws_here", "_law_some"]) (C__law_below : Cal P w K mg base 1 "_law_below" ["_law_draws_here", "_law_many"] spDraw) (nb : NB mg) : Cal P w K mg base 2 "_law_spoilt" ["_law_draws_here", "_law_some"] (spSpo44 K) := by
  refine D.ok scSpo44 (fun vs H Q E h => ?_) (fun fa cdv A outer sh H vs Q E hr gd h => ?_)
  · obtain ⟨p, x, S, M, n, rfl, _⟩ := h
    rfl
  · obtain ⟨p, x, S, M, n, rfl, hp, hn, hx, hv, hM, h1, h12, q⟩ := h
    refine ⟨_, (pss_cons (ps_par (i := 2) (j := 3) rfl scSpo44.nd rfl rfl (by decide) rfl rfl (pa_cons (pcall C__law_below (hr.mono (by omega)) gd (by rfl) (pa_cons (pv 0) (pa_cons (pe_callB call_len_seq (by rfl) nb.at PySem.boot_len (pa_cons (pv 1) pa_nil)) pa_nil))) (pa_cons (pcall C__law_below (hr.mono (by omega)) gd (by rfl) (pa_cons (pv 0) (pa_cons pe_int pa_nil))) pa_nil)) (by rfl))
      (pss_cons (ps_asg (pe_ix ix_tup (pv 1) (pv 2) (fun _ _ => rfl)) (pg_tup rfl (pgs_cons (pg_name (i := 4) scSpo44.nd rfl (Or.inl rfl)) (pgs_cons (pg_name (i := 5) scSpo44.nd rfl (Or.inl rfl)) pgs_nil))))
      (pss_cons (ps_if (PW.pt (pw_and (pt_cmpR op_eq (pv 3) pe_int (nomark _)) (pw_and1 (pt_cmpR op_gt (pe_callB call_len_seq (by rfl) nb.at PySem.boot_len (pa_cons (pv 1) pa_nil)) pe_int (nomark _)))))
        (pss_one (ps_ret (pe_op op_catA (pe_slice sl_tupA (pv 1) po_none (po_some (pv 2))) (pe_slice sl_tupA (pv 1) (po_some (pe_op op_add (pv 2) pe_int)) po_none))))
        pss_nil)
      (pss_cons (ps_if (PW.pt (pw_and (pt_cmpR op_eq (pv 3) pe_int (nomark _)) (pw_and1 (pt_cmpR op_lt (pe_callB call_len_seq (by rfl) nb.at PySem.boot_len (pa_cons (pv 1) pa_nil)) pe_int (nomark _)))))
        (pss_one (ps_ret (pe_op op_catA (pv 1) (pe_tup (pa_cons (pe_ix ix_tup (pv 1) (pv 2) (fun _ _ => rfl)) pa_nil)))))
        pss_nil)
      (pss_cons (ps_if (pt_cmpR op_eq (pv 3) pe_int (nomark _))
        (pss_one (ps_ret (pe_op op_catA (pe_op op_catA (pe_slice sl_tupA (pv 1) po_none (po_some (pv 2))) (pe_tup (pa_cons (pe_tup (pa_cons (pv 4) (pa_cons (pe_op op_mod (pe_op op_add (pv 5) pe_int) (pv 4)) pa_nil))) pa_nil))) (pe_slice sl_tupA (pv 1) (po_some (pe_op op_add (pv 2) pe_int)) po_none))))
        pss_nil)
      (pss_one (ps_ret (pe_op op_catA (pe_op op_catA (pe_slice sl_tupA (pv 1) po_none (po_some (pv 2))) (pe_tup (pa_cons (pe_tup (pa_cons (pe_op op_mul pe_int (pv 4)) (pa_cons (pv 5) pa_nil))) pa_nil))) (pe_slice sl_tupA (pv 1) (po_some (pe_op op_add (pv 2) pe_int)) po_none))))))))), ?_⟩
    have sl := sizeLine_eq
    obtain ⟨a, xs, rfl, ht, hall⟩ : ∃ a xs, x = .ref a ∧ SqT K H a xs ∧ DaAll K H xs (S.map cD) := by
      cases hx with
      | @tup a xs _ ht hall => exact ⟨a, xs, rfl, ht, hall⟩
    have hxl := daAll_len hall
    rw [List.length_map] at hxl
    have bu : ∀ {H' : Hp}, Bu p H H' → Kt H H' := fun b => hp.kt b
    refine ⟨_, rfl, _, rfl, a, xs, rfl, .inr ht, p, _, _, rfl, hp, by omega, by omega, ?_, fun H1 i b1 hp1 i0 i1 => ⟨_, rfl, p, 4, _, rfl, hp1, by omega, by decide, by decide, fun H2 j b2 hp2 j0 j4 => ⟨_, _, rfl, ?_⟩⟩⟩
    · rw [Int.natAbs_natCast]
      exact Nat.lt_of_lt_of_le (PySem.Flt.log2_lt_of (show 0 < 20 by decide) (show xs.length < 2 ^ 20 by omega)) (by decide)
    obtain ⟨i, rfl⟩ : ∃ a : Nat, i = (a : Nat) := ⟨i.toNat, by omega⟩
    have hi : i < xs.length := by omega
    have hiS : i < S.length := by omega
    have kt2 := bu (b1.trans b2)
    have hx2 := Da.kt kt2 (by rw [tupD]; exact tup_cD S) hx
    have ht2 := seqT_kt kt2 ht
    have hd2 := DaAll.kt kt2 (tup_cD S) hall
    have h0 := hv.cl.pos _ (List.getElem_mem hiS)
    have hl1 := hv.cl.lt _ (List.getElem_mem hiS)
    have hMe := hv.le (List.getElem_mem hiS)
    have hde := hv.dv _ (List.getElem_mem hiS)
    obtain ⟨b, hbv, hb, hbd⟩ : ∃ b, xs[i]? = some (.ref b) ∧ SqT K H2 b [.int (S[i].1 : Nat), .int (S[i].2 : Nat)] ∧ Da K H2 (.ref b) (cD S[i]) := by
      obtain ⟨x, hx, hxd⟩ := daAll_at hd2 (List.getElem?_eq_getElem hi)
      rw [List.getElem?_map, List.getElem?_eq_getElem hiS] at hx
      cases hx
      obtain ⟨b, e, hb⟩ := da_cD hxd
      exact ⟨b, by rw [List.getElem?_eq_getElem hi, e], hb, by rw [e] at hxd; exact hxd⟩
    have hmem : S[i] ∈ S := List.getElem_mem hiS
    generalize S[i] = e at h0 hl1 hMe hde hb hbd hmem
    dsimp only [List.set]
    refine ⟨_, rfl, _, rfl, a, xs, _, .ref b, rfl, rfl, ht2, atI_of hbv, b, _, rfl, hb, rfl, _, _, rfl, _, _, rfl, rfl, ?_⟩
    have vM := hv.mul (c := 2) (by decide)
    have vT : Dv44 (M * 2) (S.take i) := vM.sub fun x hx => List.mem_of_mem_take hx
    have vD : Dv44 (M * 2) (S.drop (i + 1)) := vM.sub fun x hx => List.mem_of_mem_drop hx
    have lT : (S.take i).length = i := by rw [List.length_take]; omega
    have lD : (S.drop (i + 1)).length = S.length - (i + 1) := List.length_drop
    have b12 := b1.trans b2
    have q3 : ∀ H' u (S' : List Cls2), Same H2 H' → Da K H' u (.tuple (S'.map cD)) → S'.length ≤ 13 → Dv44 (M * 2) S' → Q u H' := fun H' u S' s' hu hl hd => q H' u S' (b12.trans (Bu.of s')) ((hp2.same s').up (by omega)) hu hl hd
    have q4 : ∀ H' u (f : Cls2), Same H2 H' → Da K H' u (.tuple ((S.map cD).take i ++ [cD f] ++ (S.map cD).drop (i + 1))) → 0 < f.1 → f.2 < f.1 → f.1 ∣ M * 2 → Q u H' := fun H' u f s' hu f0 f1 fd => by
      refine q3 H' u (S.take i ++ [f] ++ S.drop (i + 1)) s' (by rw [List.map_append, List.map_append, List.map_take, List.map_drop]; exact hu) ?_ ((vT.app ⟨⟨fun x hx => by rw [List.mem_singleton.mp hx]; exact f0, fun x hx => by rw [List.mem_singleton.mp hx]; exact f1⟩, vM.m0, fun x hx => by rw [List.mem_singleton.mp hx]; exact fd⟩).app vD)
      rw [List.length_append, List.length_append, lT, lD, List.length_singleton]
      omega
    have lS : (S.map cD).length ≤ 1000000 := by rw [List.length_map]; omega
    have hd2e : e.1 ∣ M * 2 := Nat.dvd_trans hde (Nat.dvd_mul_right _ _)
    obtain rfl | rfl | rfl | rfl : j = 0 ∨ j = 1 ∨ j = 2 ∨ j = 3 := by omega
    · refine ⟨_, rfl, rfl, _, rfl, iteT ⟨_, rfl, a, xs, rfl, .inr ht2, _, _, rfl, rfl, _, rfl, ite2 (fun e1 => ?_) (fun e1 => ?_)⟩⟩
      · refine ⟨_, rfl, _, rfl, _, rfl, sl_val (lo := none) (hi := some (i : Nat)) hx2 fun H3 u3 s3 hu3 => ⟨_, rfl, _, rfl, _, _, rfl, rfl, _, rfl, ?_⟩⟩
        rw [cut_to] at hu3
        dsimp only [tNoPart]
        rw [show ((i : Nat) : Int) + 1 = ((i + 1 : Nat) : Int) by omega]
        refine sl_val (lo := some ((i + 1 : Nat) : Int)) (hi := none) (hx2.mono s3) fun H4 u4 s4 hu4 => ?_
        rw [cut_from] at hu4
        refine cat_val (hu3.mono s4) hu4 (by rw [List.length_take, List.length_drop, List.length_map]; omega) fun H5 u5 s5 hu5 => ?_
        rw [← List.map_take, ← List.map_drop, ← List.map_append] at hu5
        exact q3 H5 u5 _ (s3.trans (s4.trans s5)) hu5 (by rw [List.length_append, lT, lD]; omega) (vT.app vD)
      · refine ⟨_, rfl, rfl, _, rfl, iteF (iteF ⟨_, rfl, rfl, _, rfl, iteF ?_⟩)⟩
        exact cut44 (d := cD (2 * e.1, e.2)) (i := i) hx2 rfl rfl (fun H' R s' hR => ⟨_, rfl, _, _, rfl, rfl, (.inl ⟨by decide, by decide⟩), _, rfl, (by show 2 ≤ sizeLine; decide), fun t nt => hR _ _ (same_put nt) (da_pr (e := (2 * e.1, e.2)) (by rw [upd_same, Int.natCast_mul]; rfl))⟩) lS fun H' u s' hu => q4 H' u (2 * e.1, e.2) s' hu (by show 0 < 2 * e.1; omega) (by show e.2 < 2 * e.1; omega) (by show 2 * e.1 ∣ M * 2; rw [Nat.mul_comm]; exact Nat.mul_dvd_mul_right hde 2)
    · refine ⟨_, rfl, rfl, _, rfl, iteF (iteF ⟨_, rfl, rfl, _, rfl, iteT ⟨_, rfl, a, xs, rfl, .inr ht2, _, _, rfl, rfl, _, rfl, ite2 (fun e1 => ?_) (fun e1 => ?_)⟩⟩)⟩
      · refine ⟨_, rfl, _, rfl, _, rfl, a, xs, _, .ref b, rfl, rfl, ht2, atI_of hbv, (by show 1 ≤ sizeLine; decide), fun t nt => ?_⟩
        have st := same_put (o := .tup [V.ref b]) nt
        refine cat_val (hx2.mono st) (.tup (xs := [.ref b]) (.inl (.inl upd_same)) (.cons (hbd.mono st) .nil)) (by rw [List.length_map]; show _ + 1 ≤ _; omega) fun H5 u5 s5 hu5 => ?_
        refine q3 H5 u5 (S ++ [e]) (st.trans s5) (by rw [List.map_append]; exact hu5) (by rw [List.length_append, List.length_singleton]; omega) (vM.app (vM.sub fun x hx => by rw [List.mem_singleton.mp hx]; exact hmem))
      · refine ⟨_, rfl, rfl, _, rfl, iteF ?_⟩
        exact cut44 (d := cD (2 * e.1, e.2)) (i := i) hx2 rfl rfl (fun H' R s' hR => ⟨_, rfl, _, _, rfl, rfl, (.inl ⟨by decide, by decide⟩), _, rfl, (by show 2 ≤ sizeLine; decide), fun t nt => hR _ _ (same_put nt) (da_pr (e := (2 * e.1, e.2)) (by rw [upd_same, Int.natCast_mul]; rfl))⟩) lS fun H' u s' hu => q4 H' u (2 * e.1, e.2) s' hu (by show 0 < 2 * e.1; omega) (by show e.2 < 2 * e.1; omega) (by show 2 * e.1 ∣ M * 2; rw [Nat.mul_comm]; exact Nat.mul_dvd_mul_right hde 2)
    · refine ⟨_, rfl, rfl, _, rfl, iteF (iteF ⟨_, rfl, rfl, _, rfl, iteF (iteF ⟨_, rfl, rfl, _, rfl, iteT ?_⟩)⟩)⟩
      exact cut44 (d := cD (e.1, (e.2 + 1) % e.1)) (i := i) hx2 rfl rfl (fun H' R s' hR => ⟨_, rfl, _, rfl, _, _, rfl, rfl, _, rfl, _, _, rfl, rfl, (by show (0 : Int) < ((e.1 : Nat) : Int); omega), (by show 2 ≤ sizeLine; decide), fun t nt => hR _ _ (same_put nt) (da_pr (e := (e.1, (e.2 + 1) % e.1)) (by rw [upd_same, Int.natCast_emod, Int.natCast_add]; rfl))⟩) lS fun H' u s' hu => q4 H' u (e.1, (e.2 + 1) % e.1) s' hu h0 (Nat.mod_lt _ h0) hd2e
    · refine ⟨_, rfl, rfl, _, rfl, iteF (iteF ⟨_, rfl, rfl, _, rfl, iteF (iteF ⟨_, rfl, rfl, _, rfl, iteF ?_⟩)⟩)⟩
      exact cut44 (d := cD (2 * e.1, e.2)) (i := i) hx2 rfl rfl (fun H' R s' hR => ⟨_, rfl, _, _, rfl, rfl, (.inl ⟨by decide, by decide⟩), _, rfl, (by show 2 ≤ sizeLine; decide), fun t nt => hR _ _ (same_put nt) (da_pr (e := (2 * e.1, e.2)) (by rw [upd_same, Int.natCast_mul]; rfl))⟩) lS fun H' u s' hu => q4 H' u (2 * e.1, e.2) s' hu (by show 0 < 2 * e.1; omega) (by show e.2 < 2 * e.1; omega) (by show 2 * e.1 ∣ M * 2; rw [Nat.mul_comm]; exact Nat.mul_dvd_mul_right hde 2)
end
end Ev

/-! ## Data of tuples, to be compared -/
namespace Ev
open PySem PySem.Spec PyProof.Rows L2
mutual
theorem da_dp2 {K : PySem.W.Frag} {H : Hp} : ∀ {v : V} {d : PyData}, tupD d = true → Da K H v d → Dp K H v d
  | _, .none, _, h => by
    cases h
    exact .non
  | _, .bool b, _, h => by
    cases h
    exact .bl b
  | _, .int i, _, h => by
    cases h
    exact .int i
  | _, .str x, _, h => by
    cases h
    exact .str x
  | _, .list ds, t, _ => by
    rw [tupD] at t
    cases t
  | _, .tuple ds, t, h => by
    rw [tupD] at t
    cases h with
    | tup hs ha => exact .tup hs (daAll_dp2 t ha)
  | _, .dict _, t, _ => by
    rw [tupD] at t
    cases t
theorem daAll_dp2 {K : PySem.W.Frag} {H : Hp} : ∀ {vs : List V} {ds : List PyData}, tupDs ds = true → DaAll K H vs ds → DpAll K H vs ds
  | _, [], _, h => by
    cases h
    exact .nil
  | _, d :: ds, t, h => by
    rw [tupDs, Bool.and_eq_true] at t
    cases h with
    | cons h1 h2 => exact .cons (da_dp2 t.1 h1) (daAll_dp2 t.2 h2)
end
end Ev

/-! ## k44: drawn samplers -/
namespace Ev
open PySem PySem.Spec PyProof.Rows L2
def spSam44 (K : PySem.W.Frag) : Sp := fun vs H Q _ => ∃ (p : Addr) (n : Nat), vs = [.ref p, .int 5] ∧ PotA p n H ∧ n + 60 ≤ 9000000 ∧ ∀ H' t c u (S : List Cls2), Bu p H H' → PotA p (n + 60) H' → H' t = some (.tup [c, u]) → Da K H' u (.tuple (S.map cD)) → S.length ≤ 5 → Cl2 S → Q (.ref t) H'
theorem scSam44 : FnScope ["_law_draws_here", "_law_many", "_law_period_of", "_law_found", "_law_count", "_law_step", "_law_part", "_law_start", "_law_turn", "_law_period"] ["_law_draws_here", "_law_many"] (defScope (topS 10)) := ⟨rfl, rfl, rfl, by decide +kernel, rfl, by decide +kernel, by decide +kernel⟩
/-- what stands while samplers are drawn -/
def perL : List V := [.int 1, .int 2, .int 3, .int 4, .int 5, .int 6, .int 8, .int 12, .int 16, .int 24, .int 48, .int 7, .int 9, .int 10]
structure Sm44 (K : PySem.W.Frag) (p l r : Addr) (H0 H : Hp) (n : Nat) (S : List Cls2) : Prop where
  b : Bu p H0 H
  hp : PotA p n H
  nl : H0 l = none
  npl : p ≠ l
  nrl : r ≠ l
  nrp : r ≠ p
  er : H r = some (.lst perL)
  el : ∃ us, H l = some (.lst us) ∧ DaAll K H us (S.map cD)
  cl : Cl2 S
theorem Sm44.bu {K : PySem.W.Frag} {p l r : Addr} {H0 H H' : Hp} {n m : Nat} {S : List Cls2} (T : Sm44 K p l r H0 H n S) (b : Bu p H H') (h : PotA p m H') : Sm44 K p l r H0 H' m S := by
  obtain ⟨us, e, d⟩ := T.el
  exact ⟨T.b.trans b, h, T.nl, T.npl, T.nrl, T.nrp, b _ _ T.nrp T.er, ⟨us, b _ _ T.npl.symm e, DaAll.kt (T.hp.kt b) (tup_cD S) d⟩, T.cl⟩
theorem Sm44.same {K : PySem.W.Frag} {p l r : Addr} {H0 H H' : Hp} {n : Nat} {S : List Cls2} (T : Sm44 K p l r H0 H n S) (s : Same H H') : Sm44 K p l r H0 H' n S := T.bu (Bu.of s) (T.hp.same s)
theorem Sm44.put {K : PySem.W.Frag} {p l r : Addr} {H0 H : Hp} {n : Nat} {S S' : List Cls2} {us us' : List V} (T : Sm44 K p l r H0 H n S) (e : H l = some (.lst us)) (d : DaAll K H us' (S'.map cD)) (c : Cl2 S') : Sm44 K p l r H0 (upd H l (.lst us')) n S' := by
  refine ⟨fun b o nb e' => ?_, T.hp.put T.npl, T.nl, T.npl, T.nrl, T.nrp, ?_, ⟨us', upd_same, DaAll.kt (Kt.put e) (tup_cD S') d⟩, c⟩
  · rw [upd_ne (ne_of_none e' T.nl)]
    exact T.b _ _ nb e'
  · rw [upd_ne T.nrl]
    exact T.er
theorem Sm44.other {K : PySem.W.Frag} {p l r D : Addr} {H0 H : Hp} {n : Nat} {S : List Cls2} (T : Sm44 K p l r H0 H n S) (nD : H D = none) : Sm44 K p D r H0 (upd H D (.lst [])) n [] := by
  have npD := T.hp.ne nD
  refine ⟨T.b.trans (Bu.of (same_put nD)), T.hp.new nD, ?_, npD, ?_, T.nrp, same_put nD _ _ T.er, ⟨[], upd_same, .nil⟩, ⟨fun _ h => absurd h List.not_mem_nil, fun _ h => absurd h List.not_mem_nil⟩⟩
  · cases e : H0 D with
    | none => rfl
    | some o =>
      have := T.b _ _ npD.symm e
      rw [nD] at this
      cases this
  · intro z
    have := T.er
    rw [z, nD] at this
    cases this
theorem Cl2.snoc {S : List Cls2} (h : Cl2 S) {e : Cls2} (h0 : 0 < e.1) (h1 : e.2 < e.1) : Cl2 (S ++ [e]) := by
  refine ⟨fun x hx => ?_, fun x hx => ?_⟩
  · rcases List.mem_append.mp hx with hx | hx
    · exact h.pos x hx
    · rw [List.mem_singleton.mp hx]
      exact h0
  · rcases List.mem_append.mp hx with hx | hx
    · exact h.lt x hx
    · rw [List.mem_singleton.mp hx]
      exact h1
theorem Sm44.snoc {K : PySem.W.Frag} {p l r t : Addr} {H0 H : Hp} {n : Nat} {S : List Cls2} {e : Cls2} {us : List V} (T : Sm44 K p l r H0 H n S) (nt : H t = none) (el : H l = some (.lst us)) (da : DaAll K H us (S.map cD)) (h0 : 0 < e.1) (h1 : e.2 < e.1) :
    Sm44 K p l r H0 (upd (upd H t (.tup [.int (e.1 : Nat), .int (e.2 : Nat)])) l (.lst (us ++ [.ref t]))) n (S ++ [e]) := by
  have st := same_put (o := .tup [.int (e.1 : Nat), .int (e.2 : Nat)]) nt
  refine (T.same st).put (st _ _ el) ?_ (T.cl.snoc h0 h1)
  rw [List.map_append]
  exact da_app (da.mono st) (.cons (da_pr upd_same) .nil)
theorem eqv_nil44 (ds : List PyData) : PyData.eqv (.list ds) (.list []) = ds.isEmpty := by
  cases ds with
  | nil => rw [PyData.eqv, PyData.eqvAll]; rfl
  | cons d ds => rw [PyData.eqv, PyData.eqvAll]; rfl
theorem lay_cD (S : List Cls2) : PyData.canLayAll0 (S.map cD) = true ∧ PyData.depthAll (S.map cD) ≤ 1 := by
  induction S with
  | nil => exact ⟨by rw [List.map_nil, PyData.canLayAll0], by rw [List.map_nil, PyData.depthAll]; decide⟩
  | cons e S ih =>
    refine ⟨?_, ?_⟩
    · rw [List.map_cons, PyData.canLayAll0, ih.1, cD, PyData.canLay0, PyData.canLayAll0, PyData.canLayAll0, PyData.canLayAll0, PyData.canLay0, PyData.canLay0]
      rfl
    · rw [List.map_cons, PyData.depthAll]
      refine Nat.max_le.mpr ⟨?_, ih.2⟩
      rw [cD, PyData.depth, PyData.depthAll, PyData.depthAll, PyData.depthAll, PyData.depth, PyData.depth]
      decide
theorem shp_cD (S : List Cls2) : SeqAt.shaped (.list (S.map cD)) = true := by
  have h := lay_cD S
  unfold SeqAt.shaped
  rw [PyData.canLay0, h.1, PyData.depth, Bool.true_and]
  exact decide_eq_true (by omega)
theorem nil_shp44 : SeqAt.shaped (.list []) = true := by decide +kernel
theorem cut_s44 {t rest : TS} {D : Ends} {σ : L2.St} {H : Hp} (J : L2.St → Hp → Prop) (k : ∀ σ H, J σ H → rest D σ H) (h : (∀ σ H, J σ H → rest D σ H) → t { D with nx := rest D } σ H) : tSeq t rest D σ H := h k
section
variable {P : Program} {w : World} {K : PySem.W.Frag} {mg : Str → Option Value} {base : Heap}
theorem ok_sam44 (D : Def K mg "_law_samplers" (topS 10) ["_law_draws_here", "_law_many"]) (C__law_below : Cal P w K mg base 1 "_law_below" ["_law_draws_here", "_law_many"] spDraw) (C__law_pick : Cal P w K mg base 2 "_law_pick" ["_law_draws_here", "_law_items"] (spPick K))
    (C__law_shuffled : Cal P w K mg base 2 "_law_shuffled" ["_law_draws_here", "_law_items"] (spSh K)) (nb : NB mg) : Cal P w K mg base 3 "_law_samplers" ["_law_draws_here", "_law_many"] (spSam44 K) := by
  refine D.ok scSam44 (fun vs H Q E h => ?_) (fun fa cdv A outer sh H vs Q E hr gd h => ?_)
  · obtain ⟨p, n, rfl, _⟩ := h
    rfl
  · obtain ⟨p, n, rfl, hp, hn, q⟩ := h
    refine ⟨_, (pss_cons (ps_par (i := 2) (j := 3) rfl scSam44.nd rfl rfl (by decide) rfl rfl (pa_cons (pe_lst (pa_cons pe_int (pa_cons pe_int (pa_cons pe_int (pa_cons pe_int (pa_cons pe_int (pa_cons pe_int (pa_cons pe_int (pa_cons pe_int (pa_cons pe_int (pa_cons pe_int (pa_cons pe_int (pa_cons pe_int (pa_cons pe_int (pa_cons pe_int pa_nil))))))))))))))) (pa_cons (pe_lst pa_nil) pa_nil)) (by rfl))
      (pss_cons (ps_set (i := 4) scSam44.nd rfl (.inr rfl) (pcall C__law_pick (hr.mono (by omega)) gd (by rfl) (pa_cons (pv 0) (pa_cons (pe_lst (pa_cons pe_int (pa_cons pe_int (pa_cons pe_int (pa_cons pe_int (pa_cons pe_int (pa_cons pe_int (pa_cons pe_int (pa_cons pe_int (pa_cons pe_int (pa_cons pe_int (pa_cons pe_int (pa_cons (pe_op op_add pe_int (pcall C__law_below (hr.mono (by omega)) gd (by rfl) (pa_cons (pv 0) (pa_cons pe_int pa_nil)))) pa_nil))))))))))))) pa_nil))))
      (pss_cons (ps_if (pt_cmpR op_eq (pcall C__law_below (hr.mono (by omega)) gd (by rfl) (pa_cons (pv 0) (pa_cons pe_int pa_nil))) pe_int (nomark _))
        (pss_cons (ps_set (i := 5) scSam44.nd rfl (.inr rfl) (pcall C__law_pick (hr.mono (by omega)) gd (by rfl) (pa_cons (pv 0) (pa_cons (pe_lc (own := [("_law_part", 6)]) (g := (gName 6)) (tt := (tTest (tOp rEq (tOp (rI (fun _ j => 0 < j) fun i j => .int (i % j)) (tVar 4) (tVar 6)) (tC (.int 0))))) (te := (tVar 6)) rfl scSam44.nd (pi_range2 rfl nb.at (pa_cons pe_int (pa_cons (pe_op op_add (pe_callB (call_min2 rfl) (by rfl) nb.at (by decide +kernel) (pa_cons (pv 4) (pa_cons (pv 1) pa_nil))) pe_int) pa_nil))) (blkOk_by (N := ["_law_draws_here", "_law_many", "_law_period_of", "_law_found", "_law_count", "_law_step", "_law_part", "_law_start", "_law_turn", "_law_period"]) (sc := defScope (topS 10)) (by decide +kernel)) (fun _ _ _ _ _ => (pg_name (i := 6) scSam44.nd rfl (Or.inl rfl))) (fun _ _ _ _ _ => pts_one (pt_cmpR op_eq (pe_op op_mod (pv 4) (pv 6)) pe_int (nomark _))) (fun _ _ _ _ _ => (pv 6))) pa_nil))))
        (pss_cons (ps_setLc (i := 3) (own := [("_law_start", 7)]) (g := (gName 7)) (tt := tYes) (te := (tTup (tCons (tOp (rI CMulW fun i j => .int (i * j)) (tVar 5) (tCall (spPick K) [] E0 (tCons (tVar 0) (tCons (tLst (tCons (tC (.int 1)) (tCons (tC (.int 1)) (tCons (tC (.int 7)) tNil)))) tNil)))) (tCons (tVar 7) tNil)))) rfl scSam44.nd rfl rfl (sw_true rfl rfl rfl rfl) (pi_range1 rfl nb.at (pa_cons (pv 5) pa_nil)) (blkOk_by (N := ["_law_draws_here", "_law_many", "_law_period_of", "_law_found", "_law_count", "_law_step", "_law_part", "_law_start", "_law_turn", "_law_period"]) (sc := defScope (topS 10)) (by decide +kernel)) (fun _ _ _ _ _ => (pg_name (i := 7) scSam44.nd rfl (Or.inl rfl))) (fun _ _ _ _ _ => pts_nil) (fun _ _ _ _ _ => (pe_tup (pa_cons (pe_op op_mulW (pv 5) (pcall C__law_pick (hr.mono (by omega)) gd (by rfl) (pa_cons (pv 0) (pa_cons (pe_lst (pa_cons pe_int (pa_cons pe_int (pa_cons pe_int pa_nil)))) pa_nil)))) (pa_cons (pv 7) pa_nil)))))
        (pss_one (ps_if (pt_cmpR op_eq (pcall C__law_below (hr.mono (by omega)) gd (by rfl) (pa_cons (pv 0) (pa_cons pe_int pa_nil))) pe_int (nomark _))
          (pss_one (ps_expr (pe_bm PySem.F.plainAttrs_list PySem.F.slot_list_pop PySem.F.type_list_pop mt_popAt (pv 3) (pa_cons (pcall C__law_below (hr.mono (by omega)) gd (by rfl) (pa_cons (pv 0) (pa_cons (pe_callB call_len_seq (by rfl) nb.at PySem.boot_len (pa_cons (pv 3) pa_nil)) pa_nil))) pa_nil))))
          pss_nil))))
        pss_nil)
      (pss_cons (ps_for PassesOwn.never rfl (pi_range1 rfl nb.at (pa_cons (pe_callB (call_max2 rfl) (by rfl) nb.at (by decide +kernel) (pa_cons (pe_callTy call_int1 (by rfl) nb.at (by decide +kernel) (pa_cons (pe_cmpR (op_eqD hr.units) (pv 3) (pe_lst pa_nil) (nomark _)) pa_nil)) (pa_cons (pcall C__law_below (hr.mono (by omega)) gd (by rfl) (pa_cons (pv 0) (pa_cons (pe_op op_sub (pe_op op_add (pv 1) pe_int) (pe_callB call_len_seq (by rfl) nb.at PySem.boot_len (pa_cons (pv 3) pa_nil))) pa_nil))) pa_nil))) pa_nil)) (pg_name (i := 8) scSam44.nd rfl (Or.inl rfl))
        (pss_cons (ps_set (i := 9) scSam44.nd rfl (.inl rfl) (pcall C__law_pick (hr.mono (by omega)) gd (by rfl) (pa_cons (pv 0) (pa_cons (pe_op op_cat (pv 2) (pe_lst (pa_cons (pe_op op_add pe_int (pcall C__law_below (hr.mono (by omega)) gd (by rfl) (pa_cons (pv 0) (pa_cons pe_int pa_nil)))) (pa_cons pe_int (pa_cons (pe_op op_pow pe_int pe_int) pa_nil))))) pa_nil))))
        (pss_one (ps_expr (pe_bm PySem.F.plainAttrs_list PySem.F.slot_list_append PySem.F.type_list_append mt_append (pv 3) (pa_cons (pe_tup (pa_cons (pv 9) (pa_cons (pcall C__law_below (hr.mono (by omega)) gd (by rfl) (pa_cons (pv 0) (pa_cons (pv 9) pa_nil))) pa_nil))) pa_nil))))))
      (pss_one (ps_ret (pe_tup (pa_cons (pv 4) (pa_cons (pe_callTy call_tuple_of (by rfl) nb.at (by decide +kernel) (pa_cons (pcall C__law_shuffled (hr.mono (by omega)) gd (by rfl) (pa_cons (pv 0) (pa_cons (pv 3) pa_nil))) pa_nil)) pa_nil))))))))), ?_⟩
    have sl := sizeLine_eq
    refine ⟨(by show 14 ≤ sizeLine; decide), fun r nr => ⟨Nat.zero_le _, fun l nl => ⟨_, _, rfl, ?_⟩⟩⟩
    have npr := hp.ne nr
    have nrl : r ≠ l := fun z => by
      rw [← z, upd_same] at nl
      cases nl
    have nlH : H l = none := by
      rw [upd_ne nrl.symm] at nl
      exact nl
    have T1 : Sm44 K p l r H (upd (upd H r (.lst perL)) l (.lst [])) n [] := ⟨Bu.of ((same_put nr).trans (same_put nl)), (hp.new nr).new nl, nlH, hp.ne nlH, nrl, npr.symm, by rw [upd_ne nrl]; exact upd_same, ⟨[], upd_same, .nil⟩, ⟨fun _ h => absurd h List.not_mem_nil, fun _ h => absurd h List.not_mem_nil⟩⟩
    unfold perL at T1
    generalize upd (upd H r _) l (.lst []) = H1 at T1 ⊢
    refine ⟨_, rfl, _, rfl, p, 48, _, rfl, T1.hp, by omega, by decide, by decide, fun H2 i b2 hp2 i0 i1 => ⟨_, _, rfl, rfl, (by show 12 ≤ sizeLine; decide), fun q2 nq2 => ⟨p, q2, _, _, rfl, hp2.new nq2, by omega, hp2.ne nq2, .inl (.inl upd_same), by simp, by show 12 ≤ 1000000; decide, fun H3 v b3 hp3 hvm => ?_⟩⟩⟩
    have T3 := ((T1.bu b2 hp2).same (same_put nq2)).bu b3 hp3
    obtain ⟨c, rfl, c1, c48⟩ : ∃ c : Nat, v = .int (c : Nat) ∧ 1 ≤ c ∧ c ≤ 48 := by
      simp only [List.mem_cons, List.not_mem_nil, or_false] at hvm
      rcases hvm with rfl | rfl | rfl | rfl | rfl | rfl | rfl | rfl | rfl | rfl | rfl | rfl
      · exact ⟨1, rfl, by decide, by decide⟩
      · exact ⟨2, rfl, by decide, by decide⟩
      · exact ⟨4, rfl, by decide, by decide⟩
      · exact ⟨6, rfl, by decide, by decide⟩
      · exact ⟨8, rfl, by decide, by decide⟩
      · exact ⟨12, rfl, by decide, by decide⟩
      · exact ⟨12, rfl, by decide, by decide⟩
      · exact ⟨24, rfl, by decide, by decide⟩
      · exact ⟨30, rfl, by decide, by decide⟩
      · exact ⟨36, rfl, by decide, by decide⟩
      · exact ⟨48, rfl, by decide, by decide⟩
      · exact ⟨(1 + i).toNat, by rw [Int.toNat_of_nonneg (by omega)], by omega, by omega⟩
    clear hvm b2 hp2 b3 hp3 nq2 T1
    dsimp only [gName]
    refine cut_s44 (fun σ' H' => ∃ (l : Addr) (S : List Cls2) (y5 y6 y7 : Option V), σ' = [some (.ref p), some (.int 5), some (.ref r), some (.ref l), some (.int (c : Nat)), y5, y6, y7, none, none] ∧ Sm44 K p l r H H' (n + 20) S ∧ S.length ≤ 5) ?_ (fun cont => ?_)
    · rintro σ' H4 ⟨l, S, y5, y6, y7, rfl, T, h5⟩
      obtain ⟨us, el, da⟩ := T.el
      have hul := daAll_len da
      rw [List.length_map] at hul
      refine ⟨_, rfl, Nat.zero_le _, fun e ne => ?_⟩
      have se := same_put (o := .lst []) ne
      have Te := T.same se
      refine ⟨_, _, .lst (.inl (.inl (se _ _ el))) (daAll_dp2 (tup_cD S) (da.mono se)), .lst (.inl (.inl upd_same)) .nil, shp_cD S, nil_shp44, .inr ⟨_, rfl, _, rfl, _, rfl, _, _, rfl, rfl, _, rfl, l, us, rfl, .inl (.inl (.inl (se _ _ el))), _, _, rfl, rfl, p, _, _, rfl, Te.hp, by omega, by omega, log_i (k := 20) (by omega) (by omega) (by decide) (by decide), fun H6 j b6 hp6 j0 j1 => ⟨_, _, rfl, ?_⟩⟩⟩
      have T6 := Te.bu b6 hp6
      rw [eqv_nil44]
      obtain ⟨m, hme, hm5⟩ : ∃ m : Nat, (if j > (if (S.map cD).isEmpty = true then 1 else 0) then j else (if (S.map cD).isEmpty = true then (1 : Int) else 0)) = (m : Nat) ∧ m + S.length ≤ 5 := by
        cases S with
        | nil =>
          refine ⟨if j > 1 then j.toNat else 1, ?_, ?_⟩
          · show (if j > 1 then j else 1) = _
            split <;> omega
          · rw [List.length_nil]
            split <;> omega
        | cons e S =>
          refine ⟨j.toNat, ?_, ?_⟩
          · show (if j > 0 then j else 0) = _
            split <;> omega
          · rw [List.length_cons] at hul h5 ⊢
            omega
      rw [hme]
      refine ⟨_, rfl, by omega, by omega, ?_⟩
      rw [Int.toNat_natCast]
      refine for_range (lo := 0) (n := m) (fun k σ' H' => ∃ (S' : List Cls2) (y8 y9 : Option V), σ' = [some (.ref p), some (.int 5), some (.ref r), some (.ref l), some (.int (c : Nat)), y5, y6, y7, y8, y9] ∧ Sm44 K p l r H H' (n + 21 + 3 * k) S' ∧ S'.length = S.length + k) ⟨S, _, _, rfl, ⟨T6.b, T6.hp.up (by omega), T6.nl, T6.npl, T6.nrl, T6.nrp, T6.er, T6.el, T6.cl⟩, rfl⟩ ?_ ?_
      · rintro k σ' H7 hk ⟨S', y8, y9, rfl, T7, hl7⟩
        dsimp only [gName]
        refine ⟨_, rfl, _, rfl, _, rfl, p, 60, _, rfl, T7.hp, by omega, by decide, by decide, fun H8 i b8 hp8 i0 i1 => ⟨_, _, rfl, rfl, _, _, rfl, rfl, ⟨by decide, by decide, by decide⟩, (by show 3 ≤ sizeLine; decide), fun e1 ne1 => ?_⟩⟩
        have T8 := T7.bu b8 hp8
        have T9 := T8.same (same_put (o := .lst [.int (1 + i), .int 999983, .int (10 ^ (6 : Int).toNat)]) ne1)
        refine ⟨r, e1, _, _, rfl, rfl, T9.er, upd_same, (by show 14 + 3 ≤ sizeLine; decide), fun e2 ne2 => ?_⟩
        have T10 := T9.same (same_put (o := .lst (perL ++ [.int (1 + i), .int 999983, .int (10 ^ (6 : Int).toNat)])) ne2)
        refine ⟨p, e2, _, _, rfl, T10.hp, by omega, T9.hp.ne ne2, .inl (.inl upd_same), by simp, (by show 17 ≤ 1000000; decide), fun H11 v b11 hp11 hvm => ?_⟩
        have T11 := T10.bu b11 hp11
        obtain ⟨x, rfl, x1, x6⟩ : ∃ x : Nat, v = .int (x : Nat) ∧ 1 ≤ x ∧ x ≤ 1000000 := by
          unfold perL at hvm
          simp only [List.cons_append, List.nil_append, List.mem_cons, List.not_mem_nil, or_false] at hvm
          rcases hvm with rfl | rfl | rfl | rfl | rfl | rfl | rfl | rfl | rfl | rfl | rfl | rfl | rfl | rfl | rfl | rfl | rfl
          · exact ⟨1, rfl, by decide, by decide⟩
          · exact ⟨2, rfl, by decide, by decide⟩
          · exact ⟨3, rfl, by decide, by decide⟩
          · exact ⟨4, rfl, by decide, by decide⟩
          · exact ⟨5, rfl, by decide, by decide⟩
          · exact ⟨6, rfl, by decide, by decide⟩
          · exact ⟨8, rfl, by decide, by decide⟩
          · exact ⟨12, rfl, by decide, by decide⟩
          · exact ⟨16, rfl, by decide, by decide⟩
          · exact ⟨24, rfl, by decide, by decide⟩
          · exact ⟨48, rfl, by decide, by decide⟩
          · exact ⟨7, rfl, by decide, by decide⟩
          · exact ⟨9, rfl, by decide, by decide⟩
          · exact ⟨10, rfl, by decide, by decide⟩
          · exact ⟨(1 + i).toNat, by rw [Int.toNat_of_nonneg (by omega)], by omega, by omega⟩
          · exact ⟨999983, rfl, by decide, by decide⟩
          · exact ⟨1000000, by rw [show (10 : Int) ^ (6 : Int).toNat = ((1000000 : Nat) : Int) by decide], by decide, by decide⟩
        obtain ⟨us', el', da'⟩ := T11.el
        have hul' := daAll_len da'
        rw [List.length_map] at hul'
        dsimp only [gName]
        refine ⟨_, rfl, .inl ⟨rfl, _, .inl (.inl el')⟩, _, rfl, _, rfl, _, rfl, p, _, _, rfl, T11.hp, by omega, by omega, log_i (k := 20) (by omega) (by omega) (by decide) (by decide), fun H12 d b12 hp12 d0 d1 => ⟨(by show 2 ≤ sizeLine; decide), fun t nt => ?_⟩⟩
        have T12 := T11.bu b12 hp12
        obtain ⟨us2, el2, da2⟩ := T12.el
        have hul2 := daAll_len da2
        rw [List.length_map] at hul2
        obtain ⟨d, rfl⟩ : ∃ a : Nat, d = (a : Nat) := ⟨d.toNat, by omega⟩
        have T13 := T12.snoc (e := (x, d)) nt el2 da2 (by show 0 < x; omega) (by show d < x; omega)
        refine ⟨l, us2, _, rfl, rfl, same_put nt _ _ el2, by omega, _, _, _, rfl, T13, ?_⟩
        rw [List.length_append, hl7]
        rfl
      · rintro σ' H7 ⟨S', y8, y9, rfl, T7, hl7⟩
        obtain ⟨us', el', da'⟩ := T7.el
        have hul' := daAll_len da'
        rw [List.length_map] at hul'
        refine ⟨_, rfl, _, rfl, _, rfl, p, l, us', _, rfl, T7.hp, by omega, T7.npl, .inl (.inl el'), by omega, fun H8 l4 ys b4 hp4 nl4 npl4 el4 pm => ?_⟩
        obtain ⟨S2, pS, dS⟩ := da_perm pm da'
        have hd4 := DaAll.kt (T7.hp.kt b4) (tup_cD S2) dS
        refine ⟨l4, ys, rfl, .inl ⟨.inl (.inl el4), fun t4 nt4 => ⟨(by show 2 ≤ sizeLine; decide), fun t5 nt5 => ?_⟩⟩⟩
        have s4 := same_put (o := .tup ys) nt4
        have s5 := same_put (o := .tup [.int (c : Nat), .ref t4]) nt5
        refine q _ t5 _ (.ref t4) S2 (T7.b.trans (b4.trans ((Bu.of s4).trans (Bu.of s5)))) (((hp4.same s4).same s5).up (by omega)) upd_same (.tup (.inl (.inl (s5 _ _ upd_same))) ((hd4.mono s4).mono s5)) (by rw [pS.length_eq]; omega) (T7.cl.perm pS)
    · refine ⟨_, rfl, p, 3, _, rfl, T3.hp, by omega, by decide, by decide, fun H4 j b4 hp4 j0 j3 => ⟨rfl, _, rfl, ite2 (fun ej => ?_) (fun ej => ?_)⟩⟩
      · have T4 := T3.bu b4 hp4
        have hb : (if (5 : Int) < (c : Nat) then (5 : Int) else (c : Nat)) + 1 = ((min c 5 + 1 : Nat) : Int) := by
          split <;> omega
        refine ⟨_, rfl, lcF_rng2 (a := 1) (b := min c 5 + 1) (fun v => match v with | .int i => decide (((c : Nat) : Int) % i = 0) | _ => false) (fun v => v) (fun Q hq => ⟨_, rfl, _, rfl, _, _, rfl, _, _, rfl, rfl, (show Q [.int 1, .int ((if (5 : Int) < (c : Nat) then (5 : Int) else (c : Nat)) + 1)] H4 by rw [hb]; exact hq)⟩) (by decide) (by omega) (fun x hx H' N R s' hN hR => ?_) (fun H5 D s5 nD eD => ?_)⟩
        · obtain ⟨a, ha, rfl⟩ := List.mem_map.mp hx
          have ha := rgN_mem.mp ha
          refine ⟨rfl, _, rfl, _, rfl, _, _, rfl, rfl, (by show (0 : Int) < ((a : Nat) : Int); omega), rfl, _, rfl, ite2 (fun e => ⟨_, rfl, hR ?_ _ Same.rfl'⟩) (fun e => hN ?_ _ Same.rfl')⟩
          · exact decide_eq_true (V.int.inj (of_decide_eq_true e))
          · exact decide_eq_false fun z => e (decide_eq_true (congrArg V.int z))
        · have T5 := T4.same s5
          refine ⟨p, D, _, _, rfl, T5.hp, by omega, T4.hp.ne nD, .inl (.inl eD), ?_, ?_, fun H6 v b6 hp6 hvm => ?_⟩
          · exact List.ne_nil_of_mem (a := nV 1) (List.mem_map.mpr ⟨nV 1, List.mem_filter.mpr ⟨List.mem_map.mpr ⟨1, rgN_mem.mpr (by omega), rfl⟩, decide_eq_true (by show ((c : Nat) : Int) % ((1 : Nat) : Int) = 0; omega)⟩, rfl⟩)
          · rw [List.length_map]
            refine Nat.le_trans (List.length_filter_le _ _) ?_
            rw [List.length_map, rgN_len]
            omega
          have T6 := T5.bu b6 hp6
          obtain ⟨st, rfl, st1, st5⟩ : ∃ a : Nat, v = .int (a : Nat) ∧ 1 ≤ a ∧ a ≤ 5 := by
            obtain ⟨v', hv', rfl⟩ := List.mem_map.mp hvm
            obtain ⟨a, ha, rfl⟩ := List.mem_map.mp (List.mem_filter.mp hv').1
            have ha := rgN_mem.mp ha
            exact ⟨a, rfl, by omega, by omega⟩
          dsimp only [gName]
          refine ⟨_, rfl, _, rfl, by omega, by omega, fun L nL => ?_⟩
          rw [Int.toNat_natCast]
          refine lc_range (lo := 0) (n := st) (fun k H' => ∃ S : List Cls2, Sm44 K p L r H H' (n + 4 + k) S ∧ S.length = k) ⟨[], (T6.other nL).bu Bu.refl ((T6.hp.new nL).up (by omega)), rfl⟩ ?_ ?_
          · rintro k H7 hk ⟨S, T7, hl7⟩
            refine ⟨rfl, ?_⟩
            refine ⟨_, rfl, _, rfl, (by show 3 ≤ sizeLine; decide), fun e ne => ⟨p, e, _, _, rfl, T7.hp.new ne, by omega, T7.hp.ne ne, .inl (.inl upd_same), by simp, by show 3 ≤ 1000000; decide, fun H8 v b8 hp8 hvm => ?_⟩⟩
            have T8 := (T7.same (same_put ne)).bu b8 hp8
            obtain ⟨m, rfl, m1, m7⟩ : ∃ a : Nat, v = .int (a : Nat) ∧ 1 ≤ a ∧ a ≤ 7 := by
              simp only [List.mem_cons, List.not_mem_nil, or_false] at hvm
              rcases hvm with rfl | rfl | rfl
              · exact ⟨1, rfl, by decide, by decide⟩
              · exact ⟨1, rfl, by decide, by decide⟩
              · exact ⟨7, rfl, by decide, by decide⟩
            refine ⟨_, _, rfl, rfl, wide_mul (a := 3) (b := 3) (by rw [Int.natAbs_natCast]; omega) (by rw [Int.natAbs_natCast]; omega) (by decide) (by decide) (by decide), _, rfl, (by show 2 ≤ sizeLine; decide), fun t nt => ?_⟩
            obtain ⟨us, el, da⟩ := T8.el
            have hul := daAll_len da
            rw [List.length_map] at hul
            have hle : st ≤ st * m := Nat.le_mul_of_pos_right st (by omega)
            have T9 := T8.snoc (e := (st * m, k)) nt el da (by show 0 < st * m; omega) (by show k < st * m; omega)
            have e9 : (HO.tup [.int (((st : Nat) : Int) * ((m : Nat) : Int)), .int (0 + ((k : Nat) : Int))]) = .tup [.int ((st * m : Nat) : Int), .int ((k : Nat) : Int)] := by
              rw [Int.natCast_mul, Int.zero_add]
            have e10 := same_put (o := .tup [.int (((st : Nat) : Int) * ((m : Nat) : Int)), .int (0 + ((k : Nat) : Int))]) nt _ _ el
            refine ⟨us, e10, by omega, _, by rw [e9]; exact T9, ?_⟩
            rw [List.length_append, hl7]
            rfl
          · rintro H7 ⟨S, T7, hl7⟩
            dsimp only [gName]
            refine ⟨_, rfl, p, 3, _, rfl, T7.hp, by omega, by decide, by decide, fun H8 i b8 hp8 i0 i1 => ⟨rfl, _, rfl, ite2 (fun ei => ?_) (fun ei => ?_)⟩⟩
            · have T8 := T7.bu b8 hp8
              obtain ⟨us, el, da⟩ := T8.el
              have hul := daAll_len da
              rw [List.length_map] at hul
              refine ⟨_, rfl, .inl ⟨rfl, _, .inl (.inl el)⟩, _, rfl, _, rfl, L, us, rfl, .inl (.inl (.inl el)), p, _, _, rfl, T8.hp, by omega, by omega, log_i (k := 20) (by omega) (by omega) (by decide) (by decide), fun H9 j b9 hp9 j0 j1 => ?_⟩
              have T9 := T8.bu b9 hp9
              obtain ⟨us2, el2, da2⟩ := T9.el
              have hul2 := daAll_len da2
              rw [List.length_map] at hul2
              obtain ⟨j, rfl⟩ : ∃ a : Nat, j = (a : Nat) := ⟨j.toNat, by omega⟩
              have hj : j < us2.length := by omega
              refine ⟨L, us2, _, j, us2[j], rfl, rfl, el2, by omega, by omega, seq_nn (by omega) (by omega), List.getElem?_eq_getElem hj, ?_⟩
              refine cont _ _ ⟨L, S.eraseIdx j, _, _, _, rfl, ?_, ?_⟩
              · have T10 := T9.put el2 (da_erase j da2) ⟨fun x hx => T9.cl.pos x (List.mem_of_mem_eraseIdx hx), fun x hx => T9.cl.lt x (List.mem_of_mem_eraseIdx hx)⟩
                exact T10.bu Bu.refl (T10.hp.up (by omega))
              · rw [List.length_eraseIdx_of_lt (by omega)]
                omega
            · exact cont _ _ ⟨L, S, _, _, _, rfl, T7.bu b8 (hp8.up (by omega)), by omega⟩
      · exact cont _ _ ⟨l, [], _, _, _, rfl, T3.bu b4 (hp4.up (by omega)), by decide⟩
end
end Ev

/-! ## k44: great covers -/
namespace Ev
open PySem PySem.Spec PyProof.Rows L2
theorem meet2 {P s r : Nat} (h : s % 2 = r) : meetB (P, s) (2, r) = true := by
  unfold meetB
  refine decide_eq_true ?_
  show (((s : Nat) : Int) - ((r : Nat) : Int)) % ((Nat.gcd P 2 : Nat) : Int) = 0
  have h1 : Nat.gcd P 2 ∣ 2 := Nat.gcd_dvd_right _ _
  have h2 := Nat.le_of_dvd (by decide) h1
  have h3 : Nat.gcd P 2 ≠ 0 := fun z => by
    have := Nat.eq_zero_of_gcd_eq_zero_right z
    omega
  obtain e | e : Nat.gcd P 2 = 1 ∨ Nat.gcd P 2 = 2 := by omega
  · rw [e]
    omega
  · rw [e]
    omega
theorem ex_one {P s : Nat} (h : 2 ≤ P) : exB [(P, s)] = false := by
  unfold exB sumW prodP
  have e : decide ((List.map (fun e : Cls2 => (List.foldl (fun w e => w * e.1) 1 [((P, s) : Cls2)]) / e.1) [(P, s)]).sum = List.foldl (fun w e => w * e.1) 1 [((P, s) : Cls2)]) = false := by
    refine decide_eq_false fun z => ?_
    have z : 1 * P / P + 0 = 1 * P := z
    rw [Nat.one_mul, Nat.div_self (by omega)] at z
    omega
  rw [e, Bool.and_false]
theorem ex_whole : exB [(1, 0)] = true := by decide +kernel
theorem ex_meet {S : List Cls2} (h : ¬ noMeet S) : exB S = false := by
  unfold exB
  rw [decide_eq_false h, Bool.false_and]
theorem ex_two {P s : Nat} : exB [(2, s % 2), (P, s)] = false := ex_meet fun h => by
  have := (List.pairwise_cons.mp h).1 (P, s) (List.mem_singleton.mpr rfl)
  rw [meet2 rfl] at this
  cases this
theorem ex_three {P s : Nat} : exB [(2, 0), (2, 1), (P, s)] = false := ex_meet fun h => by
  obtain ⟨h1, h2⟩ := List.pairwise_cons.mp h
  obtain ⟨h3, _⟩ := List.pairwise_cons.mp h2
  obtain e | e : s % 2 = 0 ∨ s % 2 = 1 := by omega
  · have := h1 (P, s) (by simp)
    rw [meet2 e] at this
    cases this
  · have := h3 (P, s) (by simp)
    rw [meet2 e] at this
    cases this
def spGr44 : Sp := fun vs H Q _ => ∃ (p : Addr) (n : Nat), vs = [.ref p] ∧ PotA p n H ∧ n + 2 ≤ 9000000 ∧ ∀ H', Bu p H H' → PotA p (n + 2) H' → Q (.bl true) H'
theorem scGr44 : FnScope ["_law_draws_here", "_law_period", "_law_start"] ["_law_draws_here"] (defScope (topS 17)) := ⟨rfl, rfl, rfl, by decide +kernel, rfl, by decide +kernel, by decide +kernel⟩
section
variable {P : Program} {w : World} {K : PySem.W.Frag} {mg : Str → Option Value} {base : Heap}
theorem ok_gr44 (D : Def K mg "_law_great_right" (topS 17) ["_law_draws_here"]) (C__law_below : Cal P w K mg base 1 "_law_below" ["_law_draws_here", "_law_many"] spDraw) (C__law_pick : Cal P w K mg base 2 "_law_pick" ["_law_draws_here", "_law_items"] (spPick K))
    (C_is_exact_cover : Cal P w K mg base 3 "is_exact_cover" ["samplers"] (spEx K)) (nb : NB mg) : Cal P w K mg base 4 "_law_great_right" ["_law_draws_here"] spGr44 := by
  refine D.ok scGr44 (fun vs H Q E h => ?_) (fun fa cdv A outer sh H vs Q E hr gd h => ?_)
  · obtain ⟨p, n, rfl, _⟩ := h
    rfl
  · obtain ⟨p, n, rfl, hp, hn, q⟩ := h
    refine ⟨_, (pss_cons (ps_set (i := 1) scGr44.nd rfl (.inl rfl) (pcall C__law_pick (hr.mono (by omega)) gd (by rfl) (pa_cons (pv 0) (pa_cons (pe_lst (pa_cons (pe_op op_pow pe_int pe_int) (pa_cons pe_int (pa_cons pe_int pa_nil)))) pa_nil))))
      (pss_cons (ps_set (i := 2) scGr44.nd rfl (.inl rfl) (pcall C__law_below (hr.mono (by omega)) gd (by rfl) (pa_cons (pv 0) (pa_cons (pv 1) pa_nil))))
      (pss_cons (ps_if (PW.pt (pw_or (pt_cmp (pc_notB (pcall C_is_exact_cover (hr.mono (by omega)) gd (by rfl) (pa_cons (pe_tup (pa_cons (pe_tup (pa_cons (pv 1) (pa_cons (pv 2) pa_nil))) pa_nil)) pa_nil))) rfl) (pw_or1 (pt_cmp (pc_notB (pcall C_is_exact_cover (hr.mono (by omega)) gd (by rfl) (pa_cons (pe_tup (pa_cons (pe_tup (pa_cons pe_int (pa_cons pe_int pa_nil))) pa_nil)) pa_nil))) rfl))))
        (pss_one (ps_ret pe_bl))
        pss_nil)
      (pss_cons (ps_if (pt_cmp (pc_notB (pcall C_is_exact_cover (hr.mono (by omega)) gd (by rfl) (pa_cons (pe_tup (pa_cons (pe_tup (pa_cons pe_int (pa_cons (pe_op op_mod (pv 2) pe_int) pa_nil))) (pa_cons (pe_tup (pa_cons (pv 1) (pa_cons (pv 2) pa_nil))) pa_nil))) pa_nil))) rfl)
        (pss_one (ps_ret pe_bl))
        pss_nil)
      (pss_one (ps_ret (pe_cmp (pc_isB (pcall C_is_exact_cover (hr.mono (by omega)) gd (by rfl) (pa_cons (pe_tup (pa_cons (pe_tup (pa_cons pe_int (pa_cons pe_int pa_nil))) (pa_cons (pe_tup (pa_cons pe_int (pa_cons pe_int pa_nil))) (pa_cons (pe_tup (pa_cons (pv 1) (pa_cons (pv 2) pa_nil))) pa_nil)))) pa_nil))) rfl))))))), ?_⟩
    have sl := sizeLine_eq
    refine ⟨_, rfl, _, _, rfl, rfl, ⟨by decide, by decide, by decide⟩, (by show 3 ≤ sizeLine; decide), fun q1 nq1 => ⟨p, q1, _, _, rfl, hp.new nq1, by omega, hp.ne nq1, .inl (.inl upd_same), by simp, by show 3 ≤ 1000000; decide, fun H1 v b1 hp1 hvm => ?_⟩⟩
    have B1 := (Bu.of (p := p) (same_put (o := .lst [.int (10 ^ (6 : Int).toNat), .int 999983, .int 524288]) nq1)).trans b1
    obtain ⟨x, rfl, x2, x6⟩ : ∃ x : Nat, v = .int (x : Nat) ∧ 2 ≤ x ∧ x ≤ 1000000 := by
      simp only [List.mem_cons, List.not_mem_nil, or_false] at hvm
      rcases hvm with rfl | rfl | rfl
      · exact ⟨1000000, by rw [show (10 : Int) ^ (6 : Int).toNat = ((1000000 : Nat) : Int) by decide], by decide, by decide⟩
      · exact ⟨999983, rfl, by decide, by decide⟩
      · exact ⟨524288, rfl, by decide, by decide⟩
    dsimp only [gName]
    refine ⟨_, rfl, _, rfl, p, _, _, rfl, hp1, by omega, by omega, log_i (k := 20) (by omega) (by omega) (by decide) (by decide), fun H2 d b2 hp2 d0 d1 => ?_⟩
    obtain ⟨d, rfl⟩ : ∃ a : Nat, d = (a : Nat) := ⟨d.toNat, by omega⟩
    dsimp only [gName]
    have bd : ∀ {T : List Cls2}, (∀ e ∈ T, e = (1, 0) ∨ (∃ r, e = (2, r)) ∨ e = (x, d)) → ∀ e ∈ T, 0 < e.1 ∧ e.1 < 2 ^ 60 := fun {T} h e he => by
      rcases h e he with rfl | ⟨r, rfl⟩ | rfl
      · exact ⟨by decide, by decide⟩
      · exact ⟨(by show 0 < 2; decide), (by show 2 < 2 ^ 60; decide)⟩
      · exact ⟨(by show 0 < x; omega), (by show x < 2 ^ 60; omega)⟩
    refine ⟨_, rfl, _, rfl, (by show 2 ≤ sizeLine; decide), fun t1 n1 => ⟨(by show 1 ≤ sizeLine; decide), fun t2 n2 => ⟨.ref t2, [(x, d)], rfl, ?_, bd (by simp), (by show 1 ≤ 40; decide), fun H3 s3 => ⟨_, rfl, _, rfl, ?_⟩⟩⟩⟩
    · exact .tup (xs := [.ref t1]) (.inl (.inl upd_same)) (.cons ((da_pr (e := (x, d)) upd_same).mono (same_put n2)) .nil)
    have s23 := ((same_put n1).trans (same_put n2)).trans s3
    rw [ex_one x2]
    refine iteF ⟨(by show 2 ≤ sizeLine; decide), fun t3 n3 => ⟨(by show 1 ≤ sizeLine; decide), fun t4 n4 => ⟨.ref t4, [(1, 0)], rfl, ?_, bd (by simp), (by show 1 ≤ 40; decide), fun H4 s4 => ⟨_, rfl, _, rfl, ?_⟩⟩⟩⟩
    · exact .tup (xs := [.ref t3]) (.inl (.inl upd_same)) (.cons ((da_pr (e := (1, 0)) upd_same).mono (same_put n4)) .nil)
    have s24 := s23.trans (((same_put n3).trans (same_put n4)).trans s4)
    rw [ex_whole]
    refine iteF (⟨_, rfl, _, _, rfl, rfl, (by show (0 : Int) < 2; decide), (by show 2 ≤ sizeLine; decide), fun t5 n5 => ⟨_, rfl, _, rfl, (by show 2 ≤ sizeLine; decide), fun t6 n6 => ⟨(by show 2 ≤ sizeLine; decide), fun t7 n7 => ⟨.ref t7, [(2, d % 2), (x, d)], rfl, ?_, bd (by simp), (by show 2 ≤ 40; decide), fun H5 s5 => ⟨_, rfl, _, rfl, ?_⟩⟩⟩⟩⟩)
    · exact .tup (xs := [.ref t5, .ref t6]) (.inl (.inl upd_same)) (.cons ((da_pr (e := (2, d % 2)) (by rw [upd_same]; rfl)).mono ((same_put n6).trans (same_put n7))) (.cons ((da_pr (e := (x, d)) upd_same).mono (same_put n7)) .nil))
    have s25 := s24.trans ((((same_put n5).trans (same_put n6)).trans (same_put n7)).trans s5)
    rw [ex_two]
    refine iteF ⟨(by show 2 ≤ sizeLine; decide), fun t8 n8 => ⟨(by show 2 ≤ sizeLine; decide), fun t9 n9 => ⟨_, rfl, _, rfl, (by show 2 ≤ sizeLine; decide), fun t10 n10 => ⟨(by show 3 ≤ sizeLine; decide), fun t11 n11 => ⟨.ref t11, [(2, 0), (2, 1), (x, d)], rfl, ?_, bd (by simp), (by show 3 ≤ 40; decide), fun H6 s6 => ⟨_, rfl, ?_⟩⟩⟩⟩⟩⟩
    · exact .tup (xs := [.ref t8, .ref t9, .ref t10]) (.inl (.inl upd_same)) (.cons ((da_pr (e := (2, 0)) upd_same).mono (((same_put n9).trans (same_put n10)).trans (same_put n11))) (.cons ((da_pr (e := (2, 1)) upd_same).mono ((same_put n10).trans (same_put n11))) (.cons ((da_pr (e := (x, d)) upd_same).mono (same_put n11)) .nil)))
    rw [ex_three]
    have s26 := s25.trans (((((same_put n8).trans (same_put n9)).trans (same_put n10)).trans (same_put n11)).trans s6)
    exact q _ (B1.trans (b2.trans (Bu.of s26))) (hp2.same s26)
end
end Ev

/-! ## k44: the law -/
namespace Ev
open PySem PySem.Spec PyProof.Rows L2
def spLaw (K : PySem.W.Frag) : Sp := fun vs H Q _ => ∃ (a : Addr) (ns : List Int), vs = [.ref a] ∧ SqL K H a (ns.map V.int) ∧ ∀ H', Q (.bl true) H'
theorem scLaw44 : FnScope ["_law_script", "_law_k", "_law_draws_here", "_law_turn", "_law_some", "_law_part", "_law_bent", "_law_row"] ["_law_script"] (defScope (topS 18)) := ⟨rfl, rfl, rfl, by decide +kernel, rfl, by decide +kernel, by decide +kernel⟩
theorem bool_fit (c : Bool) : (PyData.bool c).showable = true ∧ (PyData.bool c).depth ≤ 64 ∧ (PyData.bool c).shown.length ≤ sizeLine := by
  cases c <;> decide +kernel
theorem row44 {K : PySem.W.Frag} {M : Nat} {S : List Cls2} {x : V} {D : Ends} {σ : L2.St} {H : Hp} (i7 : σ[7]? = some (some x)) (hx : Da K H x (.tuple (S.map cD))) (hv : Dv44 M S) (hM : M ≤ 100000) (hl : S.length ≤ 13) (nx : ∀ H', Same H H' → D.nx σ H') :
    tIfS (tTest (tOp rNe (tCB (rReprA K) (tCons (tCall (spEx K) [] E0 (tCons (tVar 7) tNil)) tNil)) (tCB (rReprA K) (tCons (tCall (spDue44 K) [] E0 (tCons (tVar 7) tNil)) tNil)))) (tRet (tC (V.bl false))) tNext D σ H := by
  have hb : ∀ e ∈ S, 0 < e.1 ∧ e.1 < 2 ^ 60 := fun e he => ⟨hv.cl.pos e he, Nat.lt_of_le_of_lt (hv.le he) (Nat.lt_of_le_of_lt hM (by decide))⟩
  obtain ⟨f1, f2, f3⟩ := bool_fit (exB S)
  obtain ⟨g1, g2, g3⟩ := bool_fit (dueB S)
  refine ⟨_, i7, x, S, rfl, hx, hb, by omega, fun H1 s1 => ⟨_, _, rfl, .bl _, f1, f2, f3, _, i7, x, S, rfl, hx.mono s1, hv.cl, fun e he => (hb e he).2, by omega, Nat.le_trans hv.lcm hM, fun H2 s2 => ⟨_, _, rfl, .bl _, g1, g2, g3, rfl, _, rfl, ?_⟩⟩⟩
  rw [ex_due hv.cl, decide_eq_true rfl]
  exact iteF (nx H2 (s1.trans s2))
theorem shp_tp (S : List Cls2) : SeqAt.shaped (.tuple (S.map cD)) = true := by
  have h := lay_cD S
  unfold SeqAt.shaped
  rw [PyData.canLay0, h.1, PyData.depth, Bool.true_and]
  exact decide_eq_true (by omega)
theorem nil_tp : SeqAt.shaped (.tuple []) = true := by decide +kernel
theorem eqv_tp (ds : List PyData) : PyData.eqv (.tuple ds) (.tuple []) = ds.isEmpty := by
  cases ds with
  | nil => rw [PyData.eqv, PyData.eqvAll]; rfl
  | cons d ds => rw [PyData.eqv, PyData.eqvAll]; rfl
theorem few13 : ∀ x, x < 13 → 0 < x → x ∣ 27720 := by decide
section
variable {P : Program} {w : World} {K : PySem.W.Frag} {mg : Str → Option Value} {base : Heap} {f : Addr} {fd : FuncData}
theorem ok_law44 (hm : ∃ mm, base.Ns sysModules mm) (F : Fun K "law" "law" (topS 18) f fd) (C__law_draws : Cal P w K mg base 1 "_law_draws" ["_law_script", "_law_k"] (spPotS K)) (C__law_split : Cal P w K mg base 3 "_law_split" ["_law_draws_here", "_law_most"] (spSp44 K))
    (C__law_samplers : Cal P w K mg base 3 "_law_samplers" ["_law_draws_here", "_law_many"] (spSam44 K)) (C__law_spoilt : Cal P w K mg base 2 "_law_spoilt" ["_law_draws_here", "_law_some"] (spSpo44 K)) (C__law_due : Cal P w K mg base 2 "_law_due" ["_law_some"] (spDue44 K))
    (C_is_exact_cover : Cal P w K mg base 3 "is_exact_cover" ["samplers"] (spEx K)) (C__law_great_right : Cal P w K mg base 4 "_law_great_right" ["_law_draws_here"] spGr44) (nb : NB mg) :
    FnG P w K mg base CX0 6 f fd ["_law_script"] (spLaw K) := by
  refine okG F scLaw44 (fun vs H Q E h => ?_) (fun cdv A outer s H vs Q E hr gd h => ?_)
  · obtain ⟨a, ns, rfl, _⟩ := h
    rfl
  · obtain ⟨a, ns, rfl, hS, q⟩ := h
    refine ⟨_, (pss_cons (ps_for PassesOwn.never rfl (pi_range1 rfl nb.at (pa_cons (pe_callB (call_max2 rfl) (by rfl) nb.at (by decide +kernel) (pa_cons pe_int (pa_cons (pe_callB (call_min2 rfl) (by rfl) nb.at (by decide +kernel) (pa_cons pe_int (pa_cons (pe_callB call_len_seq (by rfl) nb.at PySem.boot_len (pa_cons (pv 0) pa_nil)) pa_nil))) pa_nil))) pa_nil)) (pg_name (i := 1) scLaw44.nd rfl (Or.inl rfl))
        (pss_cons (ps_set (i := 2) scLaw44.nd rfl (.inl rfl) (pcall C__law_draws (hr.mono (by omega)) gd (by rfl) (pa_cons (pv 0) (pa_cons (pv 1) pa_nil))))
        (pss_cons (ps_for PassesOwn.never rfl (pi_range1 rfl nb.at (pa_cons pe_int pa_nil)) (pg_name (i := 3) scLaw44.nd rfl (Or.inl rfl))
          (pss_cons (ps_set (i := 4) scLaw44.nd rfl (.inl rfl) (pcall C__law_split (hr.mono (by omega)) gd (by rfl) (pa_cons (pv 2) (pa_cons pe_int pa_nil))))
          (pss_cons (ps_if (pt_cmpR op_eq (pv 3) pe_int (nomark _))
            (pss_one (ps_set (i := 4) scLaw44.nd rfl (.inl rfl) (pe_callTy call_tuple_of (by rfl) nb.at (by decide +kernel) (pa_cons (pe_lc (own := [("_law_part", 5)]) (g := (gName 5)) (tt := (tTest (tOp (rI0 fun i j => .bl (decide (i < j))) (tOp (rIxT K) (tVar 5) (tC (.int 0))) (tC (.int 13))))) (te := (tTup (tCons (tOp (rIxT K) (tVar 5) (tC (.int 0))) (tCons (tOp (rIxT K) (tVar 5) (tC (.int 1))) tNil)))) rfl scLaw44.nd (pi_tup (pe_ix ix_tup (pcall C__law_samplers (hr.mono (by omega)) gd (by rfl) (pa_cons (pv 2) (pa_cons pe_int pa_nil))) pe_int (fun _ _ => rfl))) (blkOk_by (N := ["_law_script", "_law_k", "_law_draws_here", "_law_turn", "_law_some", "_law_part", "_law_bent", "_law_row"]) (sc := defScope (topS 18)) (by decide +kernel)) (fun _ _ _ _ _ => (pg_name (i := 5) scLaw44.nd rfl (Or.inl rfl))) (fun _ _ _ _ _ => pts_one (pt_cmpR op_lt (pe_ix ix_tup (pv 5) pe_int (fun _ _ => rfl)) pe_int (nomark _))) (fun _ _ _ _ _ => (pe_tup (pa_cons (pe_ix ix_tup (pv 5) pe_int (fun _ _ => rfl)) (pa_cons (pe_ix ix_tup (pv 5) pe_int (fun _ _ => rfl)) pa_nil))))) pa_nil))))
            pss_nil)
          (pss_cons (ps_set (i := 6) scLaw44.nd rfl (.inl rfl) (pe_ifExp (pt_cmpR (op_neD hr.units) (pv 4) (pe_tup pa_nil) (nomark _)) (pcall C__law_spoilt (hr.mono (by omega)) gd (by rfl) (pa_cons (pv 2) (pa_cons (pv 4) pa_nil))) (pe_tup (pa_cons (pe_tup (pa_cons pe_int (pa_cons pe_int pa_nil))) pa_nil))))
          (pss_one (ps_for PassesOwn.never rfl (pi_tup (pe_tup (pa_cons (pe_ifExp (pt_cmpR (op_neD hr.units) (pv 4) (pe_tup pa_nil) (nomark _)) (pv 4) (pe_tup (pa_cons (pe_tup (pa_cons pe_int (pa_cons pe_int pa_nil))) pa_nil))) (pa_cons (pv 6) pa_nil)))) (pg_name (i := 7) scLaw44.nd rfl (Or.inl rfl))
            (pss_one (ps_if (pt_cmpR op_ne (pe_callB (call_reprA hm gd (hu70 hr)) (by rfl) nb.at (by decide +kernel) (pa_cons (pcall C_is_exact_cover (hr.mono (by omega)) gd (by rfl) (pa_cons (pv 7) pa_nil)) pa_nil)) (pe_callB (call_reprA hm gd (hu70 hr)) (by rfl) nb.at (by decide +kernel) (pa_cons (pcall C__law_due (hr.mono (by omega)) gd (by rfl) (pa_cons (pv 7) pa_nil)) pa_nil)) (nomark _))
              (pss_one (ps_ret pe_bl))
              pss_nil))))))))
        (pss_one (ps_if (pt_not (pt_val (pcall C__law_great_right (hr.mono (by omega)) gd (by rfl) (pa_cons (pv 2) pa_nil))))
          (pss_one (ps_ret pe_bl))
          pss_nil)))))
      (pss_one (ps_ret pe_bl))), ?_⟩
    have y := sizeLine_eq
    refine ⟨_, rfl, a, _, rfl, .inl hS, 3, _, rfl, 1, _, rfl, _, rfl, (mm_at _ (mm_le _)).1, (mm_at _ (mm_le _)).2.1, for_range (lo := 0) (fun i σ' H' => ∃ y1 y2 y3 y4 y5 y6 y7 : Option V, σ' = [some (.ref a), y1, y2, y3, y4, y5, y6, y7] ∧ SqL K H' a (ns.map V.int))
      ⟨_, _, _, _, _, _, _, rfl, hS⟩ ?_ ?_⟩
    · rintro i σ' H1 hi ⟨y1, y2, y3, y4, y5, y6, y7, rfl, hS1⟩
      have hi3 : i < 3 := Nat.lt_of_lt_of_le hi (mm_at _ (mm_le _)).2.2
      refine ⟨_, rfl, _, rfl, a, ns, _, rfl, hS1, by omega, by omega, fun Hs p np ss hps => ?_⟩
      refine ⟨_, rfl, by decide, by decide, ?_⟩
      refine for_range (lo := 0) (n := 6) (fun j σ' H' => ∃ y3 y4 y5 y6 y7 : Option V, σ' = [some (.ref a), some (.int (0 + (i : Int))), some (.ref p), y3, y4, y5, y6, y7] ∧ Bu p Hs H' ∧ PotA p (110 * j) H')
        ⟨_, _, _, _, _, rfl, Bu.refl, hps⟩ ?_ ?_
      · rintro j σ' H2 hj ⟨z3, z4, z5, z6, z7, rfl, b2, hp2⟩
        refine ⟨_, rfl, p, _, rfl, hp2, by omega, fun H3 u S b3 hp3 hu h1 h12 ⟨M, hM, hv⟩ => ?_⟩
        dsimp only [gName]
        refine cut_s44 (fun σ' H' => ∃ (u : V) (S : List Cls2) (M : Nat) (w3 w5 : Option V), σ' = [some (.ref a), some (.int (0 + (i : Int))), some (.ref p), w3, some u, w5, z6, z7] ∧ Bu p Hs H' ∧ PotA p (110 * j + 100) H' ∧ Da K H' u (.tuple (S.map cD)) ∧ Dv44 M S ∧ M ≤ 50000 ∧ S.length ≤ 12) ?_ (fun cont => ?_)
        · rintro σ' H4 ⟨u, S, M, w3, w5, rfl, b4, hp4, hu, hv, hM, h12⟩
          have ex : ∃ aa xs, u = .ref aa ∧ SqT K H4 aa xs := by
            cases hu with
            | @tup aa xs _ hq hall => exact ⟨aa, xs, rfl, hq⟩
          refine cut_s44 (fun σ' H' => ∃ (u6 : V) (S6 : List Cls2) (M6 : Nat), σ' = [some (.ref a), some (.int (0 + (i : Int))), some (.ref p), w3, some u, w5, some u6, z7] ∧ Bu p Hs H' ∧ PotA p (110 * j + 105) H' ∧ Da K H' u (.tuple (S.map cD)) ∧ Da K H' u6 (.tuple (S6.map cD)) ∧ Dv44 M6 S6 ∧ M6 ≤ 100000 ∧ S6.length ≤ 13) ?_ (fun cont => ?_)
          · rintro σ' H5 ⟨u6, S6, M6, rfl, b5, hp5, hu5, hu6, hv6, hM6, h13⟩
            refine ⟨_, rfl, Nat.zero_le _, fun e ne => ?_⟩
            have se := same_put (o := .tup []) ne
            refine ⟨_, _, da_dp2 (by rw [tupD]; exact tup_cD S) (hu5.mono se), .tup (.inl (.inl upd_same)) .nil, shp_tp S, nil_tp, _, rfl, ?_⟩
            rw [eqv_tp]
            cases S with
            | nil =>
              refine iteF ⟨(by show 2 ≤ sizeLine; decide), fun t1 n1 => ⟨(by show 1 ≤ sizeLine; decide), fun t2 n2 => ?_⟩⟩
              have s12 := (same_put (o := .tup [.int 3, .int 0]) n1).trans (same_put (o := .tup [.ref t1]) n2)
              have h3 : Da K (upd (upd (upd H5 e (.tup [])) t1 (.tup [.int 3, .int 0])) t2 (.tup [.ref t1])) (.ref t2) (.tuple (([(3, 0)] : List Cls2).map cD)) := .tup (xs := [.ref t1]) (.inl (.inl upd_same)) (.cons ((da_pr (e := (3, 0)) upd_same).mono (same_put n2)) .nil)
              have sx := se.trans s12
              generalize upd (upd (upd H5 e (.tup [])) t1 (.tup [.int 3, .int 0])) t2 (.tup [.ref t1]) = H6 at h3 sx ⊢
              refine ⟨_, rfl, (by show 2 ≤ sizeLine; decide), fun t3 n3 => ⟨t3, rfl, ⟨_, .inl (.inl upd_same)⟩, for_tup (K := K) (a := t3) (xs := [.ref t2, u6]) (fun k σ' H' => ∃ z7 : Option V, σ' = [some (.ref a), some (.int (0 + (i : Int))), some (.ref p), w3, some u, w5, some u6, z7] ∧ Same (upd H6 t3 (.tup [.ref t2, u6])) H') ⟨_, rfl, Same.rfl'⟩ (fun k σ' H' _ ⟨_, _, s'⟩ => seqT_mono s' (.inl (.inl upd_same))) ?_ ?_⟩⟩
              · rintro k v σ' H7 hk ⟨z, rfl, s7⟩
                have s57 := sx.trans ((same_put n3).trans s7)
                rcases List.mem_cons.mp (List.mem_of_getElem? hk) with rfl | hm
                · exact row44 rfl (h3.mono ((same_put n3).trans s7)) (M := 3) ⟨⟨by decide, by decide⟩, by decide, by decide⟩ (by decide) (by decide) (fun H' s8 => ⟨_, rfl, s7.trans s8⟩)
                · rw [List.mem_singleton.mp hm]
                  exact row44 rfl (hu6.mono s57) hv6 hM6 h13 (fun H' s8 => ⟨_, rfl, s7.trans s8⟩)
              · rintro σ' H7 ⟨z, rfl, s7⟩
                have s57 := sx.trans ((same_put n3).trans s7)
                exact ⟨_, _, _, _, _, rfl, b5.trans (Bu.of s57), (hp5.same s57).up (by omega)⟩
            | cons s0 S =>
              generalize upd H5 e (.tup []) = H6 at se ⊢
              refine iteT ⟨_, rfl, _, rfl, (by show 2 ≤ sizeLine; decide), fun t3 n3 => ⟨t3, rfl, ⟨_, .inl (.inl upd_same)⟩, for_tup (K := K) (a := t3) (xs := [u, u6]) (fun k σ' H' => ∃ z7 : Option V, σ' = [some (.ref a), some (.int (0 + (i : Int))), some (.ref p), w3, some u, w5, some u6, z7] ∧ Same (upd H6 t3 (.tup [u, u6])) H') ⟨_, rfl, Same.rfl'⟩ (fun k σ' H' _ ⟨_, _, s'⟩ => seqT_mono s' (.inl (.inl upd_same))) ?_ ?_⟩⟩
              · rintro k v σ' H7 hk ⟨z, rfl, s7⟩
                have s57 := se.trans ((same_put n3).trans s7)
                rcases List.mem_cons.mp (List.mem_of_getElem? hk) with rfl | hm
                · exact row44 rfl (hu5.mono s57) hv (by omega) (by omega) (fun H' s8 => ⟨_, rfl, s7.trans s8⟩)
                · rw [List.mem_singleton.mp hm]
                  exact row44 rfl (hu6.mono s57) hv6 hM6 h13 (fun H' s8 => ⟨_, rfl, s7.trans s8⟩)
              · rintro σ' H7 ⟨z, rfl, s7⟩
                have s57 := se.trans ((same_put n3).trans s7)
                exact ⟨_, _, _, _, _, rfl, b5.trans (Bu.of s57), (hp5.same s57).up (by omega)⟩
          · refine ⟨_, rfl, Nat.zero_le _, fun e ne => ?_⟩
            have se := same_put (o := .tup []) ne
            refine ⟨_, _, da_dp2 (by rw [tupD]; exact tup_cD S) (hu.mono se), .tup (.inl (.inl upd_same)) .nil, shp_tp S, nil_tp, _, rfl, ?_⟩
            rw [eqv_tp]
            cases S with
            | nil =>
              refine iteF ⟨(by show 2 ≤ sizeLine; decide), fun t1 n1 => ⟨(by show 1 ≤ sizeLine; decide), fun t2 n2 => ?_⟩⟩
              have s12 := (same_put (o := .tup [.int 2, .int 1]) n1).trans (same_put (o := .tup [.ref t1]) n2)
              refine cont _ _ ⟨.ref t2, [(2, 1)], 2, rfl, b4.trans (Bu.of (se.trans s12)), (hp4.same (se.trans s12)).up (by omega), hu.mono (se.trans s12), .tup (xs := [.ref t1]) (.inl (.inl upd_same)) (.cons ((da_pr (e := (2, 1)) upd_same).mono (same_put n2)) .nil), ⟨⟨by decide, by decide⟩, by decide, by decide⟩, by decide, by decide⟩
            | cons s0 S =>
              refine iteT ⟨_, rfl, _, rfl, p, u, s0 :: S, M, _, rfl, hp4.same se, by omega, hu.mono se, hv, hM, by rw [List.length_cons]; omega, h12, fun H5 u6 S6 b5 hp5 hu6 h13 hv6 => ?_⟩
              refine cont _ _ ⟨u6, S6, M * 2, rfl, b4.trans ((Bu.of se).trans b5), hp5.up (by omega), Da.kt ((hp4.same se).kt b5) (by rw [tupD]; exact tup_cD _) (hu.mono se), hu6, hv6, by omega, h13⟩
        · refine ⟨_, rfl, rfl, _, rfl, ite2 (fun ej => ?_) (fun ej => ?_)⟩
          · refine ⟨_, rfl, p, _, rfl, hp3, by omega, fun H4 t c u4 T b4 hp4 ht hu4 h5 hcl => ?_⟩
            obtain ⟨aa, xs, rfl, ht4, hall⟩ : ∃ aa xs, u4 = .ref aa ∧ SqT K H4 aa xs ∧ DaAll K H4 xs (T.map cD) := by
              cases hu4 with
              | @tup aa xs _ hq hall => exact ⟨aa, xs, rfl, hq, hall⟩
            have hxl := daAll_len hall
            rw [List.length_map] at hxl
            refine ⟨t, _, 1, .ref aa, rfl, rfl, .inl (.inl ht), rfl, aa, rfl, ⟨xs, ht4⟩, fun D nD => ?_⟩
            refine lc_tup (K := K) (a := aa) (xs := xs) (fun k H' => Same H4 H' ∧ ∃ us, H' D = some (.lst us) ∧ DaAll K H' us (((T.take k).filter fun e : Cls2 => decide (e.1 < 13)).map cD)) ⟨same_put nD, [], upd_same, .nil⟩ (fun k H' _ ⟨s', _⟩ => seqT_mono s' ht4) ?_ ?_
            · rintro k v H5 hk ⟨s5, us, eD, da⟩
              obtain ⟨d, hd, hvd⟩ := daAll_at (hall.mono s5) hk
              have hkT : k < T.length := by
                have := (List.getElem?_eq_some_iff.mp hk).1
                omega
              rw [List.getElem?_map, List.getElem?_eq_getElem hkT] at hd
              cases hd
              obtain ⟨b, rfl, hb⟩ := da_cD hvd
              rw [List.take_succ_eq_append_getElem hkT, List.filter_append, List.map_append]
              generalize T[k] = e at hb
              have hlu := daAll_len da
              have hlu2 : us.length ≤ 5 := by
                rw [hlu, List.length_map]
                refine Nat.le_trans (List.length_filter_le _ _) ?_
                rw [List.length_take]
                omega
              refine ⟨rfl, _, rfl, b, _, 0, _, rfl, rfl, hb, rfl, _, _, rfl, rfl, _, rfl, ite2 (fun ee => ?_) (fun ee => ?_)⟩
              · refine ⟨_, rfl, b, _, 0, _, rfl, rfl, hb, rfl, _, rfl, b, _, 1, _, rfl, rfl, hb, rfl, (by show 2 ≤ sizeLine; decide), fun t7 nt7 => ?_⟩
                have s7 := same_put (o := .tup [.int (e.1 : Nat), .int (e.2 : Nat)]) nt7
                refine ⟨us, s7 _ _ eD, by omega, fun b' o' e' => ?_, _, upd_same, ?_⟩
                · rw [upd_ne (ne_of_none e' nD)]
                  exact s7 _ _ (s5 _ _ e')
                · have k8 : Kt (upd H5 t7 (.tup [.int (e.1 : Nat), .int (e.2 : Nat)])) (upd (upd H5 t7 (.tup [.int (e.1 : Nat), .int (e.2 : Nat)])) D (.lst (us ++ [.ref t7]))) := Kt.put (s7 _ _ eD)
                  refine da_app (DaAll.kt k8 (tup_cD _) (da.mono s7)) ?_
                  rw [List.filter_cons_of_pos ?_, List.filter_nil, List.map_singleton]
                  · exact .cons (da_pr (k8 _ _ upd_same nofun)) .nil
                  · have := of_decide_eq_true ee
                    exact decide_eq_true (by omega)
              · refine ⟨s5, us, eD, ?_⟩
                rw [List.filter_cons_of_neg ?_, List.filter_nil, List.map_nil, List.append_nil]
                · exact da
                · rw [decide_eq_true_eq]
                  exact fun z => ee (decide_eq_true (by omega))
            · rintro H5 ⟨s5, us, eD, da⟩
              rw [hxl, List.take_length] at da
              refine ⟨D, us, rfl, .inl ⟨.inl (.inl eD), fun t6 nt6 => ?_⟩⟩
              have s6 := same_put (o := .tup us) nt6
              refine cont _ _ ⟨.ref t6, _, 27720, _, _, rfl, b2.trans (b3.trans (b4.trans ((Bu.of s5).trans (Bu.of s6)))), ((hp4.same s5).same s6).up (by omega), .tup (.inl (.inl upd_same)) (da.mono s6), ⟨⟨fun e he => hcl.pos e (List.mem_filter.mp he).1, fun e he => hcl.lt e (List.mem_filter.mp he).1⟩, by decide, fun e he => few13 _ (of_decide_eq_true (List.mem_filter.mp he).2) (hcl.pos e (List.mem_filter.mp he).1)⟩, by decide, ?_⟩
              exact Nat.le_trans (List.length_filter_le _ _) (by omega)
          · exact cont _ _ ⟨u, S, M, _, _, rfl, b2.trans b3, hp3.up (by omega), hu, hv, by omega, h12⟩
      · rintro σ' H2 ⟨z3, z4, z5, z6, z7, rfl, b2, hp2⟩
        refine ⟨_, rfl, p, _, rfl, hp2, by omega, fun H3 b3 hp3 => ⟨_, rfl, iteF ?_⟩⟩
        have b13 := b2.trans b3
        have s : Same H1 H3 := fun c o h => b13 c o (ne_of_none h np) (ss _ _ h)
        exact ⟨_, _, _, _, _, _, _, rfl, s.seq hS1⟩
    · rintro σ' H1 ⟨y1, y2, y3, y4, y5, y6, y7, rfl, hS1⟩
      exact q H1
end
end Ev

/-! ## What the top has written -/
namespace Ev
open PySem PySem.Spec PyProof.Rows L2
open PySem.W (typeIn keepIn codeIn nsIn)
def initB (K : PySem.W.Frag) (fI : Addr) (cd : Value) (q : Str) : Bool := (typeIn K (.ref fI) == some (.type "function")) && (codeIn K cd q && keepIn K (.ref fI))
theorem initB_ok {K : PySem.W.Frag} {fI : Addr} {cd : Value} {q : Str} (h : initB K fI cd q = true) : typeIn K (.ref fI) = some (.type "function") ∧ codeIn K cd q = true ∧ keepIn K (.ref fI) = true := by
  unfold initB at h
  simpa only [Bool.and_eq_true, beq_iff_eq] using h
theorem all_mk {P : Program} {w : World} {K : PySem.W.Frag} {h : Heap} {mg : Str → Option Value} {fa : Addr} (X : K.In h) (G : h.Ns mainGlobals mg) (hfa : mg "law" = some (.ref fa))
    {g1 : Addr} {ode1 ane1 : Option Addr} {sle1 : Array (Option Value)} {oce1 kVe1 dce1 pme1 cde1 cte1 : Value}
    {g3 : Addr} {ode3 ane3 : Option Addr} {sle3 : Array (Option Value)} {oce3 kVe3 dce3 pme3 cde3 cte3 : Value}
    {g4 : Addr} {ode4 ane4 : Option Addr} {sle4 : Array (Option Value)} {oce4 kVe4 dce4 pme4 cde4 cte4 : Value}
    {g6 : Addr} {ode6 ane6 : Option Addr} {sle6 : Array (Option Value)} {oce6 kVe6 dce6 pme6 cde6 cte6 : Value}
    {g7 : Addr} {ode7 ane7 : Option Addr} {sle7 : Array (Option Value)} {oce7 kVe7 dce7 pme7 cde7 cte7 : Value}
    {g8 : Addr} {ode8 ane8 : Option Addr} {sle8 : Array (Option Value)} {oce8 kVe8 dce8 pme8 cde8 cte8 : Value}
    {g9 : Addr} {ode9 ane9 : Option Addr} {sle9 : Array (Option Value)} {oce9 kVe9 dce9 pme9 cde9 cte9 : Value}
    {g10 : Addr} {ode10 ane10 : Option Addr} {sle10 : Array (Option Value)} {oce10 kVe10 dce10 pme10 cde10 cte10 : Value}
    {g11 : Addr} {ode11 ane11 : Option Addr} {sle11 : Array (Option Value)} {oce11 kVe11 dce11 pme11 cde11 cte11 : Value}
    {g12 : Addr} {ode12 ane12 : Option Addr} {sle12 : Array (Option Value)} {oce12 kVe12 dce12 pme12 cde12 cte12 : Value}
    {g13 : Addr} {ode13 ane13 : Option Addr} {sle13 : Array (Option Value)} {oce13 kVe13 dce13 pme13 cde13 cte13 : Value}
    {g14 : Addr} {ode14 ane14 : Option Addr} {sle14 : Array (Option Value)} {oce14 kVe14 dce14 pme14 cde14 cte14 : Value}
    {g15 : Addr} {ode15 ane15 : Option Addr} {sle15 : Array (Option Value)} {oce15 kVe15 dce15 pme15 cde15 cte15 : Value}
    {g16 : Addr} {ode16 ane16 : Option Addr} {sle16 : Array (Option Value)} {oce16 kVe16 dce16 pme16 cde16 cte16 : Value}
    {g17 : Addr} {ode17 ane17 : Option Addr} {sle17 : Array (Option Value)} {oce17 kVe17 dce17 pme17 cde17 cte17 : Value}
    {g18 : Addr} {ode18 ane18 : Option Addr} {sle18 : Array (Option Value)} {oce18 kVe18 dce18 pme18 cde18 cte18 : Value}
    (A1 : nsIn K mainGlobals "common_divisor" = some (some (.ref g1)))
    (L1 : K.lookup g1 = some ⟨oce1, ode1, .func (PySem.W.fnOf "common_divisor" "common_divisor" (defArgs (topS 1)) (defBody (topS 1)) (defScope (topS 1)) .none kVe1 dce1 pme1 ane1 cde1 cte1), sle1⟩)
    (H1 : initB K g1 cde1 "common_divisor" = true)
    (A3 : nsIn K mainGlobals "is_exact_cover" = some (some (.ref g3)))
    (L3 : K.lookup g3 = some ⟨oce3, ode3, .func (PySem.W.fnOf "is_exact_cover" "is_exact_cover" (defArgs (topS 3)) (defBody (topS 3)) (defScope (topS 3)) .none kVe3 dce3 pme3 ane3 cde3 cte3), sle3⟩)
    (H3 : initB K g3 cde3 "is_exact_cover" = true)
    (A4 : nsIn K mainGlobals "do_meet" = some (some (.ref g4)))
    (L4 : K.lookup g4 = some ⟨oce4, ode4, .func (PySem.W.fnOf "do_meet" "do_meet" (defArgs (topS 4)) (defBody (topS 4)) (defScope (topS 4)) .none kVe4 dce4 pme4 ane4 cde4 cte4), sle4⟩)
    (H4 : initB K g4 cde4 "do_meet" = true)
    (A6 : nsIn K mainGlobals "_law_draws" = some (some (.ref g6)))
    (L6 : K.lookup g6 = some ⟨oce6, ode6, .func (PySem.W.fnOf "_law_draws" "_law_draws" (defArgs (topS 6)) (defBody (topS 6)) (defScope (topS 6)) .none kVe6 dce6 pme6 ane6 cde6 cte6), sle6⟩)
    (H6 : initB K g6 cde6 "_law_draws" = true)
    (A7 : nsIn K mainGlobals "_law_below" = some (some (.ref g7)))
    (L7 : K.lookup g7 = some ⟨oce7, ode7, .func (PySem.W.fnOf "_law_below" "_law_below" (defArgs (topS 7)) (defBody (topS 7)) (defScope (topS 7)) .none kVe7 dce7 pme7 ane7 cde7 cte7), sle7⟩)
    (H7 : initB K g7 cde7 "_law_below" = true)
    (A8 : nsIn K mainGlobals "_law_pick" = some (some (.ref g8)))
    (L8 : K.lookup g8 = some ⟨oce8, ode8, .func (PySem.W.fnOf "_law_pick" "_law_pick" (defArgs (topS 8)) (defBody (topS 8)) (defScope (topS 8)) .none kVe8 dce8 pme8 ane8 cde8 cte8), sle8⟩)
    (H8 : initB K g8 cde8 "_law_pick" = true)
    (A9 : nsIn K mainGlobals "_law_gcd" = some (some (.ref g9)))
    (L9 : K.lookup g9 = some ⟨oce9, ode9, .func (PySem.W.fnOf "_law_gcd" "_law_gcd" (defArgs (topS 9)) (defBody (topS 9)) (defScope (topS 9)) .none kVe9 dce9 pme9 ane9 cde9 cte9), sle9⟩)
    (H9 : initB K g9 cde9 "_law_gcd" = true)
    (A10 : nsIn K mainGlobals "_law_samplers" = some (some (.ref g10)))
    (L10 : K.lookup g10 = some ⟨oce10, ode10, .func (PySem.W.fnOf "_law_samplers" "_law_samplers" (defArgs (topS 10)) (defBody (topS 10)) (defScope (topS 10)) .none kVe10 dce10 pme10 ane10 cde10 cte10), sle10⟩)
    (H10 : initB K g10 cde10 "_law_samplers" = true)
    (A11 : nsIn K mainGlobals "_law_shuffled" = some (some (.ref g11)))
    (L11 : K.lookup g11 = some ⟨oce11, ode11, .func (PySem.W.fnOf "_law_shuffled" "_law_shuffled" (defArgs (topS 11)) (defBody (topS 11)) (defScope (topS 11)) .none kVe11 dce11 pme11 ane11 cde11 cte11), sle11⟩)
    (H11 : initB K g11 cde11 "_law_shuffled" = true)
    (A12 : nsIn K mainGlobals "_law_marks" = some (some (.ref g12)))
    (L12 : K.lookup g12 = some ⟨oce12, ode12, .func (PySem.W.fnOf "_law_marks" "_law_marks" (defArgs (topS 12)) (defBody (topS 12)) (defScope (topS 12)) .none kVe12 dce12 pme12 ane12 cde12 cte12), sle12⟩)
    (H12 : initB K g12 cde12 "_law_marks" = true)
    (A13 : nsIn K mainGlobals "_law_seen" = some (some (.ref g13)))
    (L13 : K.lookup g13 = some ⟨oce13, ode13, .func (PySem.W.fnOf "_law_seen" "_law_seen" (defArgs (topS 13)) (defBody (topS 13)) (defScope (topS 13)) .none kVe13 dce13 pme13 ane13 cde13 cte13), sle13⟩)
    (H13 : initB K g13 cde13 "_law_seen" = true)
    (A14 : nsIn K mainGlobals "_law_split" = some (some (.ref g14)))
    (L14 : K.lookup g14 = some ⟨oce14, ode14, .func (PySem.W.fnOf "_law_split" "_law_split" (defArgs (topS 14)) (defBody (topS 14)) (defScope (topS 14)) .none kVe14 dce14 pme14 ane14 cde14 cte14), sle14⟩)
    (H14 : initB K g14 cde14 "_law_split" = true)
    (A15 : nsIn K mainGlobals "_law_spoilt" = some (some (.ref g15)))
    (L15 : K.lookup g15 = some ⟨oce15, ode15, .func (PySem.W.fnOf "_law_spoilt" "_law_spoilt" (defArgs (topS 15)) (defBody (topS 15)) (defScope (topS 15)) .none kVe15 dce15 pme15 ane15 cde15 cte15), sle15⟩)
    (H15 : initB K g15 cde15 "_law_spoilt" = true)
    (A16 : nsIn K mainGlobals "_law_due" = some (some (.ref g16)))
    (L16 : K.lookup g16 = some ⟨oce16, ode16, .func (PySem.W.fnOf "_law_due" "_law_due" (defArgs (topS 16)) (defBody (topS 16)) (defScope (topS 16)) .none kVe16 dce16 pme16 ane16 cde16 cte16), sle16⟩)
    (H16 : initB K g16 cde16 "_law_due" = true)
    (A17 : nsIn K mainGlobals "_law_great_right" = some (some (.ref g17)))
    (L17 : K.lookup g17 = some ⟨oce17, ode17, .func (PySem.W.fnOf "_law_great_right" "_law_great_right" (defArgs (topS 17)) (defBody (topS 17)) (defScope (topS 17)) .none kVe17 dce17 pme17 ane17 cde17 cte17), sle17⟩)
    (H17 : initB K g17 cde17 "_law_great_right" = true)
    (A18 : nsIn K mainGlobals "law" = some (some (.ref g18)))
    (L18 : K.lookup g18 = some ⟨oce18, ode18, .func (PySem.W.fnOf "law" "law" (defArgs (topS 18)) (defBody (topS 18)) (defScope (topS 18)) .none kVe18 dce18 pme18 ane18 cde18 cte18), sle18⟩)
    (H18 : initB K g18 cde18 "law" = true)
    (z_len : nsIn K mainGlobals "len" = some none)
    (z_abs : nsIn K mainGlobals "abs" = some none)
    (z_int : nsIn K mainGlobals "int" = some none)
    (z_bool : nsIn K mainGlobals "bool" = some none)
    (z_isinstance : nsIn K mainGlobals "isinstance" = some none)
    (z_range : nsIn K mainGlobals "range" = some none)
    (z_max : nsIn K mainGlobals "max" = some none)
    (z_min : nsIn K mainGlobals "min" = some none)
    (z_sum : nsIn K mainGlobals "sum" = some none)
    (z_repr : nsIn K mainGlobals "repr" = some none)
    (z_divmod : nsIn K mainGlobals "divmod" = some none)
    (z_tuple : nsIn K mainGlobals "tuple" = some none)
    (z_sorted : nsIn K mainGlobals "sorted" = some none)
    (z_set : nsIn K mainGlobals "set" = some none)
    (z_enumerate : nsIn K mainGlobals "enumerate" = some none)
    (z_zip : nsIn K mainGlobals "zip" = some none)
    (z_list : nsIn K mainGlobals "list" = some none)
    (z_dict : nsIn K mainGlobals "dict" = some none)
    (z_any : nsIn K mainGlobals "any" = some none)
    (z_all : nsIn K mainGlobals "all" = some none)
    (z_str : nsIn K mainGlobals "str" = some none)
    (z_reversed : nsIn K mainGlobals "reversed" = some none)
    : ∃ fd : FuncData, (∀ (s : Shared) (u : Value), BindsTo s fd ⟨[u], []⟩ [("_law_script", u)]) ∧
      ∀ base : Heap, K.In base → base.Ns mainGlobals mg → (∃ mm, base.Ns sysModules mm) → FnG P w K mg base CX0 6 fa fd ["_law_script"] (spLaw K) := by
  have e := hfa.symm.trans (PySem.W.mg_of X G A18)
  cases e
  obtain ⟨t1, u1, v1⟩ := initB_ok H1
  have F1 := fun_mk (st := topS 1) L1 u1 v1
  have m1 := PySem.W.mg_of X G A1
  have b1 := F1.binds (ps := ["one", "other"]) fun _ _ _ _ _ _ us hl => match us, hl with | [_, _], _ => rfl
  obtain ⟨t3, u3, v3⟩ := initB_ok H3
  have F3 := fun_mk (st := topS 3) L3 u3 v3
  have m3 := PySem.W.mg_of X G A3
  have b3 := F3.binds (ps := ["samplers"]) fun _ _ _ _ _ _ us hl => match us, hl with | [_], _ => rfl
  obtain ⟨t4, u4, v4⟩ := initB_ok H4
  have F4 := fun_mk (st := topS 4) L4 u4 v4
  have m4 := PySem.W.mg_of X G A4
  have b4 := F4.binds (ps := ["sampler", "other"]) fun _ _ _ _ _ _ us hl => match us, hl with | [_, _], _ => rfl
  obtain ⟨t6, u6, v6⟩ := initB_ok H6
  have F6 := fun_mk (st := topS 6) L6 u6 v6
  have m6 := PySem.W.mg_of X G A6
  have b6 := F6.binds (ps := ["_law_script", "_law_k"]) fun _ _ _ _ _ _ us hl => match us, hl with | [_, _], _ => rfl
  obtain ⟨t7, u7, v7⟩ := initB_ok H7
  have F7 := fun_mk (st := topS 7) L7 u7 v7
  have m7 := PySem.W.mg_of X G A7
  have b7 := F7.binds (ps := ["_law_draws_here", "_law_many"]) fun _ _ _ _ _ _ us hl => match us, hl with | [_, _], _ => rfl
  obtain ⟨t8, u8, v8⟩ := initB_ok H8
  have F8 := fun_mk (st := topS 8) L8 u8 v8
  have m8 := PySem.W.mg_of X G A8
  have b8 := F8.binds (ps := ["_law_draws_here", "_law_items"]) fun _ _ _ _ _ _ us hl => match us, hl with | [_, _], _ => rfl
  obtain ⟨t9, u9, v9⟩ := initB_ok H9
  have F9 := fun_mk (st := topS 9) L9 u9 v9
  have m9 := PySem.W.mg_of X G A9
  have b9 := F9.binds (ps := ["_law_one", "_law_other"]) fun _ _ _ _ _ _ us hl => match us, hl with | [_, _], _ => rfl
  obtain ⟨t10, u10, v10⟩ := initB_ok H10
  have F10 := fun_mk (st := topS 10) L10 u10 v10
  have m10 := PySem.W.mg_of X G A10
  have b10 := F10.binds (ps := ["_law_draws_here", "_law_many"]) fun _ _ _ _ _ _ us hl => match us, hl with | [_, _], _ => rfl
  obtain ⟨t11, u11, v11⟩ := initB_ok H11
  have F11 := fun_mk (st := topS 11) L11 u11 v11
  have m11 := PySem.W.mg_of X G A11
  have b11 := F11.binds (ps := ["_law_draws_here", "_law_items"]) fun _ _ _ _ _ _ us hl => match us, hl with | [_, _], _ => rfl
  obtain ⟨t12, u12, v12⟩ := initB_ok H12
  have F12 := fun_mk (st := topS 12) L12 u12 v12
  have m12 := PySem.W.mg_of X G A12
  have b12 := F12.binds (ps := ["_law_count", "_law_some"]) fun _ _ _ _ _ _ us hl => match us, hl with | [_, _], _ => rfl
  obtain ⟨t13, u13, v13⟩ := initB_ok H13
  have F13 := fun_mk (st := topS 13) L13 u13 v13
  have m13 := PySem.W.mg_of X G A13
  have b13 := F13.binds (ps := ["_law_count", "_law_sampler"]) fun _ _ _ _ _ _ us hl => match us, hl with | [_, _], _ => rfl
  obtain ⟨t14, u14, v14⟩ := initB_ok H14
  have F14 := fun_mk (st := topS 14) L14 u14 v14
  have m14 := PySem.W.mg_of X G A14
  have b14 := F14.binds (ps := ["_law_draws_here", "_law_most"]) fun _ _ _ _ _ _ us hl => match us, hl with | [_, _], _ => rfl
  obtain ⟨t15, u15, v15⟩ := initB_ok H15
  have F15 := fun_mk (st := topS 15) L15 u15 v15
  have m15 := PySem.W.mg_of X G A15
  have b15 := F15.binds (ps := ["_law_draws_here", "_law_some"]) fun _ _ _ _ _ _ us hl => match us, hl with | [_, _], _ => rfl
  obtain ⟨t16, u16, v16⟩ := initB_ok H16
  have F16 := fun_mk (st := topS 16) L16 u16 v16
  have m16 := PySem.W.mg_of X G A16
  have b16 := F16.binds (ps := ["_law_some"]) fun _ _ _ _ _ _ us hl => match us, hl with | [_], _ => rfl
  obtain ⟨t17, u17, v17⟩ := initB_ok H17
  have F17 := fun_mk (st := topS 17) L17 u17 v17
  have m17 := PySem.W.mg_of X G A17
  have b17 := F17.binds (ps := ["_law_draws_here"]) fun _ _ _ _ _ _ us hl => match us, hl with | [_], _ => rfl
  obtain ⟨t18, u18, v18⟩ := initB_ok H18
  have F18 := fun_mk (st := topS 18) L18 u18 v18
  have m18 := PySem.W.mg_of X G A18
  have n_len := PySem.W.mg_none_of X G z_len
  have n_abs := PySem.W.mg_none_of X G z_abs
  have n_int := PySem.W.mg_none_of X G z_int
  have n_bool := PySem.W.mg_none_of X G z_bool
  have n_isinstance := PySem.W.mg_none_of X G z_isinstance
  have n_range := PySem.W.mg_none_of X G z_range
  have n_max := PySem.W.mg_none_of X G z_max
  have n_min := PySem.W.mg_none_of X G z_min
  have n_sum := PySem.W.mg_none_of X G z_sum
  have n_repr := PySem.W.mg_none_of X G z_repr
  have n_divmod := PySem.W.mg_none_of X G z_divmod
  have n_tuple := PySem.W.mg_none_of X G z_tuple
  have n_sorted := PySem.W.mg_none_of X G z_sorted
  have n_set := PySem.W.mg_none_of X G z_set
  have n_enumerate := PySem.W.mg_none_of X G z_enumerate
  have n_zip := PySem.W.mg_none_of X G z_zip
  have n_list := PySem.W.mg_none_of X G z_list
  have n_dict := PySem.W.mg_none_of X G z_dict
  have n_any := PySem.W.mg_none_of X G z_any
  have n_all := PySem.W.mg_none_of X G z_all
  have n_str := PySem.W.mg_none_of X G z_str
  have n_reversed := PySem.W.mg_none_of X G z_reversed
  have nb : NB mg := fun x hx => by
    rw [nbs] at hx
    rcases List.mem_cons.mp hx with rfl | hx
    · exact n_len
    rcases List.mem_cons.mp hx with rfl | hx
    · exact n_abs
    rcases List.mem_cons.mp hx with rfl | hx
    · exact n_int
    rcases List.mem_cons.mp hx with rfl | hx
    · exact n_bool
    rcases List.mem_cons.mp hx with rfl | hx
    · exact n_isinstance
    rcases List.mem_cons.mp hx with rfl | hx
    · exact n_range
    rcases List.mem_cons.mp hx with rfl | hx
    · exact n_max
    rcases List.mem_cons.mp hx with rfl | hx
    · exact n_min
    rcases List.mem_cons.mp hx with rfl | hx
    · exact n_sum
    rcases List.mem_cons.mp hx with rfl | hx
    · exact n_repr
    rcases List.mem_cons.mp hx with rfl | hx
    · exact n_divmod
    rcases List.mem_cons.mp hx with rfl | hx
    · exact n_tuple
    rcases List.mem_cons.mp hx with rfl | hx
    · exact n_sorted
    rcases List.mem_cons.mp hx with rfl | hx
    · exact n_set
    rcases List.mem_cons.mp hx with rfl | hx
    · exact n_enumerate
    rcases List.mem_cons.mp hx with rfl | hx
    · exact n_zip
    rcases List.mem_cons.mp hx with rfl | hx
    · exact n_list
    rcases List.mem_cons.mp hx with rfl | hx
    · exact n_dict
    rcases List.mem_cons.mp hx with rfl | hx
    · exact n_any
    rcases List.mem_cons.mp hx with rfl | hx
    · exact n_all
    rcases List.mem_cons.mp hx with rfl | hx
    · exact n_str
    rcases List.mem_cons.mp hx with rfl | hx
    · exact n_reversed
    cases hx
  refine ⟨PySem.W.fnOf "law" "law" (defArgs (topS 18)) (defBody (topS 18)) (defScope (topS 18)) .none kVe18 dce18 pme18 ane18 cde18 cte18, fun s u => .of_eq rfl, fun base XB _ hm => ?_⟩
  have D_common_divisor : Def K mg "common_divisor" (topS 1) ["one", "other"] := ⟨_, _, F1, b1, m1⟩
  have D_is_exact_cover : Def K mg "is_exact_cover" (topS 3) ["samplers"] := ⟨_, _, F3, b3, m3⟩
  have D_do_meet : Def K mg "do_meet" (topS 4) ["sampler", "other"] := ⟨_, _, F4, b4, m4⟩
  have D__law_draws : Def K mg "_law_draws" (topS 6) ["_law_script", "_law_k"] := ⟨_, _, F6, b6, m6⟩
  have D__law_below : Def K mg "_law_below" (topS 7) ["_law_draws_here", "_law_many"] := ⟨_, _, F7, b7, m7⟩
  have D__law_pick : Def K mg "_law_pick" (topS 8) ["_law_draws_here", "_law_items"] := ⟨_, _, F8, b8, m8⟩
  have D__law_gcd : Def K mg "_law_gcd" (topS 9) ["_law_one", "_law_other"] := ⟨_, _, F9, b9, m9⟩
  have D__law_samplers : Def K mg "_law_samplers" (topS 10) ["_law_draws_here", "_law_many"] := ⟨_, _, F10, b10, m10⟩
  have D__law_shuffled : Def K mg "_law_shuffled" (topS 11) ["_law_draws_here", "_law_items"] := ⟨_, _, F11, b11, m11⟩
  have D__law_marks : Def K mg "_law_marks" (topS 12) ["_law_count", "_law_some"] := ⟨_, _, F12, b12, m12⟩
  have D__law_seen : Def K mg "_law_seen" (topS 13) ["_law_count", "_law_sampler"] := ⟨_, _, F13, b13, m13⟩
  have D__law_split : Def K mg "_law_split" (topS 14) ["_law_draws_here", "_law_most"] := ⟨_, _, F14, b14, m14⟩
  have D__law_spoilt : Def K mg "_law_spoilt" (topS 15) ["_law_draws_here", "_law_some"] := ⟨_, _, F15, b15, m15⟩
  have D__law_due : Def K mg "_law_due" (topS 16) ["_law_some"] := ⟨_, _, F16, b16, m16⟩
  have D__law_great_right : Def K mg "_law_great_right" (topS 17) ["_law_draws_here"] := ⟨_, _, F17, b17, m17⟩
  have Flaw := F18
  have CGc := ok_gcd (P := P) (w := w) (base := base) D_common_divisor nb
  have CMt := ok_mt D_do_meet CGc
  have CEx := ok_exc D_is_exact_cover CMt nb
  have C1 := ok_draws (P := P) (w := w) (base := base) D__law_draws nb
  have C2 := ok_below (P := P) (w := w) (base := base) D__law_below nb
  have C3 := ok_pick D__law_pick C2 nb
  have CSh := ok_sh D__law_shuffled C2 nb
  have C4 := ok_lg (P := P) (w := w) (base := base) D__law_gcd nb
  have CDu := ok_due44 D__law_due C4 nb
  have CSp := ok_sp44 D__law_split C2 C3 CSh nb
  have CSo := ok_spo44 D__law_spoilt C2 nb
  have CSm := ok_sam44 D__law_samplers C2 C3 CSh nb
  have CGr := ok_gr44 D__law_great_right C2 C3 CEx nb
  exact ok_law44 hm Flaw C1 CSp CSm CSo CDu CEx CGr nb
end Ev

open PySem PySem.W PyProof.Rows
set_option maxRecDepth 100000 in
set_option maxHeartbeats 0 in
theorem PySem.Challenge.cw_evensamples_k44_exact_covers_or_not_holds : PySem.Challenge.rw_evensamples_k44_exact_covers_or_not.Holds := by
  w_on; o_law; k_head; (case hw => w_witness2)
  k_fill
  refine Ev.walkG (l := PySem.Challenge.rw_evensamples_k44_exact_covers_or_not) (n := 63) (k := 6) (x := "_law_script") (CX := L2.CX0) (sp := Ev.spLaw) ?noImports rfl (by decide) rfl ⟨rfl, by decide, by decide⟩ (fun w h Y => PySem.W.kIn_of Y) ?F
    (fun _ _ a ns _ _ hS => ⟨a, ns, rfl, hS, fun _ => rfl⟩) (fun _ _ _ _ h => h)
  case noImports => decide +kernel
  case F =>
    intro w mg fa h KX G hmg
    refine' Ev.all_mk KX G hmg ?A1 ?L1 ?H1 ?A3 ?L3 ?H3 ?A4 ?L4 ?H4 ?A6 ?L6 ?H6 ?A7 ?L7 ?H7 ?A8 ?L8 ?H8 ?A9 ?L9 ?H9 ?A10 ?L10 ?H10 ?A11 ?L11 ?H11 ?A12 ?L12 ?H12 ?A13 ?L13 ?H13 ?A14 ?L14 ?H14 ?A15 ?L15 ?H15 ?A16 ?L16 ?H16 ?A17 ?L17 ?H17 ?A18 ?L18 ?H18 ?z_len ?z_abs ?z_int ?z_bool ?z_isinstance ?z_range ?z_max ?z_min ?z_sum ?z_repr ?z_divmod ?z_tuple ?z_sorted ?z_set ?z_enumerate ?z_zip ?z_list ?z_dict ?z_any ?z_all ?z_str ?z_reversed
    (case A1 => k_is)
    (case L1 => k_is)
    (case H1 => kernel_rfl)
    (case A3 => k_is)
    (case L3 => k_is)
    (case H3 => kernel_rfl)
    (case A4 => k_is)
    (case L4 => k_is)
    (case H4 => kernel_rfl)
    (case A6 => k_is)
    (case L6 => k_is)
    (case H6 => kernel_rfl)
    (case A7 => k_is)
    (case L7 => k_is)
    (case H7 => kernel_rfl)
    (case A8 => k_is)
    (case L8 => k_is)
    (case H8 => kernel_rfl)
    (case A9 => k_is)
    (case L9 => k_is)
    (case H9 => kernel_rfl)
    (case A10 => k_is)
    (case L10 => k_is)
    (case H10 => kernel_rfl)
    (case A11 => k_is)
    (case L11 => k_is)
    (case H11 => kernel_rfl)
    (case A12 => k_is)
    (case L12 => k_is)
    (case H12 => kernel_rfl)
    (case A13 => k_is)
    (case L13 => k_is)
    (case H13 => kernel_rfl)
    (case A14 => k_is)
    (case L14 => k_is)
    (case H14 => kernel_rfl)
    (case A15 => k_is)
    (case L15 => k_is)
    (case H15 => kernel_rfl)
    (case A16 => k_is)
    (case L16 => k_is)
    (case H16 => kernel_rfl)
    (case A17 => k_is)
    (case L17 => k_is)
    (case H17 => kernel_rfl)
    (case A18 => k_is)
    (case L18 => k_is)
    (case H18 => kernel_rfl)
    (case z_len => k_is)
    (case z_abs => k_is)
    (case z_int => k_is)
    (case z_bool => k_is)
    (case z_isinstance => k_is)
    (case z_range => k_is)
    (case z_max => k_is)
    (case z_min => k_is)
    (case z_sum => k_is)
    (case z_repr => k_is)
    (case z_divmod => k_is)
    (case z_tuple => k_is)
    (case z_sorted => k_is)
    (case z_set => k_is)
    (case z_enumerate => k_is)
    (case z_zip => k_is)
    (case z_list => k_is)
    (case z_dict => k_is)
    (case z_any => k_is)
    (case z_all => k_is)
    (case z_str => k_is)
    (case z_reversed => k_is)

import PyProof.Rows.All
import Wide.All
import OpenK.AllK
import Wide.FinOn
import PySem.Challenge.RW_evensamples_k56_benches_copied_and_compa
import HandS.ForMost
import HandS.Wide
import HandS.More
import HandS.Set
import HandS.SetBool
import HandS.SetFor
import HandS.TupSets
import HandS.IsInst
import HandS.TupAny
import HandS.TupMul
import HandS.DictComp
import PyProof.NeKinds
import PyProof.EqKinds
import PyProof.FactsAll.dict
import KE.KEqNest
import HandS.Conv
import HandS.Exc
import HandS.ExcInit
import KE.KExcIs
import HandS.ExcOwn
import HandS.WordsExc
import HandS.ExcValue
import HandS.EndTab
import KE.KNestM
import HandS.OwnEq
import HandS.WideBits
import HandS.Zip
import HandS.Walk
set_option Elab.async false
set_option linter.all false
set_option maxRecDepth 100000
set_option maxHeartbeats 4000000
/-! ## Promises of defs that are called while no repr is under way -/
namespace Ev
open PySem PySem.Spec PyProof.Rows L2

/-- the promise of a def, for a stack without a repr that is under way -/
structure FnG (P : Program) (w : World) (K : PySem.W.Frag) (mg : Str → Option Value)
    (base : Heap) (CX : CXT) (k : Nat) (f : Addr) (fd : FuncData) (ps : List Str) (sp : Sp) : Prop where
  many : ∀ vs H Q E, sp vs H Q E → vs.length = ps.length
  go : ∀ (A : Around) (outer : List Env) (s : Shared) (H : Hp) (args : Args)
      (us : List Value) (vs : List V) (Q : VK) (E : XK),
    Room k A → A.guards = some [] → Env0 P w K mg base A outer s H → BindsTo s fd args (ps.zip us) →
      Vals vs us → sp vs H Q E → codeAny (model P w) A (.call (.ref f) args) (CR CX outer P w H s Q E) s

section
variable {P : Program} {w : World} {K : PySem.W.Frag} {mg : Str → Option Value} {base : Heap} {CX : CXT}
variable {k : Nat} {f : Addr} {fd : FuncData} {ps : List Str} {sp : Sp}
theorem FnG.of (F : FnOk P w K mg base CX k f fd ps sp) : FnG P w K mg base CX k f fd ps sp :=
  ⟨F.len, fun A o s H args us vs Q E hr _ => F.run A o s H args us vs Q E hr⟩
theorem FnG.up {j : Nat} (F : FnG P w K mg base CX j f fd ps sp) (h : j ≤ k) : FnG P w K mg base CX k f fd ps sp :=
  ⟨F.many, fun A o s H args us vs Q E hr => F.go A o s H args us vs Q E (hr.mono h)⟩
end

section
variable {X : Cx} {CX : CXT} {k : Nat} {f : Addr} {fd : FuncData} {ps : List Str} {sp : Sp}
variable {dvs : List V} {ds : List Value} {E : XK} {x : Str} {p pos : Pos} {e : Expr} {es : List Expr} {t : TA}
theorem runG {pins : List (Addr × Obj)} {σ : L2.St} {H : Hp} {s : Shared} {Q : VK} {us : List Value} {vs : List V}
    (F : FnG X.prog X.w X.K X.mg X.base CX k f fd ps sp) (hr : Room k X.A) (gd : X.A.guards = some [])
    (hb : Binds X.K fd ps ds) (hd : Vals dvs ds) (hx : Passes CX X E) (I : Inv X pins σ H s) (r : Vals vs us)
    (h : sp (vs ++ dvs) H Q E) : wpAny (model X.prog X.w) X.A (call (.ref f) us) (EP X pins σ Q) X.xe s := by
  have rr : Vals (vs ++ dvs) (us ++ ds) := r.append hd
  have hl : (us ++ ds).length = ps.length := rr.length.symm.trans (F.many _ _ _ _ h)
  have z := F.go X.A X.stack s H ⟨us, []⟩ (us ++ ds) (vs ++ dvs) Q E hr gd I.env0 (hb s us I.kIn hl) rr h
  refine wpAny_call (codeAny_mono z fun res s' hq => ?_)
  match res, hq with
  | .error e, hq => exact hx pins σ H s e s' I hq
  | .ok (.ret u), hq => exact I.after hq
  | .ok .next, hq => exact False.elim hq
  | .ok .brk, hq => exact False.elim hq
  | .ok .cont, hq => exact False.elim hq
theorem pe_callG (F : FnG X.prog X.w X.K X.mg X.base CX k f fd ps sp) (hr : Room k X.A) (gd : X.A.guards = some [])
    (hg : Gl X x) (hm : X.mg x = some (.ref f)) (hk : PySem.W.keepIn X.K (.ref f) = true) (hb : Binds X.K fd ps ds)
    (hd : Vals dvs ds) (hx : Passes CX X E) (ha : PA X (e :: es) t)
    (hdb : (x == ("__debug__" : Str)) = false := by decide)
    (he : starEach (e :: es) X.env = (false, eval e X.env) :: starEach es X.env := by rfl)
    (hpl : (backTo pos (starEach es X.env)).any (·.1) = false := by rfl) :
    PE X (.Call (.Name x p) (e :: es) [] pos) (tCall sp dvs E t) := by
  constructor
  intro pins s σ H Q I h
  refine wpAny_Call_Name_kw (ld_glob I hg hm ?_ hdb)
  have z := ha.run pos pins s σ H _ I h
  refine PySem.W.callWith_K (h₀ := X.base) I.ok.mod.kin hk (thn z ?_) he hpl
  rintro us s1 ⟨vs, H1, I1, r, q⟩
  exact ⟨I1.kIn, runG F hr gd hb hd hx I1 r q⟩
theorem pe_callG0 (F : FnG X.prog X.w X.K X.mg X.base CX k f fd ps sp) (hr : Room k X.A) (gd : X.A.guards = some [])
    (hg : Gl X x) (hm : X.mg x = some (.ref f)) (hk : PySem.W.keepIn X.K (.ref f) = true) (hb : Binds X.K fd ps ds)
    (hd : Vals dvs ds) (hx : Passes CX X E) (hdb : (x == ("__debug__" : Str)) = false := by decide) :
    PE X (.Call (.Name x p) [] [] pos) (tCall sp dvs E tNil) := by
  constructor
  intro pins s σ H Q I h
  refine wpAny_Call_Name_kw (ld_glob I hg hm ?_ hdb)
  have z := runG (us := []) F hr gd hb hd hx I .nil h
  exact PySem.W.callWith_K0 I.kIn hk z
end

/-- a def by its body -/
theorem fnG_of {CX : CXT} {P : Program} {w : World} {K : PySem.W.Frag} {mg : Str → Option Value} {base : Heap}
    {k : Nat} {f : Addr} {name qual : Str} {params : Arguments} {body : List Stmt} {scope : Scope}
    {dV kV doc pm cdv ct oc : Value} {an od : Option Addr} {osl : Array (Option Value)} {N ps : List Str} {sp : Sp}
    (lk : K.lookup f = some ⟨oc, od, .func (PySem.W.fnOf name qual params body scope dV kV doc pm an cdv ct), osl⟩)
    (hcd : PySem.W.codeIn K cdv qual = true) (S : FnScope N ps scope)
    (len : ∀ vs H Q E, sp vs H Q E → vs.length = ps.length)
    (hbody : ∀ (A : Around) (outer : List Env) (s : Shared) (H : Hp) (vs : List V) (Q : VK) (E : XK),
      Room k (A.deeper (envOfC qual scope s.heap.objs.size f cdv)) → A.guards = some [] → sp vs H Q E →
      ∃ t, PSs (cxOf CX P w K mg base N qual scope f cdv A outer s H E) body t ∧
        t { nx := fun _ H' => Q .non H', rt := Q } (start N vs) H) :
    FnG P w K mg base CX (k + 1) f (PySem.W.fnOf name qual params body scope dV kV doc pm an cdv ct) ps sp := by
  constructor
  · exact len
  intro A outer s H args us vs Q E hr gd e0 hb r hsp
  have old : ∀ b o, base.get? b = some o → s.heap.get? b = some o := fun b o e => (e0.bs b o e).1
  have KX : K.In s.heap := e0.mod.kin.keeps old
  have lim : s.heap.NoLimit := e0.mod.nolimit.keeps old
  have hkind : ∀ y ∈ ps.zip us, scope.names.lookup y.1 = some .local ∨
      (scope.names.lookup y.1 = some .cell ∧
        ((cellsFrom (s.heap.objs.size + 1) scope.names []).lookup y.1).isSome = true) := by
    rintro ⟨n, v⟩ hy
    have hn := (List.of_mem_zip hy).1
    rcases S.par n hn with q | q
    · exact Or.inl q
    · exact Or.inr ⟨q, PySem.W.cellsFrom_some _ _ _ (Or.inl q)⟩
  refine codeAny_call_function hr.depth (KX _ _ lk) rfl S.co S.gen rfl (PySem.W.codeRec_of KX hcd) (hb _ _ _ _ ?_)
  refine wpAny_newFunctionEnv_cells S.kind hkind ?_
  rintro env rfl s1 x
  refine ⟨lim.keeps x.toInCall.keep, codeAny_func ?_⟩
  obtain ⟨t, ht, hq⟩ := hbody A outer s H vs Q E (hr.deeper _) gd hsp
  have I := inv_start (CX := CX) (E := E) S hr.hd e0 (len _ _ _ _ hsp) r x
  refine wpAny_mono (ht.run [] s1 (start N vs) H _ I hq) ?_ (fun _ _ z => z)
  intro fl s' hs
  match fl, hs with
  | .ret u, ⟨v, σ', H', J, rv, q⟩ => exact ⟨v, H', J.os, J.bare, J.base, J.hok, rv, q⟩
  | .next, ⟨σ', H', J, q⟩ => exact ⟨V.non, H', J.os, J.bare, J.base, J.hok, rfl, q⟩
  | .brk, ⟨_, _, _, q⟩ => exact False.elim q
  | .cont, ⟨_, _, _, q⟩ => exact False.elim q

section
variable {P : Program} {w : World} {K : PySem.W.Frag} {mg : Str → Option Value} {base : Heap}
theorem okG {x qual : Str} {st : Stmt} {f : Addr} {fd : FuncData} {N ps : List Str} {k : Nat} {sp : Sp}
    (F : Fun K x qual st f fd) (S : FnScope N ps (defScope st))
    (len : ∀ vs H Q E, sp vs H Q E → vs.length = ps.length)
    (hbody : ∀ (cdv : Value) (A : Around) (outer : List Env) (s : Shared) (H : Hp) (vs : List V) (Q : VK) (E : XK),
      Room k (A.deeper (envOfC qual (defScope st) s.heap.objs.size f cdv)) → A.guards = some [] → sp vs H Q E →
      ∃ t, PSs (cxOf CX0 P w K mg base N qual (defScope st) f cdv A outer s H E).nox (defBody st) t ∧
        t { nx := fun _ H' => Q .non H', rt := Q } (start N vs) H) :
    FnG P w K mg base CX0 (k + 1) f fd ps sp := by
  obtain ⟨oc, od, kV, doc, pm, an, cdv, ct, osl, e, lk, hcd⟩ := F.ex
  subst e
  refine fnG_of lk hcd S len ?_
  intro A outer s H vs Q E hr gd hsp
  obtain ⟨t, h, q⟩ := hbody cdv A outer s H vs Q E hr gd hsp
  exact ⟨t, h.nox, q⟩
end

/-! ### the end of a law, by such a promise -/
theorem law_end {P : Program} {w : World} {K : PySem.W.Frag} {mg mb : Str → Option Value} {CX : CXT} {k : Nat}
    {fa a : Addr} {fd : FuncData} {x : Str} {sp : Sp} {s₁ : Shared} {vs : List Value} {ns : List Int}
    (KX : K.In s₁.heap) (hns : s₁.heap.Ns mainGlobals mg) (hb : s₁.heap.Ns builtinsNs mb)
    (hbb : ∀ x : Str, x ≠ "__name__" → mb x = bootBuiltins x) (hlim : s₁.heap.NoLimit) (hg : s₁.gens = #[])
    (ha : s₁.heap.get? a = some { cls := .type "list", data := .seq vs.toArray }) (hi : IntsAre vs ns)
    (hl : ns.length ≤ sizeLine) (hr : Room k callerA) (hsm : ∃ mm, s₁.heap.Ns sysModules mm)
    (F : ∀ base : Heap, K.In base → base.Ns mainGlobals mg → (∃ mm, base.Ns sysModules mm) → FnG P w K mg base CX k fa fd [x] sp)
    (hbind : ∀ (s : Shared) (u : Value), BindsTo s fd ⟨[u], []⟩ [(x, u)])
    (hsp : ∀ H : Hp, Only H → SqL K H a (ns.map V.int) → sp [.ref a] H (fun v _ => v = .bl true) fun _ _ _ => False)
    (hCX : ∀ H e s', CX [] H s₁ (fun _ _ _ => False) e s' → False) :
    codeAny (model P w) callerA (.call (.ref fa) ⟨[.ref a], []⟩)
      (fun r s' => r = .ok (.ret (.bool true)) ∧ OldK s₁.heap s'.heap ∧ s'.os = s₁.os ∧ AllBare s'.gens) s₁ := by
  have rv := vals_ints hi
  have lenV := hi.length
  have core : ∀ H : Hp, Only H → SqL K H a (ns.map V.int) → HOk P w H s₁.heap → (∀ b, H b ≠ none → b = a) →
      (H a ≠ none → K.lookup a = none) →
      codeAny (model P w) callerA (.call (.ref fa) ⟨[.ref a], []⟩)
        (fun r s' => r = .ok (.ret (.bool true)) ∧ OldK s₁.heap s'.heap ∧ s'.os = s₁.os ∧ AllBare s'.gens) s₁ := by
    intro H hO hS hok hA hK
    have at_a : ∀ {b : Addr} {u : HO}, H b = some u → b = a := fun {b u} q => hA b (by rw [q]; simp)
    have noA : ∀ {b : Addr} {o : Obj} {es : Array DictEntry} {ep : Nat}, s₁.heap.get? b = some o →
        o.data = .dict es ep → H b = none := by
      intro b o es ep e d
      cases q : H b with
      | none => rfl
      | some u =>
        rw [at_a q, ha] at e
        cases e
        exact nomatch d
    have nsK : ∀ {b : Addr} {m : Str → Option Value}, s₁.heap.Ns b m → (hidT s₁.heap H).Ns b m := by
      rintro b m ⟨o, es, ep, e, d, r⟩
      exact ⟨o, es, ep, hidT_get e (noA e d), d, r⟩
    have hKb : K.In (hidT s₁.heap H) := by
      intro b o e
      refine hidT_get (KX b o e) ?_
      cases q : H b with
      | none => rfl
      | some u =>
        have e' := at_a q
        subst e'
        rw [hK (by rw [q]; simp)] at e
        cases e
    have hM : Mod K mg (hidT s₁.heap H) := by
      obtain ⟨mc, h1, h2⟩ := hlim
      exact ⟨hKb, nsK hns, ⟨mb, nsK hb, hbb⟩, ⟨mc, nsK h1, h2⟩⟩
    have e0 : Env0 P w K mg (hidT s₁.heap H) callerA [] s₁ H := by
      refine ⟨rfl, hM, fun b o e => of_hidT e, Nat.le_of_eq (hidT_size _ _), trivial, ?_, hok, .of_eq hg⟩
      intro b hb
      exact absurd (show b ∈ ([] : List Addr) from hb) (by simp)
    have hmods : ∃ mm, (hidT s₁.heap H).Ns sysModules mm := by
      obtain ⟨mm, h1⟩ := hsm
      exact ⟨mm, nsK h1⟩
    have z := (F _ hKb (nsK hns) hmods).go callerA [] s₁ H ⟨[.ref a], []⟩ [.ref a] [.ref a] _ _ hr rfl e0
      (hbind s₁ (.ref a)) (.cons rfl .nil) (hsp H hO hS)
    refine codeAny_mono z fun r s' h => ?_
    match r, h with
    | .error e, h => exact (hCX H e s' h).elim
    | .ok .next, h => exact False.elim h
    | .ok .brk, h => exact False.elim h
    | .ok .cont, h => exact False.elim h
    | .ok (.ret u), ⟨v, H', os, bare, un, hok', r', q⟩ =>
      have q' : v = .bl true := q
      subst q'
      obtain rfl : u = Value.bool true := r'
      refine ⟨rfl, OldK.of_keep ?_, os, bare⟩
      intro b o e
      cases q : H b with
      | none =>
        refine un.keep b o e q ?_ (by simp)
        intro z
        exact absurd (show b ∈ ([] : List Addr) from z) (by simp)
      | some u =>
        rcases hO b with z | ⟨ob, xs, z⟩
        · rw [q] at z
          cases z
        · obtain ⟨e1, _⟩ := hok b _ z
          obtain ⟨e2, _⟩ := hok' b _ (un.frzs b ob _ z)
          rw [e] at e1
          cases e1
          exact e2
  cases hk : K.lookup a with
  | some o =>
    have e := KX a o hk
    rw [ha] at e
    cases e
    refine core (fun _ => none) (fun _ => Or.inl rfl) (Or.inr ⟨_, vs.toArray, _, hk, rfl, rfl, rfl, ?_, ?_⟩) ?_ ?_ ?_
    · rw [List.size_toArray, lenV]
      exact hl
    · simpa using rv
    · intro b u z
      cases (show (none : Option HO) = some u from z)
    · intro b z
      exact absurd rfl z
    · intro z
      exact absurd rfl z
  | none =>
    let o₁ : Obj := { cls := .type "list", data := .seq vs.toArray }
    let H₁ : Hp := fun b => if b = a then some (.frz o₁ (.lst (ns.map V.int))) else none
    have at1 : H₁ a = some (.frz o₁ (.lst (ns.map V.int))) := if_pos rfl
    have off : ∀ b, b ≠ a → H₁ b = none := fun b h => if_neg h
    refine core H₁ (fun b => ?_) (Or.inl (Or.inr ⟨o₁, at1⟩)) (fun b u z => ?_) (fun b z => ?_) fun _ => hk
    · by_cases hb : b = a
      · subst hb
        exact Or.inr ⟨_, _, at1⟩
      · exact Or.inl (off b hb)
    · by_cases hb : b = a
      · subst hb
        rw [at1] at z
        cases z
        refine ⟨ha, ?_, vs, _, rv, ha⟩
        rw [List.length_map]
        exact hl
      · rw [off b hb] at z
        cases z
    · by_cases hb : b = a
      · exact hb
      · exact absurd (off b hb) z

theorem walkG {l : PySem.W.OpenLaw} {n k : Nat} {q : Program} {loose : List Str} {XP : (Str → Option Value) → Heap → Prop}
    {YP : World → Heap → Prop} {d : DefRec} {K : Params → PySem.W.Frag} {CX : CXT} {sp : PySem.W.Frag → Sp} {x : Str}
    (hq : importsNone q = true) (hn : l.most = some n) (hn2 : n ≤ sizeLine) (hdf : d.params.defaults = []) (hr : Room k callerA)
    (hY : ∀ (w : World) (h : Heap), YP w h → (K w.params).In h)
    (F : ∀ (w : World) (mg : Str → Option Value) (fa : Addr) (h : Heap), (K w.params).In h → h.Ns mainGlobals mg →
      mg d.name = some (.ref fa) →
      ∃ fd : FuncData, (∀ (s : Shared) (u : Value), BindsTo s fd ⟨[u], []⟩ [(x, u)]) ∧
        ∀ base : Heap, (K w.params).In base → base.Ns mainGlobals mg → (∃ mm, base.Ns sysModules mm) →
          FnG l.prog w (K w.params) mg base CX k fa fd [x] (sp (K w.params)))
    (hsp : ∀ (K : PySem.W.Frag) (H : Hp) (a : Addr) (ns : List Int), ns.length ≤ n → Only H →
      SqL K H a (ns.map V.int) → sp K [.ref a] H (fun v _ => v = .bl true) fun _ _ _ => False)
    (hCX : ∀ (H : Hp) (s : Shared) (e : Value) (s' : Shared), CX [] H s (fun _ _ _ => False) e s' → False) :
    PySem.W.WalkO q loose XP YP l.row.toRowW d [] (fun f vs => PySem.call f vs) := by
  refine Att.attach_call hn hdf ?_
  intro w s₀ s₁ mg mb fa o pm cd doc a vs ns G Y ho hd hcd hmg hobj hints hlen hg
  have KX := hY w _ Y
  obtain ⟨fd, hb, hF⟩ := F w mg fa _ KX G.T.g hmg
  have hz := Nat.le_trans hlen hn2
  obtain ⟨mm, hmm, _⟩ := (G.T.seer hq).mods
  refine law_end KX G.T.g G.T.b G.T.builtins G.T.nolimit hg hobj hints hz hr ⟨mm, hmm⟩ hF hb ?_ ?_
  · exact fun H hO hS => hsp _ H a ns hlen hO hS
  · exact fun H e s' => hCX H s₁ e s'

/-! ### powers of great numbers -/
def CPowG (i j : Int) : Prop := 0 ≤ j ∧ (Builtin.Int.intBits i : Int) * j ≤ 2 ^ 27
theorem op_powG {X : Cx} : OpR X (binaryOp .Pow) (rI CPowG fun i j => .int (i ^ j.toNat)) :=
  opI fun _ _ _ _ _ _ _ hc q => pow_int hc.1 hc.2 q

/-! ### data at any depth, dicts among them -/
def kD : Key → PyData
  | .inl i => .int i
  | .inr x => .str x
mutual
inductive Da (K : PySem.W.Frag) (H : Hp) : V → PyData → Prop
  | non : Da K H .non .none
  | bl (b : Bool) : Da K H (.bl b) (.bool b)
  | int (i : Int) : Da K H (.int i) (.int i)
  | str (x : Str) : Da K H (.str x) (.str x)
  | lst {a : Addr} {xs : List V} {ds : List PyData} (h : SqL K H a xs) (t : DaAll K H xs ds) : Da K H (.ref a) (.list ds)
  | tup {a : Addr} {xs : List V} {ds : List PyData} (h : SqT K H a xs) (t : DaAll K H xs ds) : Da K H (.ref a) (.tuple ds)
  | dic {a : Addr} {kvs : List (Key × V)} {ds : List (PyData × PyData)} (h : H a = some (.dK kvs)) (t : DaKv K H kvs ds) : Da K H (.ref a) (.dict ds)
inductive DaAll (K : PySem.W.Frag) (H : Hp) : List V → List PyData → Prop
  | nil : DaAll K H [] []
  | cons {v : V} {vs : List V} {d : PyData} {ds : List PyData} (h : Da K H v d) (t : DaAll K H vs ds) : DaAll K H (v :: vs) (d :: ds)
inductive DaKv (K : PySem.W.Frag) (H : Hp) : List (Key × V) → List (PyData × PyData) → Prop
  | nil : DaKv K H [] []
  | cons {k : Key} {v : V} {kvs : List (Key × V)} {d : PyData} {ds : List (PyData × PyData)} (h : Da K H v d) (t : DaKv K H kvs ds) :
      DaKv K H ((k, v) :: kvs) ((kD k, d) :: ds)
end
section
variable {K : PySem.W.Frag} {H H' : Hp}
theorem seqT_mono (s : Same H H') {a : Addr} {xs : List V} (h : SqT K H a xs) : SqT K H' a xs := by
  rcases h with (e | ⟨o, e⟩) | e
  · exact .inl (.inl (s _ _ e))
  · exact .inl (.inr ⟨o, s _ _ e⟩)
  · exact .inr e
mutual
theorem Da.mono (s : Same H H') : ∀ {v : V} {d : PyData}, Da K H v d → Da K H' v d
  | _, _, .non => .non
  | _, _, .bl b => .bl b
  | _, _, .int i => .int i
  | _, _, .str x => .str x
  | _, _, .lst h t => .lst (s.seq h) (DaAll.mono s t)
  | _, _, .tup h t => .tup (seqT_mono s h) (DaAll.mono s t)
  | _, _, .dic h t => .dic (s _ _ h) (DaKv.mono s t)
theorem DaAll.mono (s : Same H H') : ∀ {vs : List V} {ds : List PyData}, DaAll K H vs ds → DaAll K H' vs ds
  | _, _, .nil => .nil
  | _, _, .cons h t => .cons (Da.mono s h) (DaAll.mono s t)
theorem DaKv.mono (s : Same H H') : ∀ {vs : List (Key × V)} {ds : List (PyData × PyData)}, DaKv K H vs ds → DaKv K H' vs ds
  | _, _, .nil => .nil
  | _, _, .cons h t => .cons (Da.mono s h) (DaKv.mono s t)
end
end
section
variable {X : Cx} {pins : List (Addr × Obj)} {σ : L2.St} {H : Hp} {s : Shared}
theorem key_reads {h : Heap} {k : Key} {u : Value} (e : keyIs k u = true) : Reads h u (kD k) [] := by
  rcases keyIs_shape e with ⟨i, t, rfl, rfl⟩ | ⟨x, t, rfl, rfl⟩
  · exact .int i t
  · exact .str x t
/-- a list does not stand where the modules' dict stands -/
theorem not_mods (hm : ∃ mm, X.base.Ns sysModules mm) (I : Inv X pins σ H s) {a : Addr} {o : Obj} {vs : Array Value} {n : Nat}
    (ho : s.heap.get? a = some o) (hd : o.data = .seq vs n) : sysModules ≠ a := by
  rintro rfl
  obtain ⟨mm, om, es, ep, e1, e2, _⟩ := hm
  have e3 := I.bk _ _ e1
  rw [ho] at e3
  cases e3
  rw [hd] at e2
  cases e2
mutual
theorem Da.reads (hm : ∃ mm, X.base.Ns sysModules mm) (I : Inv X pins σ H s) : ∀ (d : PyData) (v : V) (u : Value), Da X.K H v d → RelV v u → ∃ as, Reads s.heap u d as ∧ sysModules ∉ as
  | .none, _, _, h, r => by
    cases h
    cases r
    exact ⟨_, .none, by simp⟩
  | .bool b, _, _, h, r => by
    cases h
    cases r
    exact ⟨_, .bool b, by simp⟩
  | .int i, _, _, h, r => by
    cases h
    obtain ⟨t, rfl⟩ := r
    exact ⟨_, .int i t, by simp⟩
  | .str x, _, _, h, r => by
    cases h
    obtain ⟨t, rfl⟩ := r
    exact ⟨_, .str x t, by simp⟩
  | .list ds, _, _, h, r => by
    cases h with
    | lst hs ha =>
      cases r
      obtain ⟨its, rv, ⟨o, n, ho, hc, _, hd⟩, _⟩ := I.list hs
      obtain ⟨as, hr, no⟩ := Da.readsAll hm I ds _ its ha rv
      refine ⟨_, .list ho hc hd hr, ?_⟩
      rw [List.mem_cons, not_or]
      exact ⟨not_mods hm I ho hd, no⟩
  | .tuple ds, _, _, h, r => by
    cases h with
    | tup hs ha =>
      cases r
      obtain ⟨its, rv, ⟨o, ho, hc, n, hd⟩, _⟩ := I.tuple hs
      obtain ⟨as, hr, no⟩ := Da.readsAll hm I ds _ its ha rv
      exact ⟨_, .tuple ho hc hd hr, no⟩
  | .dict ds, _, _, h, r => by
    cases h with
    | @dic a kvs _ he hk =>
      cases r
      have ok : ObjOk X.prog X.w H s.heap a (.dK kvs) := I.hok a _ he
      obtain ⟨_, ns, vs, kv, o, es, ep, ho, ex, hd, _, ps, _⟩ := ok
      obtain ⟨as, bs, h1, h2, n1, n2⟩ := Da.readsKv hm I ds kvs vs es.toList hk kv ps
      refine ⟨_, .dict ho ex.1 hd h1 h2, ?_⟩
      rw [List.mem_append, List.mem_cons, not_or, not_or]
      refine ⟨⟨fun z => ?_, n1⟩, n2⟩
      rw [← z] at ns
      exact absurd ns (by decide)
theorem Da.readsAll (hm : ∃ mm, X.base.Ns sysModules mm) (I : Inv X pins σ H s) : ∀ (ds : List PyData) (vs : List V) (us : List Value), DaAll X.K H vs ds → Vals vs us → ∃ as, ReadsAll s.heap us ds as ∧ sysModules ∉ as
  | [], _, _, h, r => by
    cases h
    cases r
    exact ⟨_, .nil, by simp⟩
  | d :: ds, _, _, h, r => by
    cases h with
    | cons h1 h2 =>
      cases r with
      | cons r1 r2 =>
        obtain ⟨as, q1, n1⟩ := Da.reads hm I d _ _ h1 r1
        obtain ⟨bs, q2, n2⟩ := Da.readsAll hm I ds _ _ h2 r2
        refine ⟨_, .cons q1 q2, ?_⟩
        rw [List.mem_append, not_or]
        exact ⟨n1, n2⟩
theorem Da.readsKv (hm : ∃ mm, X.base.Ns sysModules mm) (I : Inv X pins σ H s) : ∀ (ds : List (PyData × PyData)) (kvs : List (Key × V)) (vs : List (Key × Value)) (es : List DictEntry), DaKv X.K H kvs ds → KV kvs vs →
    Pairs (mixKind X.prog X.w) es vs → ∃ as bs, ReadsAll s.heap (es.map (·.key)) (ds.map (·.1)) as ∧ ReadsAll s.heap (es.map (·.val)) (ds.map (·.2)) bs ∧ sysModules ∉ as ∧ sysModules ∉ bs
  | [], _, _, _, h, r, p => by
    cases h
    cases r
    cases p
    exact ⟨_, _, .nil, .nil, by simp, by simp⟩
  | d :: ds, _, _, _, h, r, p => by
    cases h with
    | cons h1 h2 =>
      cases r with
      | cons r1 r2 =>
        cases p with
        | cons p1 p2 p3 =>
          obtain ⟨e1, e2⟩ := r1
          obtain ⟨as, q1, n1⟩ := Da.reads hm I _ _ _ h1 e2
          obtain ⟨cs, bs, q2, q3, n2, n3⟩ := Da.readsKv hm I ds _ _ _ h2 r2 p3
          rw [← p2] at q1
          rw [← e1] at p1
          refine ⟨_, _, .cons (key_reads p1) q2, .cons q1 q3, by simpa using n2, ?_⟩
          rw [List.mem_append, not_or]
          exact ⟨n1, n3⟩
end
end
/-! ### repr of data -/
def rRepr (K : PySem.W.Frag) : List V → Hp → VK → Prop := fun xs H Q =>
  ∃ (a : Addr) (d : PyData), xs = [.ref a] ∧ Da K H (.ref a) d ∧ d.showable = true ∧ d.depth ≤ 64 ∧ d.shown.length ≤ sizeLine ∧ Q (.str d.shown) H
theorem call_repr {X : Cx} (hm : ∃ mm, X.base.Ns sysModules mm) (gd : X.A.guards = some []) (hu : X.A.units + 70 < cLine) :
    CallR X (.builtin "repr") (rRepr X.K) := by
  intro pins s σ H xs us Q I r h
  obtain ⟨a, d, rfl, hs, sh, dp, sz, q⟩ := h
  cases r with
  | cons r1 r2 =>
    cases r2
    obtain ⟨as, rd, sy⟩ := Da.reads hm I d _ _ hs r1
    obtain rfl := r1
    refine repr_of_reads' rd sh (fun _ => sy) gd (by omega) (fun _ _ e => e) (fun h' u tk k => ?_) sz
    exact ⟨.str d.shown, H, I.kept (h' := h') (t' := tk) k, ⟨u, rfl⟩, q⟩
end Ev

/-! ## What an expression gives, while all that is tracked stands -/
namespace Ev
open PySem PySem.Spec PyProof.Rows L2
theorem PE.imp {X : Cx} {e : Expr} {t t' : TE} (h : PE X e t) (i : ∀ σ H Q, t' σ H Q → t σ H Q) : PE X e t' :=
  ⟨fun pins s σ H Q I z => h.run pins s σ H Q I (i σ H Q z)⟩
theorem Same.rfl' {H : Hp} : Same H H := fun _ _ e => e
theorem same_put {H : Hp} {p : Addr} {o : HO} (h : H p = none) : Same H (upd H p o) := fun b x e => by
  rw [upd_ne (ne_of_none e h)]
  exact e
/-- all but p stands as it stood -/
def Bu (p : Addr) (H H' : Hp) : Prop := ∀ b o, b ≠ p → H b = some o → H' b = some o
theorem Bu.refl {p : Addr} {H : Hp} : Bu p H H := fun _ _ _ e => e
theorem Bu.trans {p : Addr} {H H1 H2 : Hp} (h : Bu p H H1) (k : Bu p H1 H2) : Bu p H H2 := fun b o n e => k b o n (h b o n e)
theorem Bu.put {p : Addr} {H : Hp} {o : HO} : Bu p H (upd H p o) := fun b _ n e => by
  rw [upd_ne n]
  exact e
theorem Bu.new {p q : Addr} {H : Hp} {o : HO} (h : H q = none) : Bu p H (upd H q o) := fun b _ _ e => by
  rw [upd_ne (ne_of_none e h)]
  exact e
theorem Bu.of {p : Addr} {H H' : Hp} (h : Same H H') : Bu p H H' := fun b o _ e => h b o e
structure GP where
  p : Hp → V → Prop
  mono : ∀ {H H' : Hp} {u : V}, Same H H' → p H u → p H' u
def AllG (Gs : List GP) (H : Hp) (us : List V) : Prop := Paired (fun (G : GP) u => G.p H u) Gs us
theorem AllG.mono {H H' : Hp} (s : Same H H') : ∀ {Gs : List GP} {us : List V}, AllG Gs H us → AllG Gs H' us
  | _, _, .nil => .nil
  | G :: _, _, .cons h t => .cons (G.mono s h) (AllG.mono s t)
theorem AllG.append {H : Hp} : ∀ {Gs Gs' : List GP} {us us' : List V}, AllG Gs H us → AllG Gs' H us' → AllG (Gs ++ Gs') H (us ++ us')
  | _, _, _, _, .nil, k => k
  | _ :: _, _, _, _, .cons h t, k => .cons h (AllG.append t k)
def gEq (v : V) : GP := ⟨fun _ u => u = v, fun _ h => h⟩
def gLst (Gs : List GP) : GP := ⟨fun H u => ∃ p us, u = .ref p ∧ H p = some (.lst us) ∧ AllG Gs H us, fun s ⟨p, us, h1, h2, h3⟩ => ⟨p, us, h1, s _ _ h2, h3.mono s⟩⟩
def Gives (H0 : Hp) (te : TE) (G : GP) (σ : L2.St) : Prop := ∀ (H : Hp) (Q : VK), Same H0 H → (∀ H' u, Same H H' → G.p H' u → Q u H') → te σ H Q
def GivesL (H0 : Hp) (ta : TA) (Gs : List GP) (σ : L2.St) : Prop := ∀ (H : Hp) (Q : List V → Hp → Prop), Same H0 H → (∀ H' us, Same H H' → AllG Gs H' us → Q us H') → ta σ H Q
section
variable {H0 : Hp} {σ : L2.St} {te te' : TE} {ta : TA} {G : GP} {Gs Gs' : List GP} {i : Nat} {v : V} {C : Addr} {D : Ends} {rest : TS}
theorem g_nil : GivesL H0 tNil [] σ := fun H Q _ q => q H [] Same.rfl' .nil
theorem g_cons (h : Gives H0 te G σ) (t : GivesL H0 ta Gs σ) : GivesL H0 (tCons te ta) (G :: Gs) σ := fun H Q s q =>
  h H _ s fun H1 u s1 g1 => t H1 _ (s.trans s1) fun H2 us s2 g2 => q H2 (u :: us) (s1.trans s2) (.cons (G.mono s2 g1) g2)
theorem g_lst (h : GivesL H0 ta Gs σ) (hz : Gs.length ≤ 1000 := by simp) : Gives H0 (tLst ta) (gLst Gs) σ := fun H Q s q =>
  h H _ s fun H1 us s1 g1 => by
    have hl : us.length = Gs.length := (Paired.length g1).symm
    refine ⟨?_, fun p np => ?_⟩
    · have y := sizeLine_eq
      omega
    · have s2 := same_put (o := .lst us) np
      exact q _ _ (s1.trans s2) ⟨p, us, rfl, upd_same, g1.mono s2⟩
theorem g_cat (h : Gives H0 te (gLst Gs) σ) (h' : Gives H0 te' (gLst Gs') σ) (hz : Gs.length + Gs'.length ≤ 1000 := by simp) :
    Gives H0 (tOp rCat te te') (gLst (Gs ++ Gs')) σ := fun H Q s q =>
  h H _ s fun H1 u s1 ⟨p, us, e1, h1, g1⟩ => h' H1 _ (s.trans s1) fun H2 u' s2 ⟨p', us', e2, h2, g2⟩ => by
    have l1 : us.length = Gs.length := (Paired.length g1).symm
    have l2 : us'.length = Gs'.length := (Paired.length g2).symm
    refine ⟨p, p', us, us', e1, e2, s2 _ _ h1, h2, ?_, fun r nr => ?_⟩
    · have y := sizeLine_eq
      omega
    · have s3 := same_put (o := .lst (us ++ us')) nr
      exact q _ _ ((s1.trans s2).trans s3) ⟨r, us ++ us', rfl, upd_same, AllG.append (g1.mono (s2.trans s3)) (g2.mono s3)⟩
theorem g_var (hv : σ[i]? = some (some v)) (g : G.p H0 v) : Gives H0 (tVar i) G σ := fun H Q s q => ⟨v, hv, q H v Same.rfl' (G.mono s g)⟩
theorem g_eq (hv : σ[i]? = some (some v)) : Gives H0 (tVar i) (gEq v) σ := g_var hv rfl
theorem s_set (h : Gives H0 te G σ) (k : ∀ H' u, Same H0 H' → G.p H' u → rest D (σ.set i (some u)) H') : tSeq (tAsg te (gName i)) rest D σ H0 :=
  h H0 _ Same.rfl' fun H' u s g => k H' u s g
theorem s_ret (h : Gives H0 te G σ) (k : ∀ H' u, Same H0 H' → G.p H' u → D.rt u H') : tRet te D σ H0 :=
  h H0 _ Same.rfl' fun H' u s g => k H' u s g
end
/-- the abstract heap without p -/
def but (H : Hp) (p : Addr) : Hp := fun b => if b = p then none else H b
theorem but_ne {H : Hp} {p b : Addr} (h : b ≠ p) : but H p b = H b := if_neg h
theorem but_same {H H' : Hp} {p : Addr} (s : Same H H') : Same (but H p) (but H' p) := fun b o e => by
  by_cases h : b = p
  · rw [h] at e
    have z : but H p p = none := if_pos rfl
    rw [z] at e
    cases e
  · rw [but_ne h] at e ⊢
    exact s _ _ e
theorem but_le {H H' : Hp} {p : Addr} (s : Bu p H H') : Same (but H p) H' := fun b o e => by
  by_cases h : b = p
  · rw [h] at e
    have z : but H p p = none := if_pos rfl
    rw [z] at e
    cases e
  · rw [but_ne h] at e
    exact s _ _ h e
/-- data that do not hold p -/
def gDa (K : PySem.W.Frag) (p : Addr) (d : PyData) : GP := ⟨fun H u => Da K (but H p) u d, fun s h => h.mono (but_same s)⟩
section
variable {K : PySem.W.Frag} {p : Addr} {op : HO} {H0 : Hp} {σ : L2.St} {te : TE} {ta : TA} {G : GP} {Gs : List GP} {v : V} {d : PyData} {ds : List PyData}
theorem ne_new {H : Hp} {q : Addr} (hp : H0 p = some op) (s : Same H0 H) (nq : H q = none) : q ≠ p := fun z => by
  rw [z, s _ _ hp] at nq
  cases nq
theorem g_c (h : ∀ H, G.p H v) : Gives H0 (tC v) G σ := fun H Q _ q => q H v Same.rfl' (h H)
theorem g_neg {i : Int} : Gives H0 (tUn (rU fun i => .int (-i)) (tC (.int i))) (gDa K p (.int (-i))) σ := fun H Q _ q => ⟨i, rfl, q H _ Same.rfl' (.int _)⟩
theorem g_pow {i j : Int} (h : CPow i j) : Gives H0 (tOp (rI CPow fun i j => .int (i ^ j.toNat)) (tC (.int i)) (tC (.int j))) (gDa K p (.int (i ^ j.toNat))) σ :=
  fun H Q _ q => ⟨i, j, rfl, rfl, h, q H _ Same.rfl' (.int _)⟩
theorem allDa {H : Hp} : ∀ {ds : List PyData} {us : List V}, AllG (ds.map (gDa K p)) H us → DaAll K (but H p) us ds
  | [], _, .nil => .nil
  | _ :: _, _, .cons h t => .cons h (allDa t)
theorem g_lstD (hp : H0 p = some op) (h : GivesL H0 ta (ds.map (gDa K p)) σ) (hz : ds.length ≤ 1000 := by simp) : Gives H0 (tLst ta) (gDa K p (.list ds)) σ := fun H Q s q =>
  h H _ s fun H1 us s1 g1 => by
    have hl : us.length = ds.length := by rw [← Paired.length g1, List.length_map]
    refine ⟨?_, fun r nr => ?_⟩
    · have y := sizeLine_eq
      omega
    · have s2 := same_put (o := .lst us) nr
      have ne := ne_new hp (s.trans s1) nr
      refine q _ _ (s1.trans s2) (.lst (.inl (.inl ?_)) ((allDa g1).mono (but_same s2)))
      rw [but_ne ne, upd_same]
theorem g_tupD (hp : H0 p = some op) (h : GivesL H0 ta (ds.map (gDa K p)) σ) (hz : ds.length ≤ 1000 := by simp) : Gives H0 (tTup ta) (gDa K p (.tuple ds)) σ := fun H Q s q =>
  h H _ s fun H1 us s1 g1 => by
    have hl : us.length = ds.length := by rw [← Paired.length g1, List.length_map]
    refine ⟨?_, fun r nr => ?_⟩
    · have y := sizeLine_eq
      omega
    · have s2 := same_put (o := .tup us) nr
      have ne := ne_new hp (s.trans s1) nr
      refine q _ _ (s1.trans s2) (.tup (.inl (.inl ?_)) ((allDa g1).mono (but_same s2)))
      rw [but_ne ne, upd_same]
theorem g_dnew (hp : H0 p = some op) : Gives H0 tDNewK (gDa K p (.dict [])) σ := fun H Q s q r nr => by
  refine q _ _ (same_put nr) (.dic ?_ .nil)
  rw [but_ne (ne_new hp s nr), upd_same]
theorem g_disp {x : Str} (hp : H0 p = some op) : Gives H0 (tDisp [(tC (.str x), tTup (tCons (tC .non) tNil))]) (gDa K p (.dict [(.str x, .tuple [.none])])) σ := fun H Q s q r nr => by
  refine ⟨(by show 1 ≤ sizeLine; decide), fun t nt => ?_⟩
  have ne : t ≠ r := fun z => by
    rw [z, upd_same] at nt
    cases nt
  have n1 := ne_new hp s nr
  have n2 := ne_new hp (s.trans (same_put nr)) nt
  refine ⟨by rw [upd_ne ne.symm, upd_same], [(.inr x, .ref t)], rfl, (by show 1 ≤ 15; decide), q _ _ ?_ (.dic (kvs := [(.inr x, .ref t)]) ?_ (.cons (.tup (xs := [.non]) (.inl (.inl ?_)) (.cons .non .nil)) .nil))⟩
  · intro b o e
    have nb : b ≠ r := ne_of_none e nr
    have nbt : b ≠ t := fun z => by
      rw [z] at e
      rw [upd_ne ne, e] at nt
      cases nt
    rw [upd_ne nb, upd_ne nbt, upd_ne nb]
    exact e
  · rw [but_ne n1]
    exact upd_same
  · rw [but_ne n2, upd_ne ne, upd_same]
theorem allEq {H : Hp} : ∀ {ys : List V}, AllG (ys.map gEq) H ys
  | [] => .nil
  | _ :: _ => .cons rfl allEq
/-- [elt for .. in xs], the elements plain values -/
theorem g_lcP {a : Addr} {xs ys : List V} {i : Nat} {g : TG} {vs : List Nat} (hi : σ[i]? = some (some (.ref a))) (hx : SqL K H0 a xs) (hz : xs.length ≤ 1000) (hl : ys.length = xs.length)
    (he : ∀ (j : Nat) (x y : V), xs[j]? = some x → ys[j]? = some y → ∀ (H : Hp) (R : VK), Same H0 H → R y H →
      g x (wipe σ vs) H fun σ2 H2 => wipe σ2 vs = wipe σ vs ∧ te σ2 H2 R) :
    Gives H0 (tLc (iList K (tVar i)) g tYes te vs) (gLst (ys.map gEq)) σ := fun H Q s q => by
  refine ⟨_, hi, a, rfl, ⟨xs, s.seq hx⟩, fun D nD => ?_⟩
  have sD : Same H (upd H D (.lst [])) := same_put nD
  have y := sizeLine_eq
  refine lc_list (K := K) (a := a) (xs := xs) (fun k H' => Same H H' ∧ H' D = some (.lst (ys.take k))) ⟨sD, upd_same⟩ (fun k H' _ ⟨s', _⟩ => s'.seq (s.seq hx)) ?_ ?_
  · rintro k x H' hk ⟨s', eD⟩
    have hk' : k < ys.length := by
      obtain ⟨h, _⟩ := List.getElem?_eq_some_iff.mp hk
      omega
    have hy := List.getElem?_eq_getElem hk'
    refine cast ?_ (he k x ys[k] hk hy H' (fun y H4 => ∃ acc, H4 D = some (.lst acc) ∧ acc.length < sizeLine ∧ Same H (upd H4 D (.lst (acc ++ [y]))) ∧ upd H4 D (.lst (acc ++ [y])) D = some (.lst (ys.take (k + 1)))) (s.trans s') ⟨_, eD, ?_, ?_, ?_⟩)
    · rfl
    · rw [List.length_take]
      omega
    · intro b o e
      rw [upd_ne (ne_of_none e nD)]
      exact s' _ _ e
    · rw [upd_same, List.take_add_one, hy]
      rfl
  · rintro H' ⟨s', eD⟩
    rw [← hl, List.take_length] at eD
    exact q H' _ s' ⟨D, ys, rfl, eD, allEq⟩
/-- [elt for i in range(m)], the elements plain values -/
theorem g_lcR {ys : List V} {m : Int} {g : TG} {vs : List Nat} (hm : -(2 ^ 62) ≤ m ∧ m < 2 ^ 62) (hl : ys.length = m.toNat) (hz : ys.length ≤ 1000)
    (he : ∀ (j : Nat) (y : V), ys[j]? = some y → ∀ (H : Hp) (R : VK), Same H0 H → R y H →
      g (.int (0 + j)) (wipe σ vs) H fun σ2 H2 => wipe σ2 vs = wipe σ vs ∧ te σ2 H2 R) :
    Gives H0 (tLc (iRng1 (tCons (tC (.int m)) tNil)) g tYes te vs) (gLst (ys.map gEq)) σ := fun H Q s q => by
  refine ⟨m, rfl, hm.1, hm.2, fun D nD => ?_⟩
  have sD : Same H (upd H D (.lst [])) := same_put nD
  have y := sizeLine_eq
  refine lc_range (lo := 0) (n := m.toNat) (fun k H' => Same H H' ∧ H' D = some (.lst (ys.take k))) ⟨sD, upd_same⟩ ?_ ?_
  · rintro k H' hk ⟨s', eD⟩
    have hk' : k < ys.length := by omega
    have hy := List.getElem?_eq_getElem hk'
    refine cast ?_ (he k ys[k] hy H' (fun y H4 => ∃ acc, H4 D = some (.lst acc) ∧ acc.length < sizeLine ∧ Same H (upd H4 D (.lst (acc ++ [y]))) ∧ upd H4 D (.lst (acc ++ [y])) D = some (.lst (ys.take (k + 1)))) (s.trans s') ⟨_, eD, ?_, ?_, ?_⟩)
    · rfl
    · rw [List.length_take]
      omega
    · intro b o e
      rw [upd_ne (ne_of_none e nD)]
      exact s' _ _ e
    · rw [upd_same, List.take_add_one, hy]
      rfl
  · rintro H' ⟨s', eD⟩
    rw [← hl, List.take_length] at eD
    exact q H' _ s' ⟨D, ys, rfl, eD, allEq⟩
/-! ### tests whose answer is known -/
def GivesT (H0 : Hp) (tt : TT) (b : Bool) (σ : L2.St) : Prop := ∀ (H : Hp) (Q : Bool → Hp → Prop), Same H0 H → (∀ H', Same H H' → Q b H') → tt σ H Q
theorem s_skip {tt : TT} {t rest : TS} {D : Ends} (h : GivesT H0 tt false σ) (k : ∀ H', Same H0 H' → rest D σ H') : tSeq (tIfS tt t tNext) rest D σ H0 :=
  h H0 _ Same.rfl' fun H' s => iteF (k H' s)
theorem s_skip1 {tt : TT} {t : TS} {D : Ends} (h : GivesT H0 tt false σ) (k : ∀ H', Same H0 H' → D.nx σ H') : tIfS tt t tNext D σ H0 :=
  h H0 _ Same.rfl' fun H' s => iteF (k H' s)
theorem g_repr (h : Gives H0 te G σ) (hd : ∀ H u, Same H0 H → G.p H u → ∃ a, u = .ref a ∧ Da K H u d) (h1 : d.showable = true) (h2 : d.depth ≤ 64) (h3 : d.shown.length ≤ sizeLine) :
    Gives H0 (tCB (rRepr K) (tCons te tNil)) (gEq (.str d.shown)) σ := fun H Q s q =>
  h H _ s fun H1 u s1 g1 => by
    obtain ⟨a, rfl, da⟩ := hd H1 u (s.trans s1) g1
    exact ⟨a, d, rfl, da, h1, h2, h3, q H1 _ s1 rfl⟩
theorem t_neS {te' : TE} {x : Str} (h : Gives H0 te (gEq (.str x)) σ) (h' : Gives H0 te' (gEq (.str x)) σ) : GivesT H0 (tTest (tOp rNe te te')) false σ := fun H Q s q =>
  h H _ s fun H1 u s1 e1 => h' H1 _ (s.trans s1) fun H2 u' s2 e2 => by
    have e1 : u = .str x := e1
    have e2 : u' = .str x := e2
    subst e1
    subst e2
    refine ⟨rfl, _, rfl, ?_⟩
    rw [decide_eq_true rfl]
    exact q H2 (s1.trans s2)
theorem dp_bools {H : Hp} : ∀ bs : List Bool, DpAll K H (bs.map V.bl) (bs.map PyData.bool)
  | [] => .nil
  | b :: bs => .cons (.bl b) (dp_bools bs)
theorem eqv_bools : ∀ bs : List Bool, PyData.eqvAll (bs.map PyData.bool) (bs.map PyData.bool) = true
  | [] => by simp [PyData.eqvAll]
  | b :: bs => by simp [PyData.eqvAll, PyData.eqv, eqv_bools bs]
theorem lay_bools : ∀ bs : List Bool, PyData.canLayAll0 (bs.map PyData.bool) = true
  | [] => by simp [PyData.canLayAll0]
  | b :: bs => by simp [PyData.canLayAll0, PyData.canLay0, lay_bools bs]
theorem depth_bools : ∀ bs : List Bool, PyData.depthAll (bs.map PyData.bool) = 0
  | [] => by simp [PyData.depthAll]
  | b :: bs => by simp [PyData.depthAll, PyData.depth, depth_bools bs]
theorem shaped_bools (bs : List Bool) : SeqAt.shaped (.list (bs.map PyData.bool)) = true := by
  show (PyData.canLay0 (.list (bs.map .bool)) && decide (PyData.depth (.list (bs.map .bool)) ≤ 64)) = true
  simp [PyData.canLay0, PyData.depth, lay_bools, depth_bools]
theorem all_bl {H : Hp} : ∀ {bs : List Bool} {us : List V}, AllG (bs.map fun b => gEq (.bl b)) H us → us = bs.map V.bl
  | [], _, .nil => rfl
  | _ :: _, _, .cons h t => by
    have h : _ = V.bl _ := h
    rw [h, all_bl t]
    rfl
theorem t_neB {te' : TE} {bs : List Bool} (h : Gives H0 te (gLst (bs.map fun b => gEq (.bl b))) σ) (h' : Gives H0 te' (gLst (bs.map fun b => gEq (.bl b))) σ) :
    GivesT H0 (tTest (tOp (rNeD K) te te')) false σ := fun H Q s q =>
  h H _ s fun H1 u s1 ⟨p1, us1, e1, l1, g1⟩ => h' H1 _ (s.trans s1) fun H2 u' s2 ⟨p2, us2, e2, l2, g2⟩ => by
    subst e1
    subst e2
    rw [all_bl g1] at l1
    rw [all_bl g2] at l2
    refine ⟨_, _, .lst (.inl (.inl (s2 _ _ l1))) (dp_bools bs), .lst (.inl (.inl l2)) (dp_bools bs), shaped_bools bs, shaped_bools bs, _, rfl, ?_⟩
    have z : PyData.eqv (.list (bs.map .bool)) (.list (bs.map .bool)) = true := by
      simp only [PyData.eqv]
      exact eqv_bools bs
    rw [z]
    exact q H2 (s1.trans s2)
theorem t_not {tt : TT} {b : Bool} (h : GivesT H0 tt b σ) : GivesT H0 (tNot tt) (!b) σ := fun H Q s q => h H _ s q
theorem t_orF {tt uu : TT} (h : GivesT H0 tt false σ) (k : GivesT H0 uu false σ) : GivesT H0 (tOr tt uu) false σ := fun H Q s q =>
  h H _ s fun H1 s1 => iteF (k H1 Q (s.trans s1) fun H2 s2 => q H2 (s1.trans s2))
end
section
variable {K : PySem.W.Frag} {p : Addr} {H0 : Hp} {σ : L2.St}
theorem g_nonD : Gives H0 (tC .non) (gDa K p .none) σ := g_c fun _ => Da.non
theorem g_blD {b : Bool} : Gives H0 (tC (.bl b)) (gDa K p (.bool b)) σ := g_c fun _ => Da.bl b
theorem g_intD {i : Int} : Gives H0 (tC (.int i)) (gDa K p (.int i)) σ := g_c fun _ => Da.int i
theorem g_strD {x : Str} : Gives H0 (tC (.str x)) (gDa K p (.str x)) σ := g_c fun _ => Da.str x
end
theorem sum_le_all (m : Nat) : ∀ l : List Nat, (∀ n ∈ l, n ≤ m) → l.sum ≤ m * l.length
  | [], _ => by simp
  | n :: l, h => by
    have h1 := h n (List.mem_cons_self ..)
    have h2 := sum_le_all m l fun k hk => h k (List.mem_cons_of_mem _ hk)
    rw [List.sum_cons, List.length_cons, Nat.mul_succ]
    omega
theorem mem_all {H : Hp} : ∀ {Gs : List GP} {us : List V}, AllG Gs H us → ∀ v ∈ us, ∃ G ∈ Gs, G.p H v
  | _, _, .nil, _, h => nomatch h
  | G :: _, _, .cons h t, v, hv => by
    rcases List.mem_cons.mp hv with rfl | hv
    · exact ⟨G, List.mem_cons_self .., h⟩
    · obtain ⟨G', h1, h2⟩ := mem_all t v hv
      exact ⟨G', List.mem_cons_of_mem _ h1, h2⟩
theorem all_eq {H : Hp} : ∀ {ys us : List V}, AllG (ys.map gEq) H us → us = ys
  | [], _, .nil => rfl
  | _ :: _, _, .cons h t => by
    have h : _ = _ := h
    rw [h, all_eq t]
end Ev

/-! ## General steps -/
namespace Ev
open PySem PySem.Spec PyProof.Rows L2
section
variable {K : PySem.W.Frag} {B H0 : Hp} {σ : L2.St} {te tf : TE} {ta : TA} {i : Nat} {x v : V} {d : PyData} {ds : List PyData} {b c : Bool} {T : String} {tt uu : TT} {t rest : TS} {D : Ends} {a : Addr} {xs : List V} {k : Int} {G : GP}
theorem t_or (h : GivesT H0 tt b σ) (k : b = false → GivesT H0 uu c σ) : GivesT H0 (tOr tt uu) (b || c) σ := fun H Q s q =>
  h H _ s fun H1 s1 => by
    cases b with
    | true => exact iteT (q H1 s1)
    | false => exact iteF (k rfl H1 Q (s.trans s1) fun H2 s2 => q H2 (s1.trans s2))
theorem s_ifB (h : GivesT H0 tt b σ) (k1 : b = true → ∀ H', Same H0 H' → t { D with nx := rest D } σ H') (k2 : b = false → ∀ H', Same H0 H' → rest D σ H') : tSeq (tIfS tt t tNext) rest D σ H0 :=
  h H0 _ Same.rfl' fun H' s => by
    cases b with
    | true => exact iteT (k1 rfl H' s)
    | false => exact iteF (k2 rfl H' s)
theorem t_andB (h : GivesT H0 tt b σ) (k : b = true → GivesT H0 uu c σ) : GivesT H0 (tAnd tt uu) (b && c) σ := fun H Q s q =>
  h H _ s fun H1 s1 => by
    cases b with
    | true => exact iteT (k rfl H1 Q (s.trans s1) fun H2 s2 => q H2 (s1.trans s2))
    | false => exact iteF (q H1 s1)
theorem s_ifB1 (h : GivesT H0 tt b σ) (k1 : b = true → ∀ H', Same H0 H' → t D σ H') (k2 : b = false → ∀ H', Same H0 H' → D.nx σ H') : tIfS tt t tNext D σ H0 :=
  h H0 _ Same.rfl' fun H' s => by
    cases b with
    | true => exact iteT (k1 rfl H' s)
    | false => exact iteF (k2 rfl H' s)
theorem s_set1 (h : Gives H0 te G σ) (k : ∀ H' u, Same H0 H' → G.p H' u → D.nx (σ.set i (some u)) H') : tAsg te (gName i) D σ H0 :=
  h H0 _ Same.rfl' fun H' u s g => k H' u s g
theorem t_eqI2 {r k : Int} (h : Gives H0 te (gEq (.int r)) σ) : GivesT H0 (tTest (tOp rEq te (tC (.int k)))) (decide (r = k)) σ := fun H Q s q =>
  h H _ s fun H1 u s1 e => by
    have e : u = .int r := e
    subst e
    refine ⟨rfl, _, rfl, ?_⟩
    have z : decide (V.int r = V.int k) = decide (r = k) := decide_eq_decide.mpr ⟨fun h => V.int.inj h, fun h => by rw [h]⟩
    rw [z]
    exact q H1 s1
theorem t_eqI {r k : Int} (h : σ[i]? = some (some (.int r))) : GivesT H0 (tTest (tOp rEq (tVar i) (tC (.int k)))) (decide (r = k)) σ := fun H Q s q => by
  refine ⟨_, h, rfl, _, rfl, ?_⟩
  have z : decide (V.int r = V.int k) = decide (r = k) := decide_eq_decide.mpr ⟨fun h => V.int.inj h, fun h => by rw [h]⟩
  rw [z]
  exact q H Same.rfl'
theorem t_neI {r k : Int} (h : Gives H0 te (gEq (.int r)) σ) : GivesT H0 (tTest (tOp rNe te (tC (.int k)))) (!decide (r = k)) σ := fun H Q s q =>
  h H _ s fun H1 u s1 e => by
    have e : u = .int r := e
    subst e
    refine ⟨rfl, _, rfl, ?_⟩
    have z : decide (V.int r = V.int k) = decide (r = k) := decide_eq_decide.mpr ⟨fun h => V.int.inj h, fun h => by rw [h]⟩
    rw [z]
    exact q H1 s1
theorem g_and (h : Gives H0 te (gEq (.bl b)) σ) (k : b = true → Gives H0 tf (gEq (.bl c)) σ) : Gives H0 (tAndV te tf) (gEq (.bl (b && c))) σ := fun H Q s q =>
  h H _ s fun H1 u s1 e => by
    refine ⟨b, e, ?_⟩
    cases b with
    | true => exact iteT (k rfl H1 Q (s.trans s1) fun H2 u2 s2 e2 => q H2 u2 (s1.trans s2) e2)
    | false => exact iteF (q H1 _ s1 rfl)
theorem t_valB (h : Gives H0 te (gEq (.bl b)) σ) : GivesT H0 (tB te) b σ := fun H Q s q => h H _ s fun H1 u s1 e => ⟨b, e, q H1 s1⟩
end
abbrev rGtI : R2 := rI0 fun i j => .bl (decide (j < i))
abbrev rLeI : R2 := rI0 fun i j => .bl (decide (i ≤ j))
abbrev rLtI : R2 := rI0 fun i j => .bl (decide (i < j))
theorem g_all {K : PySem.W.Frag} {H0 : Hp} {σ : L2.St} {te : TE} {bs : List Bool} (h : Gives H0 te (gLst (bs.map fun b => gEq (.bl b))) σ) : Gives H0 (tCB (rAll K) (tCons te tNil)) (gEq (.bl (bs.all id))) σ := fun H Q s q =>
  h H _ s fun H1 u s1 g1 => by
    obtain ⟨p, us, rfl, hp, ha⟩ := g1
    have eu := all_bl ha
    subst eu
    exact ⟨p, bs, rfl, .inl (.inl hp), q H1 _ s1 rfl⟩
def rReprA (K : PySem.W.Frag) : List V → Hp → VK → Prop := fun xs H Q =>
  ∃ (x : V) (d : PyData), xs = [x] ∧ Da K H x d ∧ d.showable = true ∧ d.depth ≤ 64 ∧ d.shown.length ≤ sizeLine ∧ Q (.str d.shown) H
theorem call_reprA {X : Cx} (hm : ∃ mm, X.base.Ns sysModules mm) (gd : X.A.guards = some []) (hu : X.A.units + 70 < cLine) :
    CallR X (.builtin "repr") (rReprA X.K) := by
  intro pins s σ H xs us Q I r h
  obtain ⟨x, d, rfl, hs, sh, dp, sz, q⟩ := h
  have big : ∀ a, x = .ref a → wpAny (model X.prog X.w) X.A (call (.builtin "repr") us) (EP X pins σ Q) X.xe s := by
    rintro a rfl
    exact call_repr hm gd hu pins s σ H _ us Q I r ⟨a, d, rfl, hs, sh, dp, sz, q⟩
  cases hs with
  | non =>
    cases r with
    | cons r1 r2 =>
      cases r2
      cases r1
      rw [PyData.shown] at q
      exact PySem.P.repr_of_none ⟨.str _, H, I.tok _, ⟨_, rfl⟩, q⟩
  | bl b =>
    cases r with
    | cons r1 r2 =>
      cases r2
      cases r1
      rw [PyData.shown] at q
      exact PySem.P.repr_of_bool ⟨.str _, H, I.tok _, ⟨_, rfl⟩, q⟩
  | int i =>
    cases r with
    | cons r1 r2 =>
      cases r2
      obtain ⟨t, rfl⟩ := r1
      rw [PyData.shown] at q
      exact PySem.P.repr_of_int (by rw [PyData.showable] at sh; exact of_decide_eq_true sh) ⟨.str _, H, I.tok _, ⟨_, rfl⟩, q⟩
  | str z =>
    cases r with
    | cons r1 r2 =>
      cases r2
      obtain ⟨t, rfl⟩ := r1
      rw [PyData.shown] at q sz
      exact PySem.P.repr_of_str ⟨.str _, H, I.tok _, ⟨_, rfl⟩, q⟩ sz
  | lst h1 h2 => exact big _ rfl
  | tup h1 h2 => exact big _ rfl
  | dic h1 h2 => exact big _ rfl
theorem s_par {H0 : Hp} {σ : L2.St} {ta : TA} {G1 G2 : GP} {i j : Nat} {D : Ends} {rest : TS} (h : GivesL H0 ta [G1, G2] σ) (k : ∀ H' u1 u2, Same H0 H' → G1.p H' u1 → G2.p H' u2 → rest D ((σ.set i (some u1)).set j (some u2)) H') : tSeq (tPar i j ta) rest D σ H0 :=
  h H0 _ Same.rfl' fun H' us s g => by
    cases g with
    | @cons _ u1 _ _ g1 g =>
    cases g with
    | @cons _ u2 _ _ g2 g =>
    cases g
    exact ⟨u1, u2, rfl, k H' u1 u2 s g1 g2⟩
section
variable {K : PySem.W.Frag} {B H0 : Hp} {σ : L2.St} {te tf : TE} {ta : TA} {i : Nat} {x v : V} {d : PyData} {ds : List PyData} {b c : Bool} {T : String} {tt uu : TT} {t rest : TS} {D : Ends} {a : Addr} {xs : List V} {k : Int} {G : GP}
theorem g_reprA (h : σ[i]? = some (some x)) (hd : Da K H0 x d) (h1 : d.showable = true) (h2 : d.depth ≤ 64) (h3 : d.shown.length ≤ sizeLine) : Gives H0 (tCB (rReprA K) (tCons (tVar i) tNil)) (gEq (.str d.shown)) σ := fun H Q s q =>
  ⟨_, h, x, d, rfl, hd.mono s, h1, h2, h3, q H _ Same.rfl' rfl⟩
theorem g_eqS {y z : Str} (h : Gives H0 te (gEq (.str y)) σ) (h' : Gives H0 tf (gEq (.str z)) σ) : Gives H0 (tOp rEq te tf) (gEq (.bl (decide (y = z)))) σ := fun H Q s q =>
  h H _ s fun H1 u s1 e1 => h' H1 _ (s.trans s1) fun H2 u' s2 e2 => by
    have e1 : u = .str y := e1
    have e2 : u' = .str z := e2
    subst e1
    subst e2
    refine ⟨rfl, q H2 _ (s1.trans s2) ?_⟩
    show _ = _
    congr 1
    exact decide_eq_decide.mpr ⟨fun h => V.str.inj h, fun h => by rw [h]⟩
end
theorem Gives.imp {H0 : Hp} {te : TE} {G G' : GP} {σ : L2.St} (h : Gives H0 te G σ) (i : ∀ H u, Same H0 H → G.p H u → G'.p H u) : Gives H0 te G' σ := fun H Q s q =>
  h H _ s fun H1 u s1 g => q H1 u s1 (i H1 u (s.trans s1) g)
theorem keepA {a p : Addr} {H1 H H' : Hp} (np : H1 p = none) (h : ∀ o, H1 a = some o → H a = some o) (b : Bu p H H') : ∀ o, H1 a = some o → H' a = some o := fun o e => b _ _ (ne_of_none e np) (h o e)
theorem sq_of {K : PySem.W.Frag} {a : Addr} {H H' : Hp} {zs : List V} (s : SqL K H a zs) (h : ∀ o, H a = some o → H' a = some o) : SqL K H' a zs := by
  rcases s with (e | ⟨o, e⟩) | e
  · exact .inl (.inl (h _ e))
  · exact .inl (.inr ⟨o, h _ e⟩)
  · exact .inr e
theorem mm_at (z : Int) (h : z ≤ 3) : -(2 ^ 62) ≤ (if z > 1 then z else 1) ∧ (if z > 1 then z else 1) < 2 ^ 62 ∧ (if z > 1 then z else 1).toNat ≤ 3 := by
  split <;> omega
theorem mm_le (n : Int) : (if n < 3 then n else 3) ≤ 3 := by
  split <;> omega
section
variable {K : PySem.W.Frag} {B H0 : Hp} {σ : L2.St} {te tf : TE} {ta : TA} {i : Nat} {x v : V} {d : PyData} {ds : List PyData} {b c : Bool} {T : String} {tt uu : TT} {t rest : TS} {D : Ends} {a : Addr} {xs : List V} {k : Int} {G : GP}
theorem g_lcQ {a : Addr} {xs ys : List V} {i : Nat} {g : TG} {vs : List Nat} (hi : σ[i]? = some (some (.ref a))) (hx : SqL K H0 a xs) (hz : xs.length ≤ 1000) (hl : ys.length = xs.length)
    (he : ∀ (j : Nat) (x y : V), xs[j]? = some x → ys[j]? = some y → ∀ (H : Hp) (R : VK), Same H0 H → (∀ H', Same H H' → R y H') →
      g x (wipe σ vs) H fun σ2 H2 => wipe σ2 vs = wipe σ vs ∧ te σ2 H2 R) :
    Gives H0 (tLc (iList K (tVar i)) g tYes te vs) (gLst (ys.map gEq)) σ := fun H Q s q => by
  refine ⟨_, hi, a, rfl, ⟨xs, s.seq hx⟩, fun D nD => ?_⟩
  have sD : Same H (upd H D (.lst [])) := same_put nD
  have y := sizeLine_eq
  refine lc_list (K := K) (a := a) (xs := xs) (fun k H' => Same H H' ∧ H' D = some (.lst (ys.take k))) ⟨sD, upd_same⟩ (fun k H' _ ⟨s', _⟩ => s'.seq (s.seq hx)) ?_ ?_
  · rintro k x H' hk ⟨s', eD⟩
    have hk' : k < ys.length := by
      obtain ⟨h, _⟩ := List.getElem?_eq_some_iff.mp hk
      omega
    have hy := List.getElem?_eq_getElem hk'
    refine cast ?_ (he k x ys[k] hk hy H' (fun y H4 => ∃ acc, H4 D = some (.lst acc) ∧ acc.length < sizeLine ∧ Same H (upd H4 D (.lst (acc ++ [y]))) ∧ upd H4 D (.lst (acc ++ [y])) D = some (.lst (ys.take (k + 1)))) (s.trans s') fun H4 s4 => ⟨_, s4 _ _ eD, ?_, ?_, ?_⟩)
    · rfl
    · rw [List.length_take]
      omega
    · intro b o e
      rw [upd_ne (ne_of_none e nD)]
      exact s4 _ _ (s' _ _ e)
    · rw [upd_same, List.take_add_one, hy]
      rfl
  · rintro H' ⟨s', eD⟩
    rw [← hl, List.take_length] at eD
    exact q H' _ s' ⟨D, ys, rfl, eD, allEq⟩
end
/-! ### f(k = v, ..), keywords alone -/
section
variable {X : Cx} {CX : CXT} {k : Nat} {f : Addr} {fd : FuncData} {ps ks : List Str} {sp : Sp} {E : XK} {x : Str} {p pos : Pos} {kws : List Keyword} {tk : TA} {pm : {α : Type} → List α → List α}
def tCallKs (pm : {α : Type} → List α → List α) (sp : Sp) (E : XK) (tk : TA) : TE := fun σ H Q => tk σ H fun zs H2 => sp (pm zs) H2 Q E
theorem pe_callKs (pm : {α : Type} → List α → List α) (F : FnOk X.prog X.w X.K X.mg X.base CX k f fd ps sp) (hr : Room k X.A) (hg : Gl X x) (hm : X.mg x = some (.ref f)) (hk : PySem.W.keepIn X.K (.ref f) = true)
    (hb : ∀ (s : Shared) (us : List Value), us.length = ks.length → BindsTo s fd ⟨[], ks.zip us⟩ (ps.zip (pm us))) (hpm : ∀ (zs : List V) (us : List Value), zs.length = ks.length → Vals zs us → Vals (pm zs) (pm us)) (hx : Passes CX X E)
    (hkw : PK X kws tk) (hl : ∀ zs H Q E, sp (pm zs) H Q E → zs.length = ks.length) (hall : (backToKw pos (keywordEach kws X.env)).all (·.1.isSome) = true := by rfl) (hks : (backToKw pos (keywordEach kws X.env)).filterMap (·.1) = ks := by rfl)
    (hdb : (x == ("__debug__" : Str)) = false := by decide) (hpl : ((backTo pos (starEach [] X.env)).any (·.1) || (backToKw pos (keywordEach kws X.env)).any (·.1.isNone)) = false := by rfl) :
    PE X (.Call (.Name x p) [] kws pos) (tCallKs pm sp E tk) := by
  refine ⟨fun pins s σ H Q I h => ?_⟩
  refine wpAny_Call_Name_kw (ld_glob I hg hm ?_ hdb)
  refine PySem.W.callWith_KW0 (h₀ := X.base) I.ok.mod.kin hk hall ?_ hpl
  refine thn (hkw.run pos pins s σ H _ I h) fun ws s2 ⟨zs, H2, I2, rz, q2⟩ => ⟨I2.kIn, ?_⟩
  rw [hks]
  have hz := hl _ _ _ _ q2
  refine wpAny_call (codeAny_mono (F.run X.A X.stack s2 H2 ⟨[], ks.zip ws⟩ (pm ws) (pm zs) Q E hr I2.env0 (hb s2 ws (rz.length.symm.trans hz)) (hpm zs ws hz rz) q2) fun r s' hq => ?_)
  cases r with
  | error e => exact hx pins σ H2 s2 e s' I2 hq
  | ok fl =>
    cases fl with
    | ret u => exact I2.after hq
    | next => exact False.elim hq
    | brk => exact False.elim hq
    | cont => exact False.elim hq
end
end Ev

/-! ## Sets of texts, whose members can be walked -/
namespace Ev
open PySem PySem.Spec PyProof.Rows L2
def keyS (e : Int × Value) : Str := match e.2 with
  | .str x _ => x
  | _ => ""
def goodS (w : World) (e : Int × Value) : Prop := ∃ x tk, e = (hashStr w x, Value.str x tk)
/-- what is left when k comes in -/
def addN (ks : List Str) (k : Str) : List Str := if k ∈ ks then ks else ks ++ [k]
theorem mem_addN {ks : List Str} {k x : Str} : x ∈ addN ks k ↔ x ∈ ks ∨ x = k := by
  unfold addN
  split
  · exact ⟨.inl, fun z => z.elim id fun e => by rw [e]; assumption⟩
  · rw [List.mem_append, List.mem_singleton]
theorem addN_nodup {ks : List Str} {k : Str} (h : ks.Nodup) : (addN ks k).Nodup := by
  unfold addN
  split
  · exact h
  · rename_i n
    rw [List.nodup_append]
    refine ⟨h, by simp, fun x hx y hy e => ?_⟩
    rw [List.mem_singleton.mp hy] at e
    rw [e] at hx
    exact n hx
theorem addN_len {ks : List Str} {k : Str} : (addN ks k).length ≤ ks.length + 1 := by
  unfold addN
  split
  · exact Nat.le_succ _
  · rw [List.length_append]
    exact Nat.le_refl _
/-- the set of the texts ks at a -/
def SetS (w : World) (h : Heap) (a : Addr) (ks : List Str) : Prop := ∃ (o : Obj) (es : Array (Int × Value)) (ep : Nat) (t : SetTable), h.get? a = some o ∧ o.ExactSet ∧ o.data = .set es ep t ∧ (∀ e ∈ es.toList, goodS w e) ∧
  (es.toList.map keyS).Perm ks ∧ ks.Nodup ∧ es.size < scanBound ∧ t.fits es.size = true ∧ Ris t.place.toList ∧ (w.params.followText "set-order" = true ∨ t.led = true)
section
variable {P : Program} {w : World} {A : Around} {E : Value → Shared → Prop} {s : Shared} {h h' : Heap} {a : Addr} {ks : List Str}
theorem SetS.at (R : SetS w h a ks) (k : ∀ o, h.get? a = some o → h'.get? a = some o) : SetS w h' a ks := by
  obtain ⟨o, es, ep, t, ho, r⟩ := R
  exact ⟨o, es, ep, t, k o ho, r⟩
theorem goodS_elems {l : List (Int × Value)} (g : ∀ e ∈ l, goodS w e) : ElemsOf (PySem.strKind P w) l := fun e he => by
  obtain ⟨x, tk, rfl⟩ := g e he
  refine ⟨⟨x, ?_, rfl⟩, rfl⟩
  show Value.isStrOf x (.str x tk) = true
  simp [Value.isStrOf]
theorem goodS_is {e : Int × Value} (g : goodS w e) (x : Str) : (PySem.strKind P w).is x e.2 = true ↔ keyS e = x := by
  obtain ⟨y, tk, rfl⟩ := g
  show Value.isStrOf x (.str y tk) = true ↔ y = x
  simp [Value.isStrOf]
theorem SetS.kind (R : SetS w h a ks) : h.SetOf (PySem.strKind P w) a (fun k => decide (k ∈ ks)) ks.length := by
  obtain ⟨o, es, ep, t, ho, hx, hd, g, pm, nd, hb, hf, _⟩ := R
  refine ⟨o, es, ep, t, ho, hx, hd, goodS_elems g, fun k => ?_, hb, hf, ?_⟩
  · rw [decide_eq_true_iff, ← pm.mem_iff, List.mem_map]
    constructor
    · rintro ⟨e, he, q⟩
      exact ⟨e, he, (goodS_is (g e he) k).2 q⟩
    · rintro ⟨e, he, q⟩
      exact ⟨e, he, (goodS_is (g e he) k).1 q⟩
  · have z := pm.length_eq
    rw [List.length_map, Array.length_toList] at z
    exact z
theorem setS_new (w : World) (h : Heap) : SetS w (h.push { cls := .type "set", dict := none, data := .set #[] 0 (.fresh 0 0 (!w.params.followText "set-order")) }) h.objs.size [] := by
  refine ⟨_, #[], 0, _, Heap.get?_push_size _ rfl, ⟨rfl, rfl, rfl⟩, rfl, fun e he => ?_, .nil, .nil, by decide, by rfl, .nil, ?_⟩
  · cases he
  · by_cases z : w.params.followText "set-order" = true
    · exact .inl z
    · refine .inr ?_
      show (!w.params.followText "set-order") = true
      rw [Bool.eq_false_iff.mpr z]
      rfl
/-- the entries es1 in the table t1 are written, and laid anew where the table is full -/
theorem lay_S {g : Bool → Sem Unit} (hg : ∀ (b : Bool) (s1 : Shared) (Q' : Unit → Shared → Prop), Q' () s1 → wpAny (model P w) A (g b) Q' E s1) {o : Obj} {es es1 : Array (Int × Value)} {ep : Nat} {t t1 : SetTable}
    (ho : s.heap.get? a = some o) (hx : o.ExactSet) (hd : o.data = .set es ep t) (g1 : ∀ e ∈ es1.toList, goodS w e) (pm : (es1.toList.map keyS).Perm ks) (nd : ks.Nodup) (hb : es1.size < scanBound) (hf : t1.fits es1.size = true)
    (hr : Ris t1.place.toList) (hl : w.params.followText "set-order" = true ∨ t1.led = true) {was : Bool} {R : Option Bool → Shared → Prop} (k : ∀ h', Heap.SameBut a s.heap h' → SetS w h' a ks → R (some true) { s with heap := h' }) :
    wpAny (model P w) A (do
        storeSet a es1 t1
        if (!was && t1.tooFull) = true then do
            g (relayAll t1 es1 (SetTable.grown es1.size)).2.2
            storeSet a (relayAll t1 es1 (SetTable.grown es1.size)).1 (relayAll t1 es1 (SetTable.grown es1.size)).2.1
            pure (some true)
          else pure (some true)) R E s := by
  have put : ∀ {hh : Heap} {oo : Obj} {e0 e1 : Array (Int × Value)} {n : Nat} {t0 t2 : SetTable}, hh.get? a = some oo → oo.data = .set e0 n t0 → (hh.update a (Obj.putSet e1 t2)).get? a = some { oo with data := .set e1 (n + 1) t2 } := by
    intro hh oo e0 e1 n t0 t2 x y
    have z := Heap.get?_update_self (Obj.putSet e1 t2) x (by rw [putSet_of e1 t2 y]; rfl)
    rw [putSet_of e1 t2 y] at z
    exact z
  have o1 := put (e1 := es1) (t2 := t1) ho hd
  have b1 := Heap.SameBut.update s.heap a (Obj.putSet es1 t1)
  refine wpAny_bind (wpAny_storeSet_of ho hd ?_ (fits_of_scanBound hb))
  by_cases full : (!was && t1.tooFull) = true
  · rw [if_pos full]
    have q1 := relayAll_perm t1 es1 (SetTable.grown es1.size)
    have q2 := relayAll_fits t1 es1 (SetTable.grown es1.size)
    have q3 := relayAll_ris t1 es1 (SetTable.grown es1.size)
    have q4 := relayAll_led t1 es1 (SetTable.grown es1.size)
    revert q1 q2 q3 q4
    generalize relayAll t1 es1 (SetTable.grown es1.size) = Z
    obtain ⟨e2, t2, gv⟩ := Z
    intro q1 q2 q3 q4
    have sz : e2.size = es1.size := by
      have z := q1.length_eq
      rwa [Array.length_toList, Array.length_toList] at z
    refine wpAny_bind (hg _ _ _ (wpAny_bind (wpAny_storeSet_of o1 rfl (wpAny_pure (k _ (b1.trans (Heap.SameBut.update _ a _)) ?_)) (fits_of_scanBound (by rw [sz]; exact hb)))))
    refine ⟨_, e2, _, t2, put o1 rfl, hx, rfl, fun e he => g1 e (q1.mem_iff.mp he), (q1.map keyS).trans pm, nd, by rw [sz]; exact hb, q2, q3, ?_⟩
    rcases hl with z | z
    · exact .inl z
    · exact .inr (q4.trans z)
  · rw [if_neg full]
    exact wpAny_pure (k _ b1 ⟨_, es1, _, t1, o1, hx, rfl, g1, pm, nd, hb, hf, hr, hl⟩)
theorem lay_in {k : Str} {tk : Tok} {Q : Bool → Shared → Prop} (R : SetS w s.heap a ks) (room : ks.length + 1 < scanBound)
    (q : ∀ h', Heap.SameBut a s.heap h' → SetS w h' a (addN ks k) → ∀ b, Q b { s with heap := h' }) : wpAny (model P w) A (setAddHashed a (.str k tk) ((PySem.strKind P w).hash k)) Q E s := by
  obtain ⟨o, es, ep, t, ho, hx, hd, g, pm, nd, hb, hf, hr, hl⟩ := R
  have hel : ElemsOf (PySem.strKind P w) es.toList := goodS_elems g
  have me : (PySem.strKind P w).is k (.str k tk) = true := by
    show Value.isStrOf k (.str k tk) = true
    simp [Value.isStrOf]
  have sc : (Value.str k tk).scannable = true := rfl
  have quiet : ∀ (b : Bool) (s1 : Shared) (Q' : Unit → Shared → Prop), Q' () s1 → wpAny (model P w) A (match b with | true => rule "set.scan.the-table-gave-way" | false => pure ()) Q' E s1 := fun b s1 Q' z => by
    cases b
    · exact wpAny_pure z
    · exact wpAny_rule z
  unfold setAddHashed setAddHashedIn
  refine wpAny_holding (wpAny_bind (wpAny_setState_of ho hd hf ?_))
  dsimp only
  rw [byScan_of sc hb hel]
  simp only [↓reduceIte]
  unfold setAddByScan
  refine wpAny_bind (wpAny_bind (wpAny_rule (wpAny_bind (wpAny_setScan_of me ho hd hf hel ?_))))
  cases hi : List.findIdx? (fun e => (PySem.strKind P w).is k e.2) es.toList with
  | some j =>
    dsimp only
    obtain ⟨hj, pj, _⟩ := List.findIdx?_eq_some_iff_getElem.mp hi
    have inn : k ∈ ks := by
      refine pm.mem_iff.mp (List.mem_map.mpr ⟨es.toList[j], List.getElem_mem hj, ?_⟩)
      exact (goodS_is (P := P) (g _ (List.getElem_mem hj)) k).1 pj
    have e : addN ks k = ks := if_pos inn
    rw [e] at q
    exact wpAny_pure (wpAny_pure (q s.heap (Heap.SameBut.refl a s.heap) ⟨o, es, ep, t, ho, hx, hd, g, pm, nd, hb, hf, hr, hl⟩ _))
  | none =>
    dsimp only
    have out : k ∉ ks := fun z => by
      obtain ⟨e, he, ek⟩ := List.mem_map.mp (pm.mem_iff.mpr z)
      have c := List.findIdx?_eq_none_iff.mp hi e he
      rw [(goodS_is (P := P) (g e he) k).2 ek] at c
      cases c
    have e : addN ks k = ks ++ [k] := if_neg out
    have nd1 : (ks ++ [k]).Nodup := by
      rw [← e]
      exact addN_nodup nd
    have q1 := layNew_perm t es ((PySem.strKind P w).hash k) (.str k tk)
    have q2 := layNew_fits t es ((PySem.strKind P w).hash k) (.str k tk)
    have q3 := layNew_ris t es ((PySem.strKind P w).hash k) (.str k tk) hr
    have q4 := layNew_led t es ((PySem.strKind P w).hash k) (.str k tk)
    revert q1 q2 q3 q4
    generalize layNew t es ((PySem.strKind P w).hash k) (.str k tk) = Z
    obtain ⟨es1, t1, was, gave⟩ := Z
    intro q1 q2 q3 q4
    dsimp only at q1 q2 q3 q4 ⊢
    rw [Array.toList_push] at q1
    have g1 : ∀ x ∈ es1.toList, goodS w x := fun x hx => by
      rcases List.mem_append.mp (q1.mem_iff.mp hx) with z | z
      · exact g x z
      · rw [List.mem_singleton.mp z]
        exact ⟨k, tk, rfl⟩
    have pm1 : (es1.toList.map keyS).Perm (ks ++ [k]) := by
      have z := q1.map keyS
      rw [List.map_append] at z
      exact z.trans (List.Perm.append_right _ pm)
    have sz : es1.size < scanBound := by
      have z := pm1.length_eq
      rw [List.length_map, Array.length_toList, List.length_append] at z
      rw [z]
      exact room
    have l1 : w.params.followText "set-order" = true ∨ t1.led = true := by
      rcases hl with z | z
      · exact .inl z
      · exact .inr (q4.trans z)
    rw [e] at q
    refine wpAny_bind (quiet _ _ _ ?_)
    split
    · refine wpAny_bind ?_
      rw [hashByValue_scannable 8 sc]
      refine wpAny_pure ?_
      refine lay_S ?_ ho hx hd g1 pm1 nd1 sz ?_ ?_ ?_ fun h' sb r => ?_
      · intro b s1 Q' z
        cases b <;> first | exact wpAny_pure z | exact wpAny_rule z
      · first | exact q2 | (split <;> first | exact q2 | exact SetTable.fits_plain_off q2)
      · first | exact q3 | (split <;> exact q3)
      · first | exact l1 | (split <;> exact l1)
      · exact wpAny_pure (q h' sb r _)
    · refine wpAny_bind (wpAny_pure ?_)
      simp only [↓reduceIte]
      refine lay_S ?_ ho hx hd g1 pm1 nd1 sz q2 q3 l1 fun h' sb r => ?_
      · intro b s1 Q' z
        cases b <;> first | exact wpAny_pure z | exact wpAny_rule z
      · exact wpAny_pure (q h' sb r _)
/-- a text comes into a set -/
theorem add_S {k : Str} {tk : Tok} {Q : Value → Shared → Prop} (R : SetS w s.heap a ks) (room : ks.length + 1 < scanBound)
    (q : ∀ h', Heap.SameBut a s.heap h' → SetS w h' a (addN ks k) → Q .none { s with heap := h', toks := s.toks + 1 }) : wpAny (model P w) A (call (.builtin "set.add") [.ref a, .str k tk]) Q E s := by
  have me : (PySem.strKind P w).is k (.str k tk) = true := by
    show Value.isStrOf k (.str k tk) = true
    simp [Value.isStrOf]
  refine wpAny_call_entry F.slot_set_add (R.kind (P := P)).typeIs F.entry_set_add ?_ (F.args_set_add_2 _ _)
  unfold Builtin.«set.add» Builtin.Frozenset.oneOther
  simp only [List.isEmpty_nil, bind_assoc]
  unfold Builtin.Frozenset.addrOf setAdd
  refine wpAny_bind (wpAny_pure ?_)
  try dsimp only
  refine wpAny_bind (wpAny_pure ?_)
  try dsimp only
  refine wpAny_bind (wpAny_holding (wpAny_bind ((PySem.strKind P w).pyHash me ?_)))
  refine lay_in (s := { s with toks := s.toks + 1 }) R room fun h' sb r b => ?_
  show wpAny _ _ (ret Value.none) _ _ _
  exact wpAny_pure ⟨_, rfl, q h' sb r⟩
end
end Ev

/-! ## {text for .. in ..}, sorted of a set of texts -/
namespace Ev
open PySem PySem.Spec PyProof.Rows L2
def SetSO (w : World) (a : Addr) (ks : List Str) : HO := .ext fun h => SetS w h a ks
theorem setSO_ok {w : World} {P : Program} {H : Hp} {h : Heap} {a : Addr} {ks : List Str} (R : SetS w h a ks) : ObjOk P w H h a (SetSO w a ks) := by
  refine ⟨R, ?_, fun h1 h2 p k => p.at k⟩
  obtain ⟨o, _, _, _, ho, _⟩ := R
  exact ⟨o, ho⟩
section
variable {X : Cx}
theorem setSO_at {pins : List (Addr × Obj)} {σ : L2.St} {H : Hp} {s : Shared} {a : Addr} {ks : List Str} (I : Inv X pins σ H s) (ha : H a = some (SetSO X.w a ks)) : SetS X.w s.heap a ks := (I.hok a _ ha).1
theorem addSO {pins : List (Addr × Obj)} {σ : L2.St} {H : Hp} {s : Shared} {E : Value → Shared → Prop} {a : Addr} {ks : List Str} {k : Str} {tk : Tok} {Q : Value → Shared → Prop} (I : Inv X pins σ H s) (ha : H a = some (SetSO X.w a ks)) (room : ks.length + 1 < scanBound)
    (q : ∀ s', Inv X pins σ (upd H a (SetSO X.w a (addN ks k))) s' → Q .none s') : wpAny (model X.prog X.w) X.A (call (.builtin "set.add") [.ref a, .str k tk]) Q E s := by
  refine add_S (setSO_at I ha) room fun h' sb R => q _ ?_
  have he : ∃ u, h'.get? a = some u := by
    obtain ⟨o, _, _, _, ho, _⟩ := R
    exact ⟨o, ho⟩
  exact I.write (e := a) (t' := s.toks + 1) (by rw [ha]; trivial) (.inl rfl) (fun b u hb hu => (sb.2 b hb).trans hu) he (setSO_ok R)
/-- a set comprehension whose elements are texts -/
def tScS (w : World) (wi : TI) (g : TG) (tt : TT) (te : TE) (vs : List Nat) : TE := fun σ H Q => wi σ H fun J H1 => ∀ D, H1 D = none → ∃ W : Nat → Nat → Hp → Prop, (∃ m, W 0 m (upd H1 D (SetSO w D []))) ∧ ∀ i m H, W i m H →
  (J.stop i H ∧ Q (.ref D) H) ∨ (J.go i H ∧ ∃ Nx : Hp → Prop, (∀ H', Nx H' → ∃ m', m' < m ∧ W (i + 1) m' H') ∧ ∀ x H', J.yld i H x H' → g x (wipe σ vs) H' fun σ2 H2 => wipe σ2 vs = wipe σ vs ∧ tt σ2 H2 fun b H3 =>
    if b = true then te σ2 H3 fun y H4 => ∃ (c : Str) (ks : List Str), y = .str c ∧ H4 D = some (SetSO w D ks) ∧ ks.length + 1 < scanBound ∧ Nx (upd H4 D (SetSO w D (addN ks c))) else Nx H3)
theorem pe_scS {elt tg iter : Expr} {ifs : List Expr} {scope : Scope} {own : List (Str × Nat)} {pos : Pos} {wi : TI} {g : TG} {tt : TT} {te : TE} (hc : X.calm = true) (hN : X.N.Nodup) (hi : PI X tg iter wi) (ok : BlkOk X.N X.env.scope scope own)
    (hg : ∀ (s : Shared) (H : Hp) (C : Addr) (cl : List (Str × Addr)) (fp : List Addr), PG (X.blk s H scope (compEnvC scope cl C X.env) fp) tg g) (ht : ∀ (s : Shared) (H : Hp) (C : Addr) (cl : List (Str × Addr)) (fp : List Addr), PTs (X.blk s H scope (compEnvC scope cl C X.env) fp) ifs tt)
    (he : ∀ (s : Shared) (H : Hp) (C : Addr) (cl : List (Str × Addr)) (fp : List Addr), PE (X.blk s H scope (compEnvC scope cl C X.env) fp) elt te) (hs : ∀ x, foldedSetIterable iter X.env x = pure x := by intro _; rfl) :
    PE X (.SetComp elt [⟨tg, iter, ifs, 0⟩] scope pos) (tScS X.w wi g tt te (own.map (·.2))) := by
  refine ⟨fun pins s σ H Q I h => ?_⟩
  rw [PpSet.eval_SetComp]
  have fr : ∀ y ∈ scope.names, y.2 = .free → ∃ c, X.env.cells.lookup y.1 = some c := fun y hy e => (ok.free y hy e).elim (fun k => I.ok.has _ (.inl k)) fun k => I.ok.has _ (.inr k)
  refine wpAny_comprehension_free (use := none) rfl hs (closure_ok fr) ok.kind (fun y hy e => by rw [ok.uniq y hy, e]) (thn (hi.run pins s σ H _ I h) fun xv s1 hx => thn hx fun itv s2 h2 => ?_)
  obtain ⟨it, fp, tn, J, H2, rfl, I2, T, st2, f2, q⟩ := h2
  refine PpSet.newSet_ok (newEnv_comp ?_)
  -- the set, new at D, and the block's own context
  obtain ⟨D, hD⟩ : ∃ D, s2.heap.objs.size = D := ⟨_, rfl⟩
  obtain ⟨s3, hs3⟩ : ∃ s3 : Shared, { s2 with heap := s2.heap.push { cls := .type "set", dict := none, data := .set #[] 0 (.fresh 0 0 (!X.w.params.followText "set-order")) } } = s3 := ⟨_, rfl⟩
  have h3 : s3.heap = s2.heap.push { cls := .type "set", dict := none, data := .set #[] 0 (.fresh 0 0 (!X.w.params.followText "set-order")) } := by rw [← hs3]
  have old3 : ∀ b o, s2.heap.get? b = some o → s3.heap.get? b = some o := fun b o e => by
    rw [h3]
    exact Heap.get?_push_of_some _ e
  obtain ⟨W, ⟨m0, w0⟩, turn⟩ := q D (I2.hok.fresh (Nat.le_of_eq hD))
  obtain ⟨H3, hH3⟩ : ∃ H3 : Hp, upd H2 D (SetSO X.w D []) = H3 := ⟨_, rfl⟩
  rw [hH3] at w0
  have I3 : Inv X pins σ H3 s3 := by
    rw [← hs3, ← hH3, ← hD]
    exact I2.laid (t' := s2.toks) (fun b o e => Heap.get?_push_of_some _ e) (Nat.le_refl _) (setSO_ok (setS_new X.w s2.heap))
  have f3 : ∀ b ∈ fp, FpOk X pins H3 b ∧ b < s3.heap.objs.size := fun b hb => by
    obtain ⟨o, eo, _⟩ := T.obj _ _ st2 b hb
    have lt2 := Heap.lt_size eo
    have ne : b ≠ D := by
      rw [← hD]
      exact Nat.ne_of_lt lt2
    refine ⟨⟨?_, (f2 b hb).2⟩, Heap.lt_size (old3 b o eo)⟩
    rw [← hH3, upd_ne ne]
    exact (f2 b hb).1
  have I4 := block_start I3 ok hN f3
  have pg := hg s3 H3 s3.heap.objs.size (cellsFrom (s3.heap.objs.size + 1) scope.names (cloFrom X.env.cells scope.names [])) fp
  have pt := ht s3 H3 s3.heap.objs.size (cellsFrom (s3.heap.objs.size + 1) scope.names (cloFrom X.env.cells scope.names [])) fp
  have pe := he s3 H3 s3.heap.objs.size (cellsFrom (s3.heap.objs.size + 1) scope.names (cloFrom X.env.cells scope.names [])) fp
  rw [hs3]
  show codeAny _ _ (.compStart (.SetComp elt [⟨tg, iter, ifs, 0⟩] scope pos) 0 (.ref it) (.ref s2.heap.objs.size) (compEnvC scope (cellsFrom (s3.heap.objs.size + 1) scope.names (cloFrom X.env.cells scope.names [])) s3.heap.objs.size X.env)) (compPost (model X.prog X.w) X.A X.xe none _ (.ref s2.heap.objs.size) s3.heap.objs.size) { s3 with heap := pushCells (s3.heap.push { cls := .type "dict", data := .dict #[] }) scope.names }
  rw [hD]
  obtain ⟨ce, hce⟩ : ∃ ce, compEnvC scope (cellsFrom (s3.heap.objs.size + 1) scope.names (cloFrom X.env.cells scope.names [])) s3.heap.objs.size X.env = ce := ⟨_, rfl⟩
  have cL : ce.locals = s3.heap.objs.size := by
    rw [← hce]
    rfl
  obtain ⟨s4, hs4⟩ : ∃ s4 : Shared, { s3 with heap := pushCells (s3.heap.push { cls := .type "dict", data := .dict #[] }) scope.names } = s4 := ⟨_, rfl⟩
  rw [hce] at I4 pg pt pe ⊢
  rw [hs4] at I4 ⊢
  have st4 : tn 0 s4.heap := T.keep _ _ _ st2 fun b _ o e => by
    rw [← hs4]
    exact pushCells_keeps _ _ _ _ (Heap.get?_push_of_some _ (old3 b o e))
  let Y := X.blk s3 H3 scope ce fp
  have out : ∀ {σ' : L2.St} {H' : Hp} {s' : Shared}, Inv Y [] σ' H' s' → (∀ b ∈ fp, H' b = none) → ∀ b ∈ fp, FpOk Y [] H' b := fun {σ' H' s'} I' hn b hb =>
    ⟨hn b hb, (I'.ok.exf b hb).1, I'.ok.exfs b hb, .inl hb, fun x c e => (I'.ok.exf b hb).2 x c e, fun p hp => absurd (show p ∈ ([] : List (Addr × Obj)) ++ [] from hp) (by simp)⟩
  -- what holds between two turns
  let Mid : Nat → Shared → Prop := fun n s' => ∃ i H', Inv Y [] (wipe σ (own.map (·.2))) H' s' ∧ tn i s'.heap ∧ (∀ b ∈ fp, H' b = none) ∧ W i n H'
  have loop : codeAny (model X.prog X.w) X.A (.compLoop (.SetComp elt [⟨tg, iter, ifs, 0⟩] scope pos) 0 (.ref it) (.ref D) ce) (compPost (model X.prog X.w) X.A X.xe none (EP X pins σ Q) (.ref D) s3.heap.objs.size) s4 := by
    refine PpSet.compLoopS_any Mid (fun n s5 ⟨i, H5, I5, st5, n5, w5⟩ => ?_) m0 ⟨0, H3, I4, st4, fun b hb => (f3 b hb).1.1, w0⟩
    rcases turn i n H5 w5 with ⟨stop, qq⟩ | ⟨go, Nx, hNx, step⟩
    · refine thnF (T.done Y rfl rfl rfl hc i [] s5 _ H5 (fun _ _ => False) I5 (out I5 n5) st5 stop) fun r s6 ⟨hr, I6⟩ => ?_
      subst hr
      have I7 : Inv X pins σ H5 s6 := I3.call' (ch := fp) I6.os I6.base I6.hok I6.bare fun b hb => ⟨(f3 b hb).1.2.2.2.1, (f3 b hb).1.2.1, (f3 b hb).1.2.2.2.2.1, (f3 b hb).1.2.2.2.2.2⟩
      have nC : H5 s3.heap.objs.size = none := by
        rw [← cL]
        exact I6.free
      obtain ⟨m, hn, _⟩ := I6.loc
      have hn : s6.heap.Ns ce.locals m := hn
      rw [cL] at hn
      obtain ⟨z0, z1, _, z3, z4, z5⟩ := I3.fpOk (Nat.le_refl _) nC
      exact ⟨m, hn, fun h'' sb => ⟨.ref D, H5, I7.turned (t' := s6.toks) (fun b o hb e => (sb.2 b hb).trans e) z0 z1 z3 z4 z5, rfl, qq⟩⟩
    · refine thnF (T.item Y rfl rfl rfl hc i [] s5 _ H5 (fun _ _ => False) I5 (out I5 n5) st5 go) fun r s6 ⟨u, hr, h6⟩ => ?_
      subst hr
      refine thnF h6 fun _ s7 ⟨x, H7, I7, r7, y7, st7, n7⟩ => ?_
      refine thnF (pg.run _ s7 _ H7 x u _ (I7.pinned (out I7 n7) (T.obj _ _ st7)) r7 (step x H7 y7)) fun _ s8 ⟨σ8, H8, I8, hw8, q8⟩ => ?_
      refine thnF (pt.run _ s8 σ8 H8 _ I8 q8) fun b s9 ⟨H9, I9, q9⟩ => ?_
      have next : ∀ {s' : Shared} {H' : Hp}, Inv Y ([] ++ pinsAt fp s7.heap) σ8 H' s' → Nx H' → ∃ m, m < n ∧ Mid m s' := fun {s' H'} I' nx => by
        obtain ⟨m', hm, w'⟩ := hNx H' nx
        have pin' : ∀ b ∈ fp, ∀ o, s7.heap.get? b = some o → s'.heap.get? b = some o ∧ H' b = none := fun b hb o e => by
          have z := I'.pin (b, o) (List.mem_append_right _ (List.mem_append_right _ (mem_pinsAt hb e)))
          exact ⟨z.1, z.2.1⟩
        have hl : (wipe σ (own.map (·.2))).length = σ8.length := by
          rw [← hw8, wipe_length]
        refine ⟨m', hm, i + 1, H', (I'.unpinned (pins := [])).weak hl (fun j v e => ?_), T.keep _ _ _ st7 fun b hb o e => (pin' b hb o e).1, fun b hb => ?_, w'⟩
        · rw [← hw8] at e
          exact (wipe_some e).1
        · obtain ⟨o, e, _⟩ := T.obj _ _ st7 b hb
          exact (pin' b hb o e).2
      dsimp only at q9
      by_cases hb : b = true
      · subst hb
        rw [if_pos rfl] at q9 ⊢
        refine thnF (pe.run _ s9 σ8 H9 _ I9 q9) fun z s10 ⟨yv, H10, I10, r10, c0, ks, ey, hD10, hz10, nx⟩ => ?_
        subst ey
        obtain ⟨tk, rfl⟩ := (show ∃ tk, z = Value.str c0 tk from r10)
        exact addSO (X := Y) I10 hD10 hz10 fun s11 I11 => next I11 nx
      · rw [if_neg hb] at q9 ⊢
        exact next I9 q9
  exact PpSet.codeAny_compStart_set loop (T.self X.A 0 _ _ _ st4 loop)
end
end Ev

/-! ## sorted(set of texts), set(list of texts) -/
namespace Ev
open PySem PySem.Spec PyProof.Rows L2
section
variable {P : Program} {w : World} {A : Around} {E : Value → Shared → Prop} {s : Shared} {a : Addr} {ks : List Str}
theorem strs_map {w : World} : ∀ {vs : List Value}, (∀ v ∈ vs, ∃ x tk, v = Value.str x tk) → StrsAre vs (vs.map fun v => keyS (0, v))
  | [], _ => .nil
  | v :: vs, h => by
    obtain ⟨x, tk, rfl⟩ := h v (List.mem_cons_self ..)
    exact .cons x tk (strs_map (w := w) fun u hu => h u (List.mem_cons_of_mem _ hu))
theorem sorted_S {Q : Value → Shared → Prop} (R : SetS w s.heap a ks) (hh : A.handled = none) (few : ks.length < 64)
    (q : ∀ s' p (out : Array Value) (c : Nat) (ys : List Str), (∀ b o, s.heap.get? b = some o → s'.heap.get? b = some o) → s'.gens = s.gens → s'.os = s.os → s.heap.objs.size ≤ p →
      s'.heap.get? p = some (seqObj "list" out c) → StrsAre out.toList ys → ys.Perm ks → sortedS ys = true → Q (.ref p) s') : wpAny (model P w) A (call (.builtin "sorted") [.ref a]) Q E s := by
  obtain ⟨o, es, ep, t, ho, hx, hd, g, pm, nd, hb, hf, hr, hl⟩ := R
  refine Calls.call_function_entry kind_sorted plain_sorted entry_sorted (args_sorted1 _) ?_
  unfold Builtin.«sorted»
  refine wpAny_bind (m := checkCount "sorted" 1 1 _) (wpAny_pure ?_)
  refine wpAny_bind (collect_set (A := A.in1) hh ⟨o, ho, hx.1, hd⟩ hf hb hr hl fun s1 vs k1 hz g1 o1 pv => ?_)
  have all : ∀ v ∈ vs, ∃ x tk, v = Value.str x tk := fun v hv => by
    obtain ⟨e, he, rfl⟩ := List.mem_map.mp (pv.mem_iff.mp hv)
    obtain ⟨x, tk, rfl⟩ := g e he
    exact ⟨x, tk, rfl⟩
  have hS := strs_map (w := w) all
  have pk : (vs.map fun v => keyS (0, v)).Perm ks := by
    refine (pv.map fun v => keyS (0, v)).trans ?_
    rw [List.map_map]
    exact pm
  have hvl : vs.length = ks.length := by
    have z := pk.length_eq
    rw [List.length_map] at z
    exact z
  refine wpAny_bind (wpAny_newList ?_ (by rw [hvl, sizeLine_eq]; omega))
  have hoL : (s1.heap.push (seqObj "list" vs.toArray 0)).get? s1.heap.objs.size = some (seqObj "list" vs.toArray 0) := Heap.get?_push_size _ rfl
  refine wpAny_bind (wpAny_holding (wpAny_call_entry slot_list_sort ⟨_, hoL, rfl⟩ entry_list_sort
    (list_sort_treeK strKind_oneLt hoL hS.keysOf (fun v₁ v₂ rest e => keyKind_strs (by rw [← e]; exact hS)) (by rw [hvl]; exact few) fun st' hp hs => ⟨_, rfl, ?_⟩) (args_list_sort _)))
  obtain ⟨ys, y1, y2, y3⟩ := sorted_out_str hS hp hs
  obtain ⟨c, hc⟩ := sortedHeap_at (vs := vs) (out := (arrOf st').map (·.2)) hoL
  refine wpAny_pure ⟨_, rfl, q _ s1.heap.objs.size _ c ys (fun b u e => ?_) g1 o1 hz hc y1 (y2.trans pk) y3⟩
  have z := k1 b u e
  have lt := Heap.lt_size z
  show (sortedHeap (s1.heap.push (seqObj "list" vs.toArray 0)) s1.heap.objs.size vs ((arrOf st').map (·.2))).get? b = some u
  rw [sortedHeap_old (Nat.ne_of_lt lt) (by rw [size_push']; exact Nat.lt_succ_of_lt lt)]
  exact Heap.get?_push_of_some _ z
/-- the members, in the order in which they came -/
def uniq : List Str → List Str → List Str
  | acc, [] => acc
  | acc, x :: xs => uniq (addN acc x) xs
theorem uniq_snoc : ∀ (xs acc : List Str) (x : Str), uniq acc (xs ++ [x]) = addN (uniq acc xs) x
  | [], _, _ => rfl
  | y :: xs, acc, x => uniq_snoc xs (addN acc y) x
theorem uniq_len : ∀ (xs acc : List Str), (uniq acc xs).length ≤ acc.length + xs.length
  | [], _ => Nat.le_refl _
  | x :: xs, acc => by
    have h := uniq_len xs (addN acc x)
    have h2 := addN_len (ks := acc) (k := x)
    show (uniq (addN acc x) xs).length ≤ acc.length + (xs.length + 1)
    omega
theorem uniq_mem : ∀ (xs acc : List Str) (z : Str), z ∈ uniq acc xs ↔ z ∈ acc ∨ z ∈ xs
  | [], acc, z => by
    rw [show uniq acc [] = acc from rfl]
    simp
  | x :: xs, acc, z => by
    show z ∈ uniq (addN acc x) xs ↔ _
    rw [uniq_mem xs, mem_addN, List.mem_cons, or_assoc]
theorem uniq_nodup : ∀ (xs acc : List Str), acc.Nodup → (uniq acc xs).Nodup
  | [], _, h => h
  | x :: xs, acc, h => uniq_nodup xs (addN acc x) (addN_nodup h)
/-- the loop of set.update, over texts -/
theorem update_S {I : Addr} {fp wr : List Addr} {G : Array GenState → Array GenState → Prop} {n : Nat} {Pv : Nat → Value → Prop} {St : Nat → Shared → Prop} {R : Result → Shared → Prop} (W : WalksS P w A.in1 I fp wr G n Pv St) (D : Addr) (hDf : D ∉ fp)
    (zs : List Str) (hn : n = zs.length) (hv : ∀ i v, Pv i v → ∃ x tk, zs[i]? = some x ∧ v = .str x tk) (few : zs.length + 1 < scanBound) :
    ∀ (k i : Nat) (s : Shared), n - i = k → i ≤ n → St i s → SetS w s.heap D (uniq [] (zs.take i)) → (∀ s', Moved (D :: wr) G s s' → SetS w s'.heap D (uniq [] zs) → R (.ok (.ret .none)) s') →
      codeAny (model P w) A (.builtin "set.update.loop" ⟨[.ref D, .ref I], []⟩) R s := by
  have hDw : D ∉ wr := fun z => hDf (W.sub _ z)
  have sub : ∀ b ∈ wr, b ∈ D :: wr := fun b hb => List.mem_cons_of_mem _ hb
  intro k
  induction k with
  | zero =>
    intro i s hk hi hst hS q
    have hin : i = zs.length := by omega
    rw [hin, List.take_length] at hS
    have hin' : i = n := by omega
    subst hin'
    refine codeAny_builtin F.entry_set_update_loop ?_
    rw [Around.under_plainId F.plain_set_update_loop _]
    show wpAny _ A.in1 (pyNext (.ref I) >>= _) _ _ s
    refine wpAny_bind (W.done s _ _ hst fun s' hm => ?_)
    show wpAny _ A.in1 (ret Value.none) _ _ s'
    exact wpAny_pure (q s' (hm.mono sub) (hS.at fun o e => hm.heap D o hDw e))
  | succ k ih =>
    intro i s hk hi hst hS q
    have hlt : i < n := by omega
    refine codeAny_builtin F.entry_set_update_loop ?_
    rw [Around.under_plainId F.plain_set_update_loop _]
    show wpAny _ A.in1 (pyNext (.ref I) >>= _) _ _ s
    refine wpAny_bind (W.item i s _ _ hlt hst fun v s' hP hst' hm => ?_)
    obtain ⟨x, tk, hx, rfl⟩ := hv i v hP
    have hS' : SetS w s'.heap D (uniq [] (zs.take i)) := hS.at fun o e => hm.heap D o hDw e
    show wpAny _ A.in1 (holding [Value.str x tk] (setAdd D (.str x tk)) >>= _) _ _ s'
    refine wpAny_bind (wpAny_holding ?_)
    unfold setAdd
    have me : (PySem.strKind P w).is x (.str x tk) = true := by
      show Value.isStrOf x (.str x tk) = true
      simp [Value.isStrOf]
    refine wpAny_holding (wpAny_bind ((PySem.strKind P w).pyHash me ?_))
    have room : (uniq [] (zs.take i)).length + 1 < scanBound := by
      have z := uniq_len (zs.take i) []
      rw [List.length_take] at z
      have z0 : ([] : List Str).length = 0 := rfl
      omega
    refine lay_in (s := { s' with toks := s'.toks + 1 }) hS' room fun h' sb R2 b => ?_
    rw [← uniq_snoc, show zs.take i ++ [x] = zs.take (i + 1) by rw [List.take_add_one, hx]; rfl] at R2
    refine wpAny_pure ⟨plainId_quiet F.plain_set_update_loop _, ih (i + 1) _ (by omega) hlt (W.frame _ s' _ _ hst' (Nat.le_add_right _ _) fun b hb o e => ?_) R2 fun s'' hm'' hS'' => ?_⟩
    · rw [sb.2 b (fun z : b = D => hDf (by rw [← z]; exact hb))]
      exact e
    · refine q s'' (Moved.trans W.gtrans ((hm.mono sub).then_heap (Nat.le_add_right _ _) fun b o hb e => ?_) hm'') hS''
      rw [sb.2 b (fun z : b = D => hb (by rw [z]; exact List.mem_cons_self))]
      exact e
end
section
variable {X : Cx}
/-- sorted(set of texts) -/
def rSortSS (w : World) : List V → Hp → VK → Prop := fun vs H Q => ∃ (a : Addr) (ks : List Str), vs = [V.ref a] ∧ H a = some (SetSO w a ks) ∧ ks.length < 64 ∧ ∀ (ys : List Str) (p : Addr), ys.Perm ks → sortedS ys = true → H p = none → Q (.ref p) (upd H p (.lst (ys.map V.str)))
theorem cr_sortSS (hc : X.calm = true) : CallR X (.builtin "sorted") (rSortSS X.w) := by
  intro pins s σ H vs us Q I r h
  obtain ⟨a, ks, rfl, ha, few, q⟩ := h
  rw [Vals.ref1 r]
  refine sorted_S (setSO_at I ha) (I.ok.hd hc) few fun s' p out c ys k g o hp hg hi pm hs => ?_
  have hn : H p = none := I.hok.fresh hp
  have hlen : (ys.map V.str).length ≤ sizeLine := by
    have z := pm.length_eq
    rw [List.length_map, sizeLine_eq]
    omega
  have J : Inv X pins σ (upd H p (.lst (ys.map V.str))) { s with heap := s'.heap, gens := s'.gens, drawn := s'.drawn, toks := s'.toks } :=
    I.call (ch := []) (Un.laid k hp hn) (I.hok.laid k hp ⟨hlen, out.toList, c, vals_of_strs hi, hg⟩) (by rw [g]; exact I.bare) (fun _ z => nomatch z)
  have e : s' = { s with heap := s'.heap, gens := s'.gens, drawn := s'.drawn, toks := s'.toks } := by
    cases s'
    cases s
    cases o
    rfl
  rw [e]
  exact ⟨.ref p, _, J, rfl, q ys p pm hs hn⟩
end
end Ev

/-! ## set(list of texts) -/
namespace Ev
open PySem PySem.Spec PyProof.Rows L2
section
variable {P : Program} {w : World} {A : Around} {E : Value → Shared → Prop} {s : Shared}
theorem strs_get : ∀ {vs : List Value} {zs : List Str} {i : Nat} {v : Value}, StrsAre vs zs → vs[i]? = some v → ∃ x tk, zs[i]? = some x ∧ v = .str x tk
  | _, _, _, _, .nil, e => by cases e
  | _, _, 0, _, .cons x tk _, e => by
    cases e
    exact ⟨x, tk, rfl, rfl⟩
  | _, _, i + 1, _, .cons _ _ h, e => strs_get (i := i) h e
/-- a new empty set behind the heap -/
abbrev emp (w : World) (h : Heap) : Heap := h.push { cls := .type "set", dict := none, data := .set #[] 0 (.fresh 0 0 (!w.params.followText "set-order")) }
theorem set_S {l : Addr} {items : Array Value} {zs : List Str} {Q : Value → Shared → Prop} (hh : A.handled = none) (hl : s.heap.IsList l items) (hit : StrsAre items.toList zs) (few : zs.length + 1 < scanBound)
    (q : ∀ (h' : Heap) (tk : Nat), SetS w h' s.heap.objs.size (uniq [] zs) → (∀ b o, s.heap.get? b = some o → h'.get? b = some o) → Q (.ref s.heap.objs.size) { s with heap := h', toks := tk }) :
    wpAny (model P w) A (call (.type "set") [.ref l]) Q E s := by
  have hz : items.size = zs.length := by
    have z := hit.length
    rw [Array.length_toList] at z
    exact z
  obtain ⟨c, tl, hmro⟩ := F.called_set.mro
  have f1 := F.called_set.made
  have f2 := F.called_set.sub
  have f3 := F.called_set.notType
  have f4 := F.called_set.canCreate
  have f5 := F.typeCall_set_1 (.ref l)
  refine wpAny_call (codeAny_of_tree ?_)
  show wpAny _ _ (callAny (.type "set") _) _ _ _
  refine wpAny_pure ⟨Code.quiet_builtin _ (by decide +kernel), codeAny_builtin F.entry_type_call ?_⟩
  rw [Around.under_plain (weight_type_call_type "set" [.ref l] []) rfl]
  repeat (any_goals (first | assumption | wp_step))
  refine codeAny_mono (code_set_led1 (.ref l) (E := E) (Q₁ := fun v s1 => v = .ref s.heap.objs.size ∧ s1 = { s with heap := emp w s.heap }) ⟨rfl, rfl⟩) fun r s1 hr => ?_
  match r, hr with
  | .error e, hr => exact hr
  | .ok (.ret v), hr =>
    obtain ⟨rfl, rfl⟩ := hr
    have hD : (emp w s.heap).get? s.heap.objs.size = some { cls := .type "set", dict := none, data := .set #[] 0 (.fresh 0 0 (!w.params.followText "set-order")) } := Heap.get?_push_size _ rfl
    have hT : Shared.TypeIs { s with heap := emp w s.heap } (.ref s.heap.objs.size) "set" := ⟨_, hD, rfl⟩
    have f6 := F.called_set.init.lookup
    have f7 := F.called_set.init.bind (.ref s.heap.objs.size)
    repeat (any_goals (first | assumption | wp_step))
    refine codeAny_mono (codeAny_call_builtin (R := wants (fun r s2 => r = .none ∧ ∃ h' tk, s2 = { s with heap := h', toks := tk } ∧ SetS w h' s.heap.objs.size (uniq [] zs) ∧ ∀ b o, s.heap.get? b = some o → h'.get? b = some o) E)
      F.called_set.init.plain F.entry_set_init (check_set_init_1 hT ?_)) fun r2 s2 hr2 => ?_
    · obtain ⟨⟨oc, od, odt, osl⟩, ho, hc, nl, hd⟩ := hl
      simp only at hc hd
      subst hc hd
      have ho1 : (emp w s.heap).get? l = some { cls := .type "list", dict := od, data := .seq items nl, slots := osl } := Heap.get?_push_of_some _ ho
      have l1 : (emp w s.heap).IsList l items := ⟨_, ho1, rfl, nl, rfl⟩
      have f8 := F.sub_list_set
      have f9 := F.sub_list_frozenset
      have f10 : (Value.type "list" == Value.type "dict") = false := by decide
      unfold Builtin.«set.__init__» noKeywords Builtin.Frozenset.updateFrom
      generalize hPI : pyIter = PI
      wp_walk
      subst hPI
      refine wpAny_pyIter_list l1 (wpAny_bind (wpAny_runValue ?_))
      have lt : l < s.heap.objs.size := Heap.lt_size ho
      have h3 : A.in1.in1.in1.handled = none := by simp [hh]
      have sz : (emp w s.heap).objs.size = s.heap.objs.size + 1 := Heap.size_push ..
      have neI : l ≠ (emp w s.heap).objs.size := by
        rw [sz]
        exact Nat.ne_of_lt (Nat.lt_succ_of_lt lt)
      have nf : s.heap.objs.size ∉ [(emp w s.heap).objs.size, l] := by
        rw [sz, List.mem_cons, List.mem_singleton, not_or]
        exact ⟨Nat.ne_of_lt (Nat.lt_succ_self _), Nat.ne_of_gt lt⟩
      have hv : ∀ (i : Nat) (v : Value), items[i]? = some v → ∃ x tk, zs[i]? = some x ∧ v = .str x tk := fun i v e => by
        have z : items.toList[i]? = some v := by
          rw [Array.getElem?_toList]
          exact e
        exact strs_get hit z
      refine update_S ((Walks.list h3 _ l neI items).toS) s.heap.objs.size nf zs hz hv few (items.size - 0) 0 _ (by omega) (Nat.zero_le _) ⟨⟨_, Heap.get?_push_size _ rfl, rfl, rfl⟩, l1.push _⟩
        ((setS_new w s.heap).at fun o e => Heap.get?_push_of_some _ e) fun s' hm hS' => ?_
      obtain ⟨h', g2, d', tk', os'⟩ := s'
      have eg : g2 = s.gens := hm.gens
      have ed : d' = s.drawn := hm.drawn
      have eo : os' = s.os := hm.os
      subst eg
      subst ed
      subst eo
      show wpAny _ _ _ _ _ _
      refine wpAny_pure ?_
      show wpAny _ _ (ret Value.none) _ _ _
      refine wpAny_pure ⟨rfl, h', tk', rfl, hS', fun b o e => ?_⟩
      have lb := Heap.lt_size e
      refine hm.heap b o (fun z => ?_) (Heap.get?_push_of_some _ (Heap.get?_push_of_some _ e))
      rcases List.mem_cons.mp z with z | z
      · rw [z] at lb
        exact Nat.lt_irrefl _ lb
      · have z := List.mem_singleton.mp z
        rw [z, sz] at lb
        exact Nat.not_lt_of_le (Nat.le_succ _) lb
    · match r2, hr2 with
      | .error e, hr2 => exact hr2
      | .ok (.ret v), hr2 =>
        obtain ⟨rfl, h', tk, rfl, hS', hk⟩ := hr2
        repeat (any_goals (first | assumption | wp_step))
        exact q _ _ hS' hk
      | .ok .next, hr2 => exact hr2.elim
      | .ok .brk, hr2 => exact hr2.elim
      | .ok .cont, hr2 => exact hr2.elim
  | .ok .next, hr => exact hr.elim
  | .ok .brk, hr => exact hr.elim
  | .ok .cont, hr => exact hr.elim
end
section
variable {X : Cx}
/-- set(list of texts) -/
def rSetS (K : PySem.W.Frag) (w : World) : List V → Hp → VK → Prop := fun xs H Q => ∃ (l : Addr) (zs : List Str), xs = [V.ref l] ∧ SqL K H l (zs.map V.str) ∧ zs.length < 4000 ∧ ∀ a, H a = none → Q (.ref a) (upd H a (SetSO w a (uniq [] zs)))
theorem cr_setS (hc : X.calm = true) : CallR X (.type "set") (rSetS X.K X.w) := by
  intro pins s σ H xs us Q I r h
  obtain ⟨l, zs, rfl, hl, few, q⟩ := h
  rw [Vals.ref1 r]
  obtain ⟨its, rv, pl, hz⟩ := I.list hl
  have hn : H s.heap.objs.size = none := I.hok.fresh (Nat.le_refl _)
  have hb : scanBound = 4096 := rfl
  refine set_S (P := X.prog) (w := X.w) (I.ok.hd hc) pl.isList (by simpa using rv.strs) (by omega) fun h' tk R k => ?_
  exact ⟨.ref s.heap.objs.size, upd H s.heap.objs.size (SetSO X.w s.heap.objs.size (uniq [] zs)), I.laid (t' := tk) k (Nat.le_refl _) (setSO_ok R), rfl, q _ hn⟩
end
end Ev

/-! ## Programs, pairs, and what comprehensions over them give -/
namespace Ev
open PySem PySem.Spec PyProof.Rows L2
/-- a statement that is never reached -/
theorem ps_dead {X : Cx} {st : Stmt} : PS X st (fun _ _ _ => False) := ⟨fun _ _ _ _ _ _ h => h.elim⟩
theorem pss_dead {X : Cx} {b : List Stmt} : PSs X b (fun _ _ _ => False) := ⟨fun _ _ _ _ _ _ h => h.elim⟩
inductive It where
  | line (x : Str) (t : Int)
  | loop (r : Int) (is : List It)
mutual
def It.d : It → PyData
  | .line x t => .tuple [.str "line", .str x, .int t]
  | .loop r is => .tuple [.str "loop", .int r, .tuple (Its.d is)]
def Its.d : List It → List PyData
  | [] => []
  | i :: is => It.d i :: Its.d is
end
theorem Its.d_map : ∀ is : List It, Its.d is = is.map It.d
  | [] => by rw [Its.d]; rfl
  | i :: is => by rw [Its.d, Its.d_map is]; rfl
/-- loops at most n deep, numbers from 0 below 2 ^ B -/
def Okp (B : Nat) : Nat → It → Prop
  | _, .line _ t => 0 ≤ t ∧ t < (2 ^ B : Nat)
  | 0, .loop _ _ => False
  | n + 1, .loop r is => 0 ≤ r ∧ r < (2 ^ B : Nat) ∧ ∀ i ∈ is, Okp B n i
theorem okp_line {B n : Nat} {x : Str} {t : Int} : Okp B n (.line x t) ↔ 0 ≤ t ∧ t < (2 ^ B : Nat) := by
  cases n <;> exact Iff.rfl
mutual
/-- the lines with their ticks, all rounds r times -/
def It.sp (r : Int) : It → List (Str × Int)
  | .line x t => [(x, r * t)]
  | .loop k is => Its.sp (r * k) is
def Its.sp (r : Int) : List It → List (Str × Int)
  | [] => []
  | i :: is => It.sp r i ++ Its.sp r is
end
theorem Its.sp_app (r : Int) : ∀ is js : List It, Its.sp r (is ++ js) = Its.sp r is ++ Its.sp r js
  | [], js => by
    rw [List.nil_append, Its.sp]
    rfl
  | i :: is, js => by
    rw [List.cons_append, Its.sp, Its.sp, Its.sp_app r is js, List.append_assoc]
theorem Its.sp_one (r : Int) (i : It) : Its.sp r [i] = It.sp r i := by
  rw [Its.sp, Its.sp, List.append_nil]
mutual
/-- how many lines there are -/
def It.nl : It → Nat
  | .line _ _ => 1
  | .loop _ is => Its.nl is
def Its.nl : List It → Nat
  | [] => 0
  | i :: is => It.nl i + Its.nl is
end
mutual
theorem It.sp_len (r : Int) : ∀ i : It, (It.sp r i).length = It.nl i
  | .line x t => by
    rw [It.sp, It.nl]
    rfl
  | .loop k is => by
    rw [It.sp, It.nl, Its.sp_len (r * k) is]
theorem Its.sp_len (r : Int) : ∀ is : List It, (Its.sp r is).length = Its.nl is
  | [] => by
    rw [Its.sp, Its.nl]
    rfl
  | i :: is => by
    rw [Its.sp, Its.nl, List.length_append, It.sp_len r i, Its.sp_len r is]
end
theorem Its.nl_app : ∀ is js : List It, Its.nl (is ++ js) = Its.nl is + Its.nl js
  | [], js => by
    rw [List.nil_append, Its.nl, Nat.zero_add]
  | i :: is, js => by
    rw [List.cons_append, Its.nl, Its.nl, Its.nl_app is js, Nat.add_assoc]
theorem Its.nl_mem : ∀ {is : List It} {i : It}, i ∈ is → It.nl i ≤ Its.nl is
  | j :: is, i, h => by
    rw [Its.nl]
    rcases List.mem_cons.mp h with rfl | h
    · exact Nat.le_add_right _ _
    · exact Nat.le_trans (Its.nl_mem h) (Nat.le_add_left _ _)
/-! ### pairs -/
def pairD (p : Str × Int) : PyData := .tuple [.str p.1, .int p.2]
/-- a list of pairs -/
def gPl (K : PySem.W.Frag) (ps : List (Str × Int)) : GP := ⟨fun H u => ∃ l us, u = .ref l ∧ H l = some (.lst us) ∧ DaAll K H us (ps.map pairD), fun s ⟨l, us, h1, h2, h3⟩ => ⟨l, us, h1, s _ _ h2, h3.mono s⟩⟩
section
variable {K : PySem.W.Frag} {H H' : Hp}
theorem da_app {us vs : List V} {ds es : List PyData} : DaAll K H us ds → DaAll K H vs es → DaAll K H (us ++ vs) (ds ++ es)
  | .nil, k => k
  | .cons h t, k => .cons h (da_app t k)
theorem daAll_len : ∀ {vs : List V} {ds : List PyData}, DaAll K H vs ds → vs.length = ds.length
  | _, _, .nil => rfl
  | _, _, .cons _ t => by
    rw [List.length_cons, List.length_cons, daAll_len t]
theorem daAll_at : ∀ {vs : List V} {ds : List PyData} {j : Nat} {x : V}, DaAll K H vs ds → vs[j]? = some x → ∃ d, ds[j]? = some d ∧ Da K H x d
  | _, _, _, _, .nil, e => by cases e
  | _, _, 0, _, .cons h _, e => by
    cases e
    exact ⟨_, rfl, h⟩
  | _, _, j + 1, _, .cons _ t, e => daAll_at (j := j) t e
mutual
/-- made of tuples alone -/
def tupD : PyData → Bool
  | .tuple ds => tupDs ds
  | .list _ => false
  | .dict _ => false
  | _ => true
def tupDs : List PyData → Bool
  | [] => true
  | d :: ds => tupD d && tupDs ds
end
/-- what is no list stays -/
def Kt (H H' : Hp) : Prop := ∀ b o, H b = some o → (∀ xs, o ≠ .lst xs) → H' b = some o
theorem Kt.of {H H' : Hp} (s : Same H H') : Kt H H' := fun b o e _ => s b o e
theorem Kt.put {H : Hp} {l : Addr} {xs : List V} {o : HO} (h : H l = some (.lst xs)) : Kt H (upd H l o) := fun b u e n => by
  have z : b ≠ l := fun z => by
    rw [z, h] at e
    cases e
    exact n xs rfl
  rw [upd_ne z]
  exact e
theorem Kt.trans {H1 H2 H3 : Hp} (a : Kt H1 H2) (b : Kt H2 H3) : Kt H1 H3 := fun x o e n => b x o (a x o e n) n
mutual
theorem Da.kt (k : Kt H H') : ∀ {v : V} {d : PyData}, tupD d = true → Da K H v d → Da K H' v d
  | _, _, _, .non => .non
  | _, _, _, .bl b => .bl b
  | _, _, _, .int i => .int i
  | _, _, _, .str x => .str x
  | _, _, n, .lst _ _ => by
    rw [tupD] at n
    cases n
  | _, _, n, .tup h t => by
    rw [tupD] at n
    refine .tup ?_ (DaAll.kt k n t)
    rcases h with (e | ⟨o, e⟩) | e
    · exact .inl (.inl (k _ _ e fun xs z => by cases z))
    · exact .inl (.inr ⟨o, k _ _ e fun xs z => by cases z⟩)
    · exact .inr e
  | _, _, n, .dic _ _ => by
    rw [tupD] at n
    cases n
theorem DaAll.kt (k : Kt H H') : ∀ {vs : List V} {ds : List PyData}, tupDs ds = true → DaAll K H vs ds → DaAll K H' vs ds
  | _, _, _, .nil => .nil
  | _, _, n, .cons h t => by
    rw [tupDs, Bool.and_eq_true] at n
    exact .cons (Da.kt k n.1 h) (DaAll.kt k n.2 t)
end
theorem tup_pairs : ∀ ps : List (Str × Int), tupDs (ps.map pairD) = true
  | [] => by rw [List.map_nil, tupDs]
  | p :: ps => by
    rw [List.map_cons, tupDs, tup_pairs ps, Bool.and_true]
    unfold pairD
    simp [tupD, tupDs]
theorem da_pair {x : V} {p : Str × Int} (h : Da K H x (pairD p)) : ∃ a, x = .ref a ∧ SqT K H a [.str p.1, .int p.2] := by
  unfold pairD at h
  cases h with
  | @tup a xs _ hs ha =>
  cases ha with
  | cons h1 ha =>
  cases ha with
  | cons h2 ha =>
  cases ha
  cases h1
  cases h2
  exact ⟨a, rfl, hs⟩
end
/-! ### comprehensions whose elements are plain values -/
section
variable {K : PySem.W.Frag} {H0 : Hp} {σ : L2.St} {te ti : TE} {tt : TT}
/-- over a list that an expression gives -/
theorem g_lcF {ds : List PyData} {f : Nat → Bool} {y : Nat → V} {g : TG} {vs : List Nat} (hi : ∀ (H : Hp) (Q : VK), Same H0 H → (∀ H' l us, Same H H' → SqL K H' l us → DaAll K H' us ds → Q (.ref l) H') → ti σ H Q) (hz : ds.length ≤ 1000000)
    (he : ∀ (j : Nat) (x : V) (d : PyData), ds[j]? = some d → ∀ (H : Hp) (R : VK) (N : Hp → Prop), Same H0 H → Da K H x d → (f j = true → ∀ H', Same H H' → R (y j) H') → (f j = false → ∀ H', Same H H' → N H') →
      g x (wipe σ vs) H fun σ2 H2 => wipe σ2 vs = wipe σ vs ∧ tt σ2 H2 fun b H3 => if b = true then te σ2 H3 R else N H3) :
    Gives H0 (tLc (iList K ti) g tt te vs) (gLst ((((List.range ds.length).filter f).map y).map gEq)) σ := fun H Q s q => by
  refine hi H _ s fun H1 l us s1 hl ha => ⟨l, rfl, ⟨us, hl⟩, fun D nD => ?_⟩
  have sl := sizeLine_eq
  have hlen := daAll_len ha
  refine lc_list (K := K) (a := l) (xs := us) (fun k H' => Same H1 H' ∧ H' D = some (.lst (((List.range k).filter f).map y))) ⟨same_put nD, upd_same⟩ (fun k H' _ ⟨s', _⟩ => s'.seq hl) ?_ ?_
  · rintro k x H' hk ⟨s', eD⟩
    obtain ⟨d, hd, hx⟩ := daAll_at ha hk
    have hkl : k < ds.length := (List.getElem?_eq_some_iff.mp hd).1
    have hll : (((List.range k).filter f).map y).length < sizeLine := by
      rw [List.length_map]
      have z := List.length_filter_le f (List.range k)
      rw [List.length_range] at z
      omega
    refine cast ?_ (he k x d hd H' (fun y' H4 => ∃ acc, H4 D = some (.lst acc) ∧ acc.length < sizeLine ∧ Same H1 (upd H4 D (.lst (acc ++ [y']))) ∧ upd H4 D (.lst (acc ++ [y'])) D = some (.lst (((List.range (k + 1)).filter f).map y)))
      (fun H4 => Same H1 H4 ∧ H4 D = some (.lst (((List.range (k + 1)).filter f).map y))) (s.trans (s1.trans s')) (hx.mono s') (fun e H4 s4 => ⟨_, s4 _ _ eD, hll, ?_, ?_⟩) (fun e H4 s4 => ⟨s'.trans s4, ?_⟩))
    · rfl
    · intro b o e
      rw [upd_ne (ne_of_none e nD)]
      exact s4 _ _ (s' _ _ e)
    · rw [upd_same, List.range_succ, List.filter_append, List.map_append]
      simp [e]
    · rw [List.range_succ, List.filter_append]
      simp [e]
      exact s4 _ _ eD
  · rintro H' ⟨s', eD⟩
    rw [hlen] at eD
    exact q H' _ (s1.trans s') ⟨D, _, rfl, eD, allEq⟩
theorem range_map {α β : Type} (l : List α) (f : α → β) (d : β) : (List.range l.length).map (fun j => ((l[j]?).map f).getD d) = l.map f := by
  apply List.ext_getElem
  · rw [List.length_map, List.length_range, List.length_map]
  · intro i h1 h2
    rw [List.getElem_map, List.getElem_range, List.getElem_map]
    rw [List.length_map] at h2
    rw [List.getElem?_eq_getElem h2]
    rfl
/-- sum of a list of numbers -/
theorem g_sum {ns : List Int} (h : Gives H0 te (gLst ((ns.map V.int).map gEq)) σ) : Gives H0 (tCB (rSum K) (tCons te tNil)) (gEq (.int ns.sum)) σ := fun H Q s q =>
  h H _ s fun H1 u s1 ⟨p, us, e, hp, ha⟩ => by
    have eu := all_eq ha
    subst eu
    subst e
    exact ⟨p, ns, rfl, .inl (.inl hp), q H1 _ s1 rfl⟩
end
end Ev

/-! ## Texts in order -/
namespace Ev
open PySem PySem.Spec PyProof.Rows
theorem lt_irr : ∀ a : List Nat, ltCps a a = false
  | [] => rfl
  | x :: a => by
    show (decide (x < x) || (x == x && ltCps a a)) = false
    rw [lt_irr a]
    simp
theorem lt_tri : ∀ a b : List Nat, ltCps a b = false → ltCps b a = false → a = b
  | [], [], _, _ => rfl
  | [], _ :: _, h, _ => by cases h
  | _ :: _, [], _, h => by cases h
  | x :: a, y :: b, h1, h2 => by
    have h1 : (decide (x < y) || (x == y && ltCps a b)) = false := h1
    have h2 : (decide (y < x) || (y == x && ltCps b a)) = false := h2
    rw [Bool.or_eq_false_iff, decide_eq_false_iff_not] at h1 h2
    have e : x = y := by omega
    subst e
    rw [beq_self_eq_true, Bool.true_and] at h1 h2
    rw [lt_tri a b h1.2 h2.2]
/-- not greater is transitive -/
theorem le_tr : ∀ a b c : List Nat, ltCps b a = false → ltCps c b = false → ltCps c a = false
  | [], [], c, _, h => h
  | [], _ :: _, [], _, h => by cases h
  | [], _ :: _, _ :: _, _, _ => rfl
  | _ :: _, [], _, h, _ => by cases h
  | _ :: _, _ :: _, [], _, h => by cases h
  | x :: a, y :: b, z :: c, h1, h2 => by
    have h1 : (decide (y < x) || (y == x && ltCps b a)) = false := h1
    have h2 : (decide (z < y) || (z == y && ltCps c b)) = false := h2
    show (decide (z < x) || (z == x && ltCps c a)) = false
    rw [Bool.or_eq_false_iff, decide_eq_false_iff_not] at h1 h2 ⊢
    refine ⟨by omega, ?_⟩
    by_cases e : z = x
    · subst e
      have e2 : y = z := by omega
      subst e2
      rw [beq_self_eq_true, Bool.true_and] at h1 h2 ⊢
      exact le_tr a b c h1.2 h2.2
    · have : (z == x) = false := by simpa using e
      rw [this, Bool.false_and]
def LeS (a b : Str) : Prop := ltCps b.cps.toList a.cps.toList = false
theorem LeS.rfl' (a : Str) : LeS a a := lt_irr _
theorem LeS.tr {a b c : Str} (h : LeS a b) (k : LeS b c) : LeS a c := le_tr _ _ _ h k
theorem LeS.anti {a b : Str} (h : LeS a b) (k : LeS b a) : a = b := by
  have e := lt_tri _ _ k h
  obtain ⟨x⟩ := a
  obtain ⟨y⟩ := b
  have e : x.toList = y.toList := e
  rw [Array.toList_inj.mp e]
theorem rising_pw : ∀ (r : List Str) (p : Str), risingS p r = true → (p :: r).Pairwise LeS
  | [], _, _ => List.pairwise_singleton _ _
  | x :: r, p, h => by
    have h : (!ltCps x.cps.toList p.cps.toList && risingS x r) = true := h
    rw [Bool.and_eq_true] at h
    have ih := rising_pw r x h.2
    have px : LeS p x := by
      show ltCps x.cps.toList p.cps.toList = false
      have := h.1
      revert this
      cases ltCps x.cps.toList p.cps.toList <;> simp
    refine List.pairwise_cons.mpr ⟨fun y hy => ?_, ih⟩
    rcases List.mem_cons.mp hy with rfl | hy
    · exact px
    · exact px.tr ((List.pairwise_cons.mp ih).1 y hy)
theorem sorted_pw : ∀ {l : List Str}, sortedS l = true → l.Pairwise LeS
  | [], _ => .nil
  | x :: r, h => rising_pw r x h
/-- two rows in order with the same members are one -/
theorem pw_same : ∀ {l m : List Str}, l.Pairwise LeS → m.Pairwise LeS → l.Perm m → l = m
  | [], m, _, _, p => p.nil_eq
  | x :: l, [], _, _, p => by
    have := p.length_eq
    cases this
  | x :: l, y :: m, h, k, p => by
    obtain ⟨h1, h2⟩ := List.pairwise_cons.mp h
    obtain ⟨k1, k2⟩ := List.pairwise_cons.mp k
    have e : x = y := by
      have xy : LeS x y := by
        rcases List.mem_cons.mp (p.mem_iff.mpr (List.mem_cons_self ..)) with e | e
        · rw [e]
          exact LeS.rfl' _
        · exact h1 y e
      have yx : LeS y x := by
        rcases List.mem_cons.mp (p.mem_iff.mp (List.mem_cons_self ..)) with e | e
        · rw [e]
          exact LeS.rfl' _
        · exact k1 x e
      exact xy.anti yx
    subst e
    rw [pw_same h2 k2 p.cons_inv]
theorem sorted_same {l m : List Str} (h : sortedS l = true) (k : sortedS m = true) (p : l.Perm m) : l = m := pw_same (sorted_pw h) (sorted_pw k) p
theorem lt_two : ∀ a b : List Nat, ltCps a b = true → ltCps b a = true → False
  | [], [], h, _ => by cases h
  | [], _ :: _, _, h => by cases h
  | _ :: _, [], h, _ => by cases h
  | x :: a, y :: b, h1, h2 => by
    have h1 : (decide (x < y) || (x == y && ltCps a b)) = true := h1
    have h2 : (decide (y < x) || (y == x && ltCps b a)) = true := h2
    rw [Bool.or_eq_true, decide_eq_true_iff, Bool.and_eq_true, beq_iff_eq] at h1 h2
    rcases h1 with h1 | h1
    · rcases h2 with h2 | h2
      · omega
      · omega
    · rcases h2 with h2 | h2
      · omega
      · exact lt_two a b h1.2 h2.2
def insS (x : Str) : List Str → List Str
  | [] => [x]
  | y :: r => if ltCps y.cps.toList x.cps.toList = true then y :: insS x r else x :: y :: r
theorem ins_perm (x : Str) : ∀ l : List Str, (insS x l).Perm (x :: l)
  | [] => .refl _
  | y :: r => by
    unfold insS
    split
    · exact ((ins_perm x r).cons y).trans (List.Perm.swap x y r)
    · exact .refl _
theorem ins_pw (x : Str) : ∀ l : List Str, l.Pairwise LeS → (insS x l).Pairwise LeS
  | [], _ => List.pairwise_singleton _ _
  | y :: r, h => by
    obtain ⟨h1, h2⟩ := List.pairwise_cons.mp h
    unfold insS
    split
    · rename_i c
      refine List.pairwise_cons.mpr ⟨fun z hz => ?_, ins_pw x r h2⟩
      rcases List.mem_cons.mp ((ins_perm x r).mem_iff.mp hz) with rfl | hz
      · show ltCps z.cps.toList y.cps.toList = false
        by_cases e : ltCps z.cps.toList y.cps.toList = true
        · exact (lt_two _ _ c e).elim
        · exact Bool.eq_false_iff.mpr e
      · exact h1 z hz
    · rename_i c
      have xy : LeS x y := Bool.eq_false_iff.mpr c
      refine List.pairwise_cons.mpr ⟨fun z hz => ?_, h⟩
      rcases List.mem_cons.mp hz with rfl | hz
      · exact xy
      · exact xy.tr (h1 z hz)
def srtS : List Str → List Str
  | [] => []
  | x :: l => insS x (srtS l)
theorem srt_perm : ∀ l : List Str, (srtS l).Perm l
  | [] => .refl _
  | x :: l => (ins_perm x _).trans ((srt_perm l).cons x)
theorem srt_pw : ∀ l : List Str, (srtS l).Pairwise LeS
  | [] => .nil
  | x :: l => ins_pw x _ (srt_pw l)
theorem srt_is {l ys : List Str} (p : ys.Perm l) (h : sortedS ys = true) : ys = srtS l := pw_same (sorted_pw h) (srt_pw l) (p.trans (srt_perm l).symm)
/-- the same members, in order -/
theorem srt_eq {l m : List Str} (h : l.Nodup) (k : m.Nodup) (e : ∀ x, x ∈ l ↔ x ∈ m) : srtS l = srtS m :=
  pw_same (srt_pw l) (srt_pw m) ((srt_perm l).trans (((List.perm_ext_iff_of_nodup h k).mpr e).trans (srt_perm m).symm))
end Ev

/-! ## Items, taken apart -/
namespace Ev
open PySem PySem.Spec PyProof.Rows L2
theorem dec_str (x : Str) : decide (V.str x = V.str x) = true := decide_eq_true rfl
theorem dec_ll : decide (V.str "loop" = V.str "line") = false := decide_eq_false fun h => absurd (V.str.inj h) (by decide)
theorem s_ret2 {r1 r2 : List V → Hp → VK → Prop} {te : TE} {D : Ends} {σ : L2.St} {H : Hp} (h : te σ H fun x H1 => r2 [x] H1 fun y H2 => r1 [y] H2 D.rt) : tRet (tCB r1 (tCons (tCB r2 (tCons te tNil)) tNil)) D σ H := h
theorem abs_lt {t : Int} {B : Nat} (h0 : 0 ≤ t) (h1 : t < (2 ^ B : Nat)) : t.natAbs < 2 ^ B := by omega
/-- an item, taken apart -/
theorem da_line {K : PySem.W.Frag} {H : Hp} {v : V} {x : Str} {t : Int} (h : Da K H v (It.d (.line x t))) : ∃ b, v = .ref b ∧ SqT K H b [.str "line", .str x, .int t] := by
  rw [It.d] at h
  cases h with
  | @tup b xs _ hs ha =>
  cases ha with
  | cons h1 ha =>
  cases ha with
  | cons h2 ha =>
  cases ha with
  | cons h3 ha =>
  cases ha
  cases h1
  cases h2
  cases h3
  exact ⟨b, rfl, hs⟩
theorem da_loop {K : PySem.W.Frag} {H : Hp} {v : V} {r : Int} {is : List It} (h : Da K H v (It.d (.loop r is))) : ∃ b w, v = .ref b ∧ SqT K H b [.str "loop", .int r, w] ∧ Da K H w (.tuple (is.map It.d)) := by
  rw [It.d, Its.d_map] at h
  cases h with
  | @tup b xs _ hs ha =>
  cases ha with
  | cons h1 ha =>
  cases ha with
  | cons h2 ha =>
  cases ha with
  | @cons w _ _ _ h3 ha =>
  cases ha
  cases h1
  cases h2
  exact ⟨b, w, rfl, hs, h3⟩
theorem da_prog {K : PySem.W.Frag} {H : Hp} {v : V} {ds : List PyData} (h : Da K H v (.tuple ds)) : ∃ a xs, v = .ref a ∧ SqT K H a xs ∧ DaAll K H xs ds := by
  cases h with
  | tup hs ha => exact ⟨_, _, rfl, hs, ha⟩
theorem sp_take {r : Int} {is : List It} {i : Nat} {it : It} (h : is[i]? = some it) : Its.sp r (is.take (i + 1)) = Its.sp r (is.take i) ++ It.sp r it := by
  rw [List.take_add_one, h, Its.sp_app]
  show _ ++ Its.sp r [it] = _
  rw [Its.sp_one]
theorem nl_take {is : List It} {i : Nat} {it : It} (h : is[i]? = some it) : Its.nl (is.take i) + It.nl it ≤ Its.nl is := by
  have e : is = is.take i ++ is.drop i := (List.take_append_drop i is).symm
  obtain ⟨hi, hx⟩ := List.getElem?_eq_some_iff.mp h
  rw [List.drop_eq_getElem_cons hi, hx] at e
  have z := congrArg Its.nl e
  rw [Its.nl_app, Its.nl] at z
  omega
section
variable {P : Program} {w : World} {K : PySem.W.Frag} {mg : Str → Option Value} {base : Heap}
theorem no_fn {CX : CXT} {k : Nat} {f : Addr} {fd : FuncData} {ps : List Str} : FnOk P w K mg base CX k f fd ps (fun _ _ _ _ => False) :=
  ⟨fun _ _ _ _ h => h.elim, fun _ _ _ _ _ _ _ _ _ _ _ _ _ h => h.elim⟩
/-- what a program must be, to be asked about -/
structure Prg (K : PySem.W.Frag) (B dep : Nat) (H : Hp) (x : V) (is : List It) : Prop where
  da : Da K H x (.tuple (is.map It.d))
  ok : ∀ i ∈ is, Okp B dep i
  few : Its.nl is ≤ 100000
theorem Prg.same {B dep : Nat} {H H' : Hp} {x : V} {is : List It} (h : Prg K B dep H x is) (s : Same H H') : Prg K B dep H' x is := ⟨h.da.mono s, h.ok, h.few⟩
/-- bounds for numbers -/
def Room2 (B dep : Nat) : Prop := 0 < B ∧ 64 + (dep + 1) * B ≤ 900000
def lenI (is : List It) : Int := ((Its.sp 1 is).map (·.2)).sum
end
def linesI (is : List It) : List Str := srtS (uniq [] ((Its.sp 1 is).map (·.1)))
end Ev

/-! ## How long a text of data is; whiles; items as tuples -/
namespace Ev
open PySem PySem.Spec PyProof.Rows L2
/-- a while by an invariant with a number that falls -/
theorem while_w {c : TT} {tb : TS} {D : Ends} {σ : L2.St} {H : Hp} (W : Nat → L2.St → Hp → Prop) (h0 : ∃ m, W m σ H)
    (hs : ∀ m σ H, W m σ H → c σ H fun b H1 => if b = true then tb { D with nx := fun σ' H' => ∃ m', m' < m ∧ W m' σ' H', ct := fun σ' H' => ∃ m', m' < m ∧ W m' σ' H', bk := D.nx } σ H1 else D.nx σ H1)
    (mono : ∀ σ H Q Q', (∀ b H1, Q b H1 → Q' b H1) → c σ H Q → c σ H Q') : tWhile c tb D σ H := by
  refine ⟨W, h0, fun m σ' H' w => mono σ' H' _ _ (fun b H1 h => ?_) (hs m σ' H' w)⟩
  by_cases e : b = true
  · rw [if_pos e] at h ⊢
    exact ⟨_, fun σ2 H2 n => n, h⟩
  · rw [if_neg e] at h ⊢
    exact h
mutual
def It.sz : It → Nat
  | .line _ _ => 1
  | .loop _ is => 1 + Its.sz is
def Its.sz : List It → Nat
  | [] => 0
  | i :: is => It.sz i + Its.sz is
end
theorem sz_mem : ∀ {is : List It} {i : It}, i ∈ is → It.sz i ≤ Its.sz is
  | j :: is, i, h => by
    rw [Its.sz]
    rcases List.mem_cons.mp h with rfl | h
    · exact Nat.le_add_right _ _
    · exact Nat.le_trans (sz_mem h) (Nat.le_add_left _ _)
theorem drop_one {is : List It} {i : Nat} {it : It} (h : is[i]? = some it) : (is.drop i).take 1 = [it] := by
  obtain ⟨hi, hx⟩ := List.getElem?_eq_some_iff.mp h
  rw [List.drop_eq_getElem_cons hi, hx]
  rfl
theorem atI_of {xs : List V} {i : Nat} {v : V} (h : xs[i]? = some v) : atI xs (i : Nat) = some v := atI_nat h
section
variable {K : PySem.W.Frag}
/-- a part of a program -/
theorem Prg.part {B dep : Nat} {H : Hp} {u x : V} {is js : List It} (hp : Prg K B dep H x is) (hu : Da K H u (.tuple (js.map It.d))) (hm : ∀ i ∈ js, i ∈ is) (hn : Its.nl js ≤ Its.nl is) : Prg K B dep H u js :=
  ⟨hu, fun i hi => hp.ok i (hm i hi), Nat.le_trans hn hp.few⟩
theorem nl_take_le (is : List It) (n : Nat) : Its.nl (is.take n) ≤ Its.nl is := by
  have z := congrArg Its.nl (List.take_append_drop n is)
  rw [Its.nl_app] at z
  omega
theorem nl_drop_le (is : List It) (n : Nat) : Its.nl (is.drop n) ≤ Its.nl is := by
  have z := congrArg Its.nl (List.take_append_drop n is)
  rw [Its.nl_app] at z
  omega
theorem map_take {α β : Type} (f : α → β) (l : List α) (n : Nat) : (l.map f).take n = (l.take n).map f := (List.map_take ..).symm
end
structure Sz (e w : Nat) (d : PyData) : Prop where
  sh : d.showable = true
  ls : d.leavesShort 1000 = true
  dp : d.depth ≤ e
  wt : d.weight ≤ w
theorem Sz.up {e e' w w' : Nat} {d : PyData} (h : Sz e w d) (he : e ≤ e') (hw : w ≤ w') : Sz e' w' d := ⟨h.sh, h.ls, Nat.le_trans h.dp he, Nat.le_trans h.wt hw⟩
theorem Sz.fits {e w : Nat} {d : PyData} (h : Sz e w d) (he : e ≤ 64) (hw : w ≤ 16000) : d.showable = true ∧ d.depth ≤ 64 ∧ d.shown.length ≤ sizeLine := by
  refine ⟨h.sh, Nat.le_trans h.dp he, ?_⟩
  have z := PyData.shown_le 1000 (by decide) d h.ls
  have y := sizeLine_eq
  have h1 : (1000 + 2) * d.weight ≤ 1002 * 16000 := Nat.mul_le_mul_left _ (Nat.le_trans h.wt hw)
  omega
theorem sz_int {i : Int} {k : Nat} (h : i.natAbs < 2 ^ k) (h0 : 0 < k) (hk : k ≤ 900) : Sz 0 k (.int i) := by
  have hl := PySem.Flt.log2_lt_of h0 h
  refine ⟨?_, ?_, ?_, ?_⟩
  · rw [PyData.showable]
    exact decide_eq_true (by omega)
  · rw [PyData.leavesShort]
    refine decide_eq_true ?_
    have z := int_text_length_le h0 hl
    have e : (PyData.shown (.int i)).length = (toString i).length := by
      rw [PyData.shown, PySem.ofString_length]
    omega
  · rw [PyData.depth]
    exact Nat.le_refl _
  · rw [PyData.weight]
    split <;> omega
theorem sz_str {x : Str} {n : Nat} (h : x.cps.size ≤ n) (hc : (x.cps.toList.all fun c => decide (c < 16 ^ 8)) = true) : Sz 0 n (.str x) := by
  refine ⟨by rw [PyData.showable], ?_, ?_, ?_⟩
  · rw [PyData.leavesShort]
    exact hc
  · rw [PyData.depth]
    exact Nat.le_refl _
  · rw [PyData.weight]
    exact h
theorem sz_all {e w : Nat} : ∀ {ds : List PyData}, (∀ d ∈ ds, Sz e w d) → PyData.showableAll ds = true ∧ PyData.leavesShortAll 1000 ds = true ∧ PyData.depthAll ds ≤ e ∧ PyData.weightAll ds ≤ ds.length * (w + 1)
  | [], _ => by
    refine ⟨by rw [PyData.showableAll], by rw [PyData.leavesShortAll], ?_, ?_⟩
    · rw [PyData.depthAll]
      exact Nat.zero_le _
    · rw [PyData.weightAll]
      exact Nat.zero_le _
  | d :: ds, h => by
    obtain ⟨h1, h2, h3, h4⟩ := h d (List.mem_cons_self ..)
    obtain ⟨k1, k2, k3, k4⟩ := sz_all fun x hx => h x (List.mem_cons_of_mem _ hx)
    refine ⟨by rw [PyData.showableAll, h1, k1]; rfl, by rw [PyData.leavesShortAll, h2, k2]; rfl, ?_, ?_⟩
    · rw [PyData.depthAll]
      exact Nat.max_le.mpr ⟨h3, k3⟩
    · rw [PyData.weightAll, List.length_cons, Nat.succ_mul]
      omega
theorem sz_tup {e w : Nat} {ds : List PyData} (h : ∀ d ∈ ds, Sz e w d) : Sz (e + 1) (ds.length * (w + 1)) (.tuple ds) := by
  obtain ⟨k1, k2, k3, k4⟩ := sz_all h
  refine ⟨by rw [PyData.showable]; exact k1, by rw [PyData.leavesShort]; exact k2, ?_, by rw [PyData.weight]; exact k4⟩
  rw [PyData.depth]
  omega
theorem sz_lst {e w : Nat} {ds : List PyData} (h : ∀ d ∈ ds, Sz e w d) : Sz (e + 1) (ds.length * (w + 1)) (.list ds) := by
  obtain ⟨k1, k2, k3, k4⟩ := sz_all h
  refine ⟨by rw [PyData.showable]; exact k1, by rw [PyData.leavesShort]; exact k2, ?_, by rw [PyData.weight]; exact k4⟩
  rw [PyData.depth]
  omega
def nmB (x : Str) : Bool := (decide (x.cps.size ≤ 8) && x.cps.toList.all fun c => decide (c < 16 ^ 8)) && PyData.strOk x
theorem nm_sz {x : Str} (h : nmB x = true) : Sz 0 8 (.str x) := by
  unfold nmB at h
  rw [Bool.and_eq_true, Bool.and_eq_true] at h
  exact sz_str (of_decide_eq_true h.1.1) h.1.2
theorem nm_ok {x : Str} (h : nmB x = true) : PyData.strOk x = true := by
  unfold nmB at h
  rw [Bool.and_eq_true] at h
  exact h.2
mutual
/-- names and numbers are short -/
def It.nm : It → Prop
  | .line x t => nmB x = true ∧ t.natAbs < 2 ^ 128
  | .loop r is => r.natAbs < 2 ^ 128 ∧ Its.nm is
def Its.nm : List It → Prop
  | [] => True
  | i :: is => It.nm i ∧ Its.nm is
end
mutual
def It.ni : It → Nat
  | .line _ _ => 1
  | .loop _ is => 1 + Its.ni is
def Its.ni : List It → Nat
  | [] => 0
  | i :: is => It.ni i + Its.ni is
end
theorem lit_sz : Sz 0 8 (.str "line") ∧ Sz 0 8 (.str "loop") := ⟨nm_sz (by decide +kernel), nm_sz (by decide +kernel)⟩
mutual
theorem It.szd : ∀ (n : Nat) (B : Nat) (i : It), Okp B n i → It.nm i → (It.d i).showable = true ∧ (It.d i).leavesShort 1000 = true ∧ (It.d i).depth ≤ 2 * n + 1 ∧ (It.d i).weight + 1 ≤ 165 * It.ni i
  | n, B, .line x t, _, h => by
    rw [It.nm] at h
    rw [It.d, It.ni]
    have z := sz_tup (e := 0) (w := 128) (ds := [.str "line", .str x, .int t]) fun d hd => by
      rcases List.mem_cons.mp hd with rfl | hd
      · exact lit_sz.1.up (Nat.le_refl _) (by decide)
      rcases List.mem_cons.mp hd with rfl | hd
      · exact (nm_sz h.1).up (Nat.le_refl _) (by decide)
      rcases List.mem_cons.mp hd with rfl | hd
      · exact sz_int h.2 (by decide) (by decide)
      cases hd
    refine ⟨z.sh, z.ls, Nat.le_trans z.dp (by omega), ?_⟩
    rw [PyData.weight, PyData.weightAll, PyData.weightAll, PyData.weightAll, PyData.weightAll]
    have w1 := lit_sz.1.wt
    have w2 := (nm_sz h.1).wt
    have w3 := (sz_int (i := t) h.2 (by decide) (by decide)).wt
    omega
  | 0, B, .loop r is, h, _ => h.elim
  | n + 1, B, .loop r is, ho, h => by
    rw [It.nm] at h
    obtain ⟨_, _, hj⟩ : 0 ≤ r ∧ r < (2 ^ B : Nat) ∧ ∀ i ∈ is, Okp B n i := ho
    obtain ⟨k1, k2, k3, k4⟩ := Its.szd n B is hj h.2
    have z1 := lit_sz.2
    have z2 := sz_int (i := r) h.1 (by decide) (by decide)
    rw [It.d, Its.d_map, It.ni]
    refine ⟨?_, ?_, ?_, ?_⟩
    · rw [PyData.showable, PyData.showableAll, PyData.showableAll, PyData.showableAll, PyData.showableAll, z1.sh, z2.sh]
      rw [PyData.showable, k1]
      rfl
    · rw [PyData.leavesShort, PyData.leavesShortAll, PyData.leavesShortAll, PyData.leavesShortAll, PyData.leavesShortAll, z1.ls, z2.ls]
      rw [PyData.leavesShort, k2]
      rfl
    · rw [PyData.depth, PyData.depthAll, PyData.depthAll, PyData.depthAll, PyData.depthAll]
      have d1 := z1.dp
      have d2 := z2.dp
      have d3 : (PyData.tuple (is.map It.d)).depth ≤ 2 * n + 2 := by
        rw [PyData.depth]
        omega
      have : max (PyData.str "loop").depth (max (PyData.int r).depth (max (PyData.tuple (is.map It.d)).depth 0)) ≤ 2 * n + 2 := by
        refine Nat.max_le.mpr ⟨by omega, Nat.max_le.mpr ⟨by omega, Nat.max_le.mpr ⟨d3, by omega⟩⟩⟩
      omega
    · rw [PyData.weight, PyData.weightAll, PyData.weightAll, PyData.weightAll, PyData.weightAll]
      rw [show (PyData.tuple (is.map It.d)).weight = PyData.weightAll (is.map It.d) by rw [PyData.weight]]
      have w1 := z1.wt
      have w2 := z2.wt
      have h5 : PyData.weightAll (is.map It.d) ≤ 165 * Its.ni is := k4
      omega
theorem Its.szd : ∀ (n : Nat) (B : Nat) (is : List It), (∀ i ∈ is, Okp B n i) → Its.nm is → PyData.showableAll (is.map It.d) = true ∧ PyData.leavesShortAll 1000 (is.map It.d) = true ∧ PyData.depthAll (is.map It.d) ≤ 2 * n + 1 ∧ PyData.weightAll (is.map It.d) ≤ 165 * Its.ni is
  | n, B, [], _, _ => by
    refine ⟨by rw [List.map_nil, PyData.showableAll], by rw [List.map_nil, PyData.leavesShortAll], ?_, ?_⟩
    · rw [List.map_nil, PyData.depthAll]
      exact Nat.zero_le _
    · rw [List.map_nil, PyData.weightAll]
      exact Nat.zero_le _
  | n, B, i :: is, ho, h => by
    rw [Its.nm] at h
    obtain ⟨h1, h2, h3, h4⟩ := It.szd n B i (ho i (List.mem_cons_self ..)) h.1
    obtain ⟨k1, k2, k3, k4⟩ := Its.szd n B is (fun j hj => ho j (List.mem_cons_of_mem _ hj)) h.2
    refine ⟨by rw [List.map_cons, PyData.showableAll, h1, k1]; rfl, by rw [List.map_cons, PyData.leavesShortAll, h2, k2]; rfl, ?_, ?_⟩
    · rw [List.map_cons, PyData.depthAll]
      exact Nat.max_le.mpr ⟨h3, k3⟩
    · rw [List.map_cons, PyData.weightAll, Its.ni]
      omega
end
theorem nm_of : ∀ {is : List It}, (∀ i ∈ is, It.nm i) → Its.nm is
  | [], _ => by
    rw [Its.nm]
    trivial
  | i :: is, h => by
    rw [Its.nm]
    exact ⟨h i (List.mem_cons_self ..), nm_of fun j hj => h j (List.mem_cons_of_mem _ hj)⟩
theorem ni_mul {W : Nat} : ∀ {is : List It}, (∀ i ∈ is, It.ni i ≤ W) → Its.ni is ≤ is.length * W
  | [], _ => by
    rw [Its.ni]
    exact Nat.zero_le _
  | i :: is, h => by
    rw [Its.ni, List.length_cons, Nat.succ_mul]
    have a := h i (List.mem_cons_self ..)
    have b := ni_mul fun j hj => h j (List.mem_cons_of_mem _ hj)
    omega
mutual
theorem It.nl_ni : ∀ i : It, It.nl i ≤ It.ni i
  | .line _ _ => by
    rw [It.nl, It.ni]
    exact Nat.le_refl _
  | .loop _ is => by
    rw [It.nl, It.ni]
    exact Nat.le_trans (Its.nl_ni is) (Nat.le_add_left _ _)
theorem Its.nl_ni : ∀ is : List It, Its.nl is ≤ Its.ni is
  | [] => by
    rw [Its.nl]
    exact Nat.zero_le _
  | i :: is => by
    rw [Its.nl, Its.ni]
    exact Nat.add_le_add (It.nl_ni i) (Its.nl_ni is)
end
mutual
theorem It.tupd : ∀ i : It, tupD (It.d i) = true
  | .line x t => by
    rw [It.d, tupD, tupDs, tupDs, tupDs, tupDs, tupD, tupD, tupD]
    rfl
    all_goals (intros; contradiction)
  | .loop r is => by
    rw [It.d, tupD, tupDs, tupDs, tupDs, tupDs, tupD, tupD, tupD, Its.tupd is]
    rfl
    all_goals (intros; contradiction)
theorem Its.tupd : ∀ is : List It, tupDs (Its.d is) = true
  | [] => by rw [Its.d, tupDs]
  | i :: is => by rw [Its.d, tupDs, It.tupd i, Its.tupd is]; rfl
end
theorem prog_tup (is : List It) : tupD (.tuple (is.map It.d)) = true := by
  rw [tupD, ← Its.d_map]
  exact Its.tupd is
theorem Bu.kt {p : Addr} {H H' : Hp} {xs : List V} (h : Bu p H H') (hp : H p = some (.lst xs)) : Kt H H' := fun b o e n => by
  refine h b o (fun z => ?_) e
  rw [z, hp] at e
  cases e
  exact n xs rfl
theorem Prg.kt {K : PySem.W.Frag} {B dep : Nat} {H H' : Hp} {x : V} {is : List It} (h : Prg K B dep H x is) (k : Kt H H') : Prg K B dep H' x is := ⟨h.da.kt k (prog_tup is), h.ok, h.few⟩
/-! ### the ticks, written out -/
mutual
def It.w : It → List Str
  | .line x t => List.replicate t.toNat x
  | .loop r is => (List.replicate r.toNat (Its.w is)).flatten
def Its.w : List It → List Str
  | [] => []
  | i :: is => It.w i ++ Its.w is
end
theorem w_app : ∀ is js : List It, Its.w (is ++ js) = Its.w is ++ Its.w js
  | [], js => by
    rw [List.nil_append, Its.w, List.nil_append]
  | i :: is, js => by
    rw [List.cons_append, Its.w, Its.w, w_app is js, List.append_assoc]
theorem w_one (i : It) : Its.w [i] = It.w i := by
  rw [Its.w, Its.w, List.append_nil]
mutual
/-- numbers from 0 -/
def It.nn : It → Prop
  | .line _ t => 0 ≤ t
  | .loop r is => 0 ≤ r ∧ Its.nn is
def Its.nn : List It → Prop
  | [] => True
  | i :: is => It.nn i ∧ Its.nn is
end
mutual
/-- numbers from 1, no empty loop -/
def It.ps : It → Prop
  | .line _ t => 1 ≤ t
  | .loop r is => 1 ≤ r ∧ is ≠ [] ∧ Its.ps is
def Its.ps : List It → Prop
  | [] => True
  | i :: is => It.ps i ∧ Its.ps is
end
mutual
theorem It.ps_nn : ∀ i : It, It.ps i → It.nn i
  | .line x t, h => by
    rw [It.ps] at h
    rw [It.nn]
    omega
  | .loop r is, h => by
    rw [It.ps] at h
    rw [It.nn]
    exact ⟨by omega, Its.ps_nn is h.2.2⟩
theorem Its.ps_nn : ∀ is : List It, Its.ps is → Its.nn is
  | [], _ => by
    rw [Its.nn]
    trivial
  | i :: is, h => by
    rw [Its.ps] at h
    rw [Its.nn]
    exact ⟨It.ps_nn i h.1, Its.ps_nn is h.2⟩
end
theorem ps_mem : ∀ {is : List It} {i : It}, Its.ps is → i ∈ is → It.ps i
  | j :: is, i, h, m => by
    rw [Its.ps] at h
    rcases List.mem_cons.mp m with rfl | m
    · exact h.1
    · exact ps_mem h.2 m
theorem ps_of : ∀ {is : List It}, (∀ i ∈ is, It.ps i) → Its.ps is
  | [], _ => by
    rw [Its.ps]
    trivial
  | i :: is, h => by
    rw [Its.ps]
    exact ⟨h i (List.mem_cons_self ..), ps_of fun j hj => h j (List.mem_cons_of_mem _ hj)⟩
theorem ps_take {is : List It} (h : Its.ps is) (n : Nat) : Its.ps (is.take n) := ps_of fun i hi => ps_mem h (List.mem_of_mem_take hi)
theorem ps_one {i : It} (h : It.ps i) : Its.ps [i] := ps_of fun j hj => by
  rw [List.mem_singleton.mp hj]
  exact h
theorem flat_count (x : Str) (l : List Str) : ∀ n : Nat, ((List.replicate n l).flatten.count x) = n * l.count x
  | 0 => by
    rw [List.replicate_zero, Nat.zero_mul]
    rfl
  | n + 1 => by
    rw [List.replicate_succ, List.flatten_cons, List.count_append, flat_count x l n, Nat.succ_mul]
    omega
theorem flat_len (l : List Str) : ∀ n : Nat, ((List.replicate n l).flatten.length) = n * l.length
  | 0 => by
    rw [List.replicate_zero, Nat.zero_mul]
    rfl
  | n + 1 => by
    rw [List.replicate_succ, List.flatten_cons, List.length_append, flat_len l n, Nat.succ_mul]
    omega
theorem mem_flat {x : Str} {l : List Str} {n : Nat} (h : 1 ≤ n) : x ∈ (List.replicate n l).flatten ↔ x ∈ l := by
  rw [List.mem_flatten]
  constructor
  · rintro ⟨m, h1, h2⟩
    rw [List.eq_of_mem_replicate h1] at h2
    exact h2
  · intro hx
    exact ⟨l, List.mem_replicate.mpr ⟨by omega, rfl⟩, hx⟩
mutual
theorem It.w_pos : ∀ i : It, It.ps i → 1 ≤ (It.w i).length
  | .line x t, h => by
    rw [It.ps] at h
    rw [It.w, List.length_replicate]
    omega
  | .loop r is, h => by
    rw [It.ps] at h
    rw [It.w, flat_len]
    have z := Its.w_pos is h.2.1 h.2.2
    have z2 : 1 * 1 ≤ r.toNat * (Its.w is).length := Nat.mul_le_mul (by omega) z
    omega
theorem Its.w_pos : ∀ is : List It, is ≠ [] → Its.ps is → 1 ≤ (Its.w is).length
  | [], n, _ => absurd rfl n
  | i :: is, _, h => by
    rw [Its.ps] at h
    rw [Its.w, List.length_append]
    have z := It.w_pos i h.1
    omega
end
/-- the ticks up to one within a loop -/
theorem flat_take {l : List Str} (hl : 1 ≤ l.length) : ∀ (n s : Nat), s < n * l.length → (List.replicate n l).flatten.take s = (List.replicate (s / l.length) l).flatten ++ l.take (s % l.length)
  | 0, s, h => by
    rw [Nat.zero_mul] at h
    omega
  | n + 1, s, h => by
    rw [List.replicate_succ, List.flatten_cons, List.take_append]
    by_cases c : s < l.length
    · rw [Nat.div_eq_of_lt c, Nat.mod_eq_of_lt c, Nat.sub_eq_zero_of_le (Nat.le_of_lt c)]
      simp
    · have e : s = (s - l.length) + l.length := by omega
      rw [Nat.succ_mul] at h
      have ih := flat_take hl n (s - l.length) (by omega)
      rw [List.take_of_length_le (by omega), ih]
      have d1 : s / l.length = (s - l.length) / l.length + 1 := by
        conv => lhs; rw [e]
        rw [Nat.add_div_right _ (by omega)]
      have d2 : s % l.length = (s - l.length) % l.length := by
        conv => lhs; rw [e]
        rw [Nat.add_mod_right]
      rw [d1, d2, List.replicate_succ, List.flatten_cons, List.append_assoc]
theorem flat_get {l : List Str} (hl : 1 ≤ l.length) : ∀ (n s : Nat), s < n * l.length → (List.replicate n l).flatten[s]? = l[s % l.length]?
  | 0, s, h => by
    rw [Nat.zero_mul] at h
    omega
  | n + 1, s, h => by
    rw [List.replicate_succ, List.flatten_cons]
    by_cases c : s < l.length
    · rw [List.getElem?_append_left c, Nat.mod_eq_of_lt c]
    · rw [Nat.succ_mul] at h
      rw [List.getElem?_append_right (by omega), flat_get hl n (s - l.length) (by omega)]
      congr 1
      exact (Nat.mod_eq_sub_mod (by omega)).symm
end Ev

/-! ## The numbers of a pot -/
namespace Ev
open PySem PySem.Spec PyProof.Rows L2
/-- the numbers of a pot out of which at most n draws came by reckoning -/
def PotL (n : Nat) (xs : List V) : Prop := ∃ x y c : Int, xs = [.int x, .int y, .int c] ∧ 0 ≤ x ∧ 0 ≤ y ∧ y < 2305843009213693921 ∧ 0 ≤ c ∧ c ≤ n
theorem own_nn (z m : Int) (b : Bool) (h : 0 < m) : 0 ≤ z % m * (if b = true then 1 else 0) := by
  refine Int.mul_nonneg (Int.emod_nonneg _ (by omega)) ?_
  cases b <;> decide
theorem flag_in (b : Bool) : -(2 ^ 64) < (if b = true then 1 else 0 : Int) ∧ (if b = true then 1 else 0 : Int) < 2 ^ 64 := by
  cases b <;> decide
theorem seq_nn {d : Int} {n : Nat} (h0 : 0 ≤ d) (h1 : d < n) : seqIndex? d n = some d.toNat := by
  unfold seqIndex?
  simp only []
  first
    | (rw [if_neg (by omega), if_pos (by omega)])
    | (split <;> simp_all <;> omega)
    | omega
/-- what len of a list or a tuple asks -/
def rLenK (K : PySem.W.Frag) : List V → Hp → VK → Prop := fun xs H Q => ∃ p ys, xs = [V.ref p] ∧ (SqL K H p ys ∨ SqT K H p ys) ∧ Q (.int (ys.length : Nat)) H
/-- what is tracked in H' and was not in H -/
def newer (H H' : Hp) : Hp := fun b => if H b = none then H' b else none
theorem newer_at {H H' : Hp} {b : Addr} (h : H b = none) : newer H H' b = H' b := if_pos h
theorem newer_le {A B A' B' : Hp} (h1 : ∀ b, A b = none → A' b = none) (h2 : ∀ b o, A b = none → B b = some o → B' b = some o) : Same (newer A B) (newer A' B') := fun b o e => by
  by_cases hb : A b = none
  · rw [newer_at hb] at e
    rw [newer_at (h1 b hb)]
    exact h2 b o hb e
  · have z : newer A B b = none := if_neg hb
    rw [z] at e
    cases e
theorem newer_sub {H H' : Hp} (h : ∀ b o, H b = none → H' b = some o → H' b = some o) : Same (newer H H') H' := fun b o e => by
  by_cases hb : H b = none
  · rw [newer_at hb] at e
    exact e
  · have z : newer H H' b = none := if_neg hb
    rw [z] at e
    cases e
theorem daAll_append {K : PySem.W.Frag} {H : Hp} {v : V} {d : PyData} (h : Da K H v d) : ∀ {vs : List V} {ds : List PyData}, DaAll K H vs ds → DaAll K H (vs ++ [v]) (ds ++ [d])
  | _, _, .nil => .cons h .nil
  | _, _, .cons a t => .cons a (daAll_append h t)
/-- tracked things stay tracked -/
theorem Bu.dom {p : Addr} {H H' : Hp} {o : HO} (h : Bu p H H') (hp : H' p = some o) (b : Addr) (e : H' b = none) : H b = none := by
  cases q : H b with
  | none => rfl
  | some u =>
    by_cases z : b = p
    · rw [z, hp] at e
      cases e
    · rw [h b u z q] at e
      cases e
theorem dom1 {p l : Addr} {H H' : Hp} {o1 o2 o3 : HO} (h : Bu p H H') (hp : H' p = some o1) (hl : H' l = some o2) {t : Addr} (e : H' t = none) : upd H l o3 t = none := by
  have ntl : t ≠ l := fun z => by
    rw [z, hl] at e
    cases e
  rw [upd_ne ntl]
  exact h.dom hp t e
theorem log_le {m : Int} (h1 : 1 ≤ m) (h2 : m ≤ 10 ^ 18) : m.natAbs.log2 < 9000 :=
  Nat.lt_of_lt_of_le (PySem.Flt.log2_lt_of (show 0 < 64 by decide) (show m.natAbs < 2 ^ 64 by omega)) (by decide)
theorem PotL.up {n m : Nat} {xs : List V} (h : PotL n xs) (k : n ≤ m) : PotL m xs := by
  obtain ⟨x, y, c, h1, h2, h3, h4, h5, h6⟩ := h
  exact ⟨x, y, c, h1, h2, h3, h4, h5, by omega⟩
theorem bu_seq {K : PySem.W.Frag} {p q : Addr} {H H' : Hp} {zs : List V} (n : q ≠ p) (h : Bu p H H') (s : SqL K H q zs) : SqL K H' q zs := by
  rcases s with (e | ⟨o, e⟩) | e
  · exact .inl (.inl (h _ _ n e))
  · exact .inl (.inr ⟨o, h _ _ n e⟩)
  · exact .inr e
end Ev

/-! ## isinstance of any datum; slices of tuples -/
namespace Ev
open PySem PySem.Spec PyProof.Rows L2
def tyD : PyData → String
  | .none => "NoneType"
  | .bool _ => "bool"
  | .int _ => "int"
  | .str _ => "str"
  | .list _ => "list"
  | .tuple _ => "tuple"
  | .dict _ => "dict"
theorem Da.ty {K : PySem.W.Frag} {H : Hp} {x : V} {d : PyData} (h : Da K H x d) : TyX K H x (.type (tyD d)) := by
  cases h with
  | non => exact .base .non
  | bl b => exact .base (.bl b)
  | int i => exact .base (.int i)
  | str x => exact .base (.str x)
  | lst hs ha =>
    rcases hs with (e | ⟨o, e⟩) | ⟨o, its, n, e, hc, _⟩
    · exact .base (.lst e)
    · exact .base (.frz e)
    · exact .kList e hc
  | tup hs ha =>
    rcases hs with (e | ⟨o, e⟩) | ⟨o, its, n, e, hc, _⟩
    · exact .base (.tup e)
    · exact .fTuple e
    · exact .kTuple e hc
  | dic e hk => exact .base (.dK e)
def isD (T : String) (d : PyData) : Bool := (kitB (tyD d) T).getD false
def OkT (T : String) : Prop := T = "int" ∨ T = "bool" ∨ T = "tuple" ∨ T = "str"
theorem kit_D {T : String} (hT : OkT T) (d : PyData) : kitB (tyD d) T = some (isD T d) := by
  rcases hT with rfl | rfl | rfl | rfl <;> cases d <;> kernel_rfl
theorem isD_int (d : PyData) : isD "int" d = (match d with | .int _ => true | .bool _ => true | _ => false) := by
  cases d <;> kernel_rfl
theorem isD_bool (d : PyData) : isD "bool" d = (match d with | .bool _ => true | _ => false) := by
  cases d <;> kernel_rfl
theorem isD_tuple (d : PyData) : isD "tuple" d = (match d with | .tuple _ => true | _ => false) := by
  cases d <;> kernel_rfl
theorem isD_str (d : PyData) : isD "str" d = (match d with | .str _ => true | _ => false) := by
  cases d <;> kernel_rfl
def tIsT (K : PySem.W.Frag) (T : String) (i : Nat) : TE := fun σ H Q => ∃ (x : V) (d : PyData), σ[i]? = some (some x) ∧ Da K H x d ∧ Q (.bl (isD T d)) H
section
variable {X : Cx} {x y : Str} {i : Nat} {p1 p2 q1 q2 : Pos}
theorem pe_isT {T : String} (hT : OkT T) (m : X.mg "isinstance" = none) (hv : ∀ pos, PE X (.Name y pos) (tVar i)) (hx : ∀ pos, PE X (.Name x pos) (tC (.ty T))) (hg : Gl X "isinstance" := by rfl) :
    PE X (.Call (.Name "isinstance" p1) [.Name y q1, .Name x q2] [] p2) (tIsT X.K T i) := by
  refine PE.imp (pe_callB call_isi hg m (by decide +kernel) (pa_cons (hv q1) (pa_cons (hx q2) pa_nil))) ?_
  rintro σ H Q ⟨x, d, h1, h2, h3⟩
  exact ⟨x, h1, x, .ty T, .type (tyD d), .type T, isD T d, rfl, .ty T, h2.ty, kit_ty (kit_D hT d), h3⟩
end
section
variable {K : PySem.W.Frag} {H0 : Hp} {σ : L2.St} {i : Nat} {x : V} {d : PyData} {T : String} {b c : Bool} {tt uu : TT} {t rest : TS} {D : Ends}
theorem t_isT (h : σ[i]? = some (some x)) (hd : Da K H0 x d) : GivesT H0 (tB (tIsT K T i)) (isD T d) σ := fun H Q s q => ⟨x, d, h, hd.mono s, _, rfl, q H Same.rfl'⟩
end
def intD (lo hi : Int) : PyData → Bool
  | .int i => decide (lo ≤ i) && decide (i ≤ hi)
  | _ => false
theorem ty_of {X : Cx} {x : Str} {T : String} {pos : Pos} (hg : Gl X x) (hm : X.mg x = none) (hb : bootBuiltins x = some (.type T)) (hn : x ≠ "__name__" := by decide) (hd : (x == ("__debug__" : Str)) = false := by decide) :
    PE X (.Name x pos) (tC (.ty T)) := pe_bltn (v := .ty T) hg hm hb (show RelV (.ty T) (.type T) from rfl) hn hd
def cutD (ds : List PyData) (lo hi : Option Int) : List PyData := (ds.drop (HT.sIx ds.length 0 lo)).take (HT.sIx ds.length ds.length hi - HT.sIx ds.length 0 lo)
theorem cut_to (ds : List PyData) (i : Nat) : cutD ds none (some (i : Nat)) = ds.take i := by
  unfold cutD
  rw [HT.sIx_none, HT.sIx_nat, List.drop_zero, Nat.sub_zero]
  by_cases h : i ≤ ds.length
  · rw [Nat.min_eq_left h]
  · rw [Nat.min_eq_right (by omega), List.take_of_length_le (by omega), List.take_of_length_le (by omega)]
theorem cut_mid (ds : List PyData) (i j : Nat) : cutD ds (some (i : Nat)) (some (j : Nat)) = (ds.drop i).take (j - i) := by
  unfold cutD
  rw [HT.sIx_nat, HT.sIx_nat]
  by_cases h : i ≤ ds.length
  · rw [Nat.min_eq_left h]
    by_cases k : j ≤ ds.length
    · rw [Nat.min_eq_left k]
    · rw [Nat.min_eq_right (by omega), List.take_of_length_le (by rw [List.length_drop]; omega), List.take_of_length_le (by rw [List.length_drop]; omega)]
  · have e : min i ds.length = ds.length := Nat.min_eq_right (by omega)
    rw [e, List.drop_of_length_le (Nat.le_refl _), List.drop_of_length_le (show ds.length ≤ i by omega), List.take_nil, List.take_nil]
theorem daAll_take {K : PySem.W.Frag} {H : Hp} : ∀ {vs : List V} {ds : List PyData} (n : Nat), DaAll K H vs ds → DaAll K H (vs.take n) (ds.take n)
  | _, _, 0, _ => .nil
  | _, _, _ + 1, .nil => .nil
  | _, _, n + 1, .cons a t => .cons a (daAll_take n t)
theorem daAll_drop {K : PySem.W.Frag} {H : Hp} : ∀ {vs : List V} {ds : List PyData} (n : Nat), DaAll K H vs ds → DaAll K H (vs.drop n) (ds.drop n)
  | _, _, 0, h => h
  | _, _, _ + 1, .nil => .nil
  | _, _, n + 1, .cons _ t => daAll_drop n t
/-- a slice of a tuple -/
theorem sl_val {K : PySem.W.Frag} {H : Hp} {x : V} {ds : List PyData} {lo hi : Option Int} {Q : VK} (hd : Da K H x (.tuple ds)) (q : ∀ H' u, Same H H' → Da K H' u (.tuple (cutD ds lo hi)) → Q u H') : rSlA K x lo hi H Q := by
  cases hd with
  | @tup a xs _ hs ha =>
  have hl := daAll_len ha
  refine ⟨a, xs, rfl, hs, fun e => ?_, fun e r nr => ?_⟩
  · refine q _ _ Same.rfl' ?_
    have z : cutD ds lo hi = ds := by
      unfold cutD
      rw [← hl, e.1, e.2, hl, List.drop_zero, Nat.sub_zero, List.take_length]
    rw [z]
    exact .tup hs ha
  · refine q _ _ (same_put nr) (.tup (xs := cutV xs lo hi) (.inl (.inl upd_same)) ?_)
    have z := (daAll_take (HT.sIx xs.length xs.length hi - HT.sIx xs.length 0 lo) (daAll_drop (HT.sIx xs.length 0 lo) ha)).mono (same_put (o := .tup (cutV xs lo hi)) nr)
    unfold cutV cutD
    rw [← hl]
    exact z
theorem cut_from (ds : List PyData) (i : Nat) : cutD ds (some (i : Nat)) none = ds.drop i := by
  unfold cutD
  rw [HT.sIx_none, HT.sIx_nat]
  by_cases h : i ≤ ds.length
  · rw [Nat.min_eq_left h, List.take_of_length_le (by rw [List.length_drop]; exact Nat.le_refl _)]
  · rw [Nat.min_eq_right (by omega), List.drop_of_length_le (Nat.le_refl _), List.drop_of_length_le (by omega), List.take_nil]
end Ev

/-! ## Defs by name: what stands there, and what it promises -/
namespace Ev
open PySem PySem.Spec PyProof.Rows L2
/-- a def of the module -/
structure Def (K : PySem.W.Frag) (mg : Str → Option Value) (x : Str) (st : Stmt) (ps : List Str) : Prop where
  ex : ∃ (f : Addr) (fd : FuncData), Fun K x x st f fd ∧ Binds K fd ps [] ∧ mg x = some (.ref f)
/-- a def that keeps a promise, ready to be called -/
structure Cal (P : Program) (w : World) (K : PySem.W.Frag) (mg : Str → Option Value) (base : Heap) (k : Nat) (x : Str) (ps : List Str) (sp : Sp) : Prop where
  ex : ∃ (f : Addr) (fd : FuncData), FnG P w K mg base CX0 k f fd ps sp ∧ Binds K fd ps [] ∧ mg x = some (.ref f) ∧ PySem.W.keepIn K (.ref f) = true
section
variable {P : Program} {w : World} {K : PySem.W.Frag} {mg : Str → Option Value} {base : Heap} {x : Str} {st : Stmt} {ps N : List Str} {sp : Sp} {k j : Nat}
theorem Cal.up (C : Cal P w K mg base j x ps sp) (h : j ≤ k) : Cal P w K mg base k x ps sp := by
  obtain ⟨f, fd, F, b, m, v⟩ := C.ex
  exact ⟨f, fd, F.up h, b, m, v⟩
theorem Cal.of {f : Addr} {fd : FuncData} (F : FnOk P w K mg base CX0 k f fd ps sp) (b : Binds K fd ps []) (m : mg x = some (.ref f)) (v : PySem.W.keepIn K (.ref f) = true) : Cal P w K mg base k x ps sp :=
  ⟨f, fd, .of F, b, m, v⟩
theorem Def.ok (D : Def K mg x st ps) (S : FnScope N ps (defScope st)) (len : ∀ vs H Q E, sp vs H Q E → vs.length = ps.length)
    (hbody : ∀ (f : Addr) (cdv : Value) (A : Around) (outer : List Env) (s : Shared) (H : Hp) (vs : List V) (Q : VK) (E : XK),
      Room k (A.deeper (envOfC x (defScope st) s.heap.objs.size f cdv)) → A.guards = some [] → sp vs H Q E →
      ∃ t, PSs (cxOf CX0 P w K mg base N x (defScope st) f cdv A outer s H E).nox (defBody st) t ∧
        t { nx := fun _ H' => Q .non H', rt := Q } (start N vs) H) : Cal P w K mg base (k + 1) x ps sp := by
  obtain ⟨f, fd, F, b, m⟩ := D.ex
  exact ⟨f, fd, okG F S len (hbody f), b, m, F.kp⟩
theorem no_cal (D : Def K mg x st ps) : Cal P w K mg base k x ps (fun _ _ _ _ => False) := by
  obtain ⟨f, fd, F, b, m⟩ := D.ex
  exact ⟨f, fd, .of no_fn, b, m, F.kp⟩
end
section
variable {X : Cx} {k : Nat} {ps : List Str} {sp : Sp} {x : Str} {p pos : Pos} {e : Expr} {es : List Expr} {t : TA}
theorem pcall (C : Cal X.prog X.w X.K X.mg X.base k x ps sp) (hr : Room k X.A) (gd : X.A.guards = some []) (hg : Gl X x) (ha : PA X (e :: es) t)
    (hdb : (x == ("__debug__" : Str)) = false := by decide) (he : starEach (e :: es) X.env = (false, eval e X.env) :: starEach es X.env := by rfl)
    (hpl : (backTo pos (starEach es X.env)).any (·.1) = false := by rfl) : PE X (.Call (.Name x p) (e :: es) [] pos) (tCall sp [] E0 t) := by
  obtain ⟨f, fd, F, hb, hm, hk⟩ := C.ex
  exact pe_callG F hr gd hg hm hk hb .nil pass0 ha hdb he hpl
theorem pcall0 (C : Cal X.prog X.w X.K X.mg X.base k x ps sp) (hr : Room k X.A) (gd : X.A.guards = some []) (hg : Gl X x)
    (hdb : (x == ("__debug__" : Str)) = false := by decide) : PE X (.Call (.Name x p) [] [] pos) (tCall sp [] E0 tNil) := by
  obtain ⟨f, fd, F, hb, hm, hk⟩ := C.ex
  exact pe_callG0 F hr gd hg hm hk hb .nil pass0 hdb
end
theorem hu70 {A : Around} {k : Nat} (hr : Room k A) : A.units + 70 < cLine := by
  have := hr.un
  omega
/-- built-in names that the module leaves alone -/
def nbs : List Str := ["len", "abs", "int", "bool", "isinstance", "range", "max", "min", "sum", "repr", "divmod", "tuple", "sorted", "set", "enumerate", "zip", "list", "dict", "any", "all", "str", "reversed"]
def NB (mg : Str → Option Value) : Prop := ∀ x ∈ nbs, mg x = none
theorem NB.at {mg : Str → Option Value} (h : NB mg) {x : Str} (hx : nbs.contains x = true := by decide +kernel) : mg x = none := h x (List.contains_iff_mem.mp hx)
/-! ### is_whole, is_integer_within -/
def spWh (K : PySem.W.Frag) : Sp := fun vs H Q _ => ∃ (x : V) (d : PyData), vs = [x] ∧ Da K H x d ∧ Q (.bl (isD "int" d && !isD "bool" d)) H
def spIn (K : PySem.W.Frag) : Sp := fun vs H Q _ => ∃ (x : V) (d : PyData) (lo hi : Int), vs = [x, .int lo, .int hi] ∧ Da K H x d ∧ ∀ H', Same H H' → Q (.bl (intD lo hi d)) H'
/-! ### tuple * 0, tuple * 1 -/
theorem tuple_mul1 (l : Addr) (items : Array Value) (n : Nat) (dd : Option Addr) (sl : Array (Option Value)) (x : Int) (u : Tok) (c0 : (decide (x < -(2 ^ 63)) || decide (x ≥ 2 ^ 63)) = false) (c1 : (items.isEmpty || x == 1) = true) :
    Meets (Builtin.«tuple.__mul__» ⟨[.ref l, .int x u], []⟩) (fun _ R s => s.heap.get? l = some { cls := .type "tuple", dict := dd, data := .seq items n, slots := sl } ∧
      R (.ok (.ret (Value.ref l))) s) :=
  .of_wp fun prog w A R s h => by
    obtain ⟨hp, g, d, tk, os⟩ := s
    obtain ⟨hl, h⟩ := h
    have f1 := AutoSeq1.idx_int
    wp_walk using wpAny_loadPart' hl
    repeat (first
      | (refine wpAny_ite_false (decide_eq_false (by rw [c0]; exact Bool.false_ne_true)) ?_; wp_walk using wpAny_loadPart' hl)
      | (refine wpAny_ite_true (decide_eq_true c1) ?_; wp_walk using wpAny_loadPart' hl))
    exact ⟨_, rfl, h⟩
theorem tuple_mul0 (l : Addr) (items : Array Value) (n : Nat) (dd : Option Addr) (sl : Array (Option Value)) (x : Int) (u : Tok) (c0 : (decide (x < -(2 ^ 63)) || decide (x ≥ 2 ^ 63)) = false) (c1 : (items.isEmpty || x == 1) = false)
    (c2 : (decide (x ≤ 0) || items.isEmpty) = true) :
    Meets (Builtin.«tuple.__mul__» ⟨[.ref l, .int x u], []⟩) (fun _ R s => s.heap.get? l = some { cls := .type "tuple", dict := dd, data := .seq items n, slots := sl } ∧
      R (.ok (.ret (Value.ref s.heap.objs.size))) { s with heap := s.heap.push { cls := Value.type "tuple", data := Data.seq #[] }, toks := s.toks }) :=
  .of_wp fun prog w A R s h => by
    obtain ⟨hp, g, d, tk, os⟩ := s
    obtain ⟨hl, h⟩ := h
    have f1 := AutoSeq1.idx_int
    wp_walk using wpAny_loadPart' hl
    repeat (first
      | (refine wpAny_ite_false (decide_eq_false (by rw [c0]; exact Bool.false_ne_true)) ?_; wp_walk using wpAny_loadPart' hl)
      | (refine wpAny_ite_false (decide_eq_false (by rw [c1]; exact Bool.false_ne_true)) ?_; wp_walk using wpAny_loadPart' hl)
      | (refine wpAny_ite_true (decide_eq_true c2) ?_; wp_walk using wpAny_loadPart' hl))
    exact ⟨_, rfl, h⟩
def rRepT01 (K : PySem.W.Frag) : R2 := fun x y H Q => ∃ l xs k, x = .ref l ∧ y = .int k ∧ SqT K H l xs ∧ xs ≠ [] ∧ ((k = 1 ∧ Q (.ref l) H) ∨ (k = 0 ∧ ∀ p, H p = none → Q (.ref p) (upd H p (.tup []))))
theorem op_repT01 {X : Cx} : OpR X (binaryOp .Mult) (rRepT01 X.K) := by
  intro pins s σ H x y v u Q I rx ry h
  obtain ⟨l, xs, k, rfl, rfl, hT, hne, h⟩ := h
  cases rx
  obtain ⟨t, rfl⟩ := ry
  obtain ⟨its, r, ⟨⟨cls, dd, data, sl⟩, ho, hc, n, hd⟩, hs⟩ := I.tuple hT
  simp only at hc hd
  subst hc hd
  have hle : its.length = xs.length := r.length.symm
  have hi : its.toArray.isEmpty = false := by
    cases its with
    | nil => exact absurd (List.eq_nil_of_length_eq_zero hle.symm) hne
    | cons a b => rfl
  rcases h with ⟨rfl, q⟩ | ⟨rfl, q⟩
  · refine wpAny_binaryOp_repeat_ref (T := "tuple") (U := "int") (by decide) ⟨_, ho, rfl⟩ (fun s' => typeIs_int s' 1 t) noFill_tuple_mul F.fills_int_mul F.slot_int_rmul repeat_tuple F.slot_int_index.lookup
      (call_meets F.slot_int_rmul (typeIs_int s 1 t) F.entry_int_rmul (F.args_int_rmul_2 _ _) (int_rmul_tuple 1 t l its.toArray n dd sl)
        ⟨ho, rfl, ⟨_, ho, rfl⟩, call_meets F.slot_tuple_mul ⟨_, ho, rfl⟩ F.entry_tuple_mul (F.args_tuple_mul_2 _ _) (tuple_mul1 l its.toArray n dd sl 1 t (by decide) (by rw [hi]; rfl)) ⟨ho, ?_⟩⟩)
    exact ⟨.ref l, H, I, rfl, q⟩
  · refine wpAny_binaryOp_repeat_ref (T := "tuple") (U := "int") (by decide) ⟨_, ho, rfl⟩ (fun s' => typeIs_int s' 0 t) noFill_tuple_mul F.fills_int_mul F.slot_int_rmul repeat_tuple F.slot_int_index.lookup
      (call_meets F.slot_int_rmul (typeIs_int s 0 t) F.entry_int_rmul (F.args_int_rmul_2 _ _) (int_rmul_tuple 0 t l its.toArray n dd sl)
        ⟨ho, rfl, ⟨_, ho, rfl⟩, call_meets F.slot_tuple_mul ⟨_, ho, rfl⟩ F.entry_tuple_mul (F.args_tuple_mul_2 _ _) (tuple_mul0 l its.toArray n dd sl 0 t (by decide) (by rw [hi]; rfl) (by simp)) ⟨ho, ?_⟩⟩)
    refine ⟨.ref s.heap.objs.size, _, I.laid (t' := s.toks) (o := .tup []) (fun b ob q => Heap.get?_push_of_some _ q) (Nat.le_refl _) ?_, rfl, q _ (I.hok.fresh (Nat.le_refl _))⟩
    exact ⟨Nat.zero_le _, [], .nil, IsTup.new _ _⟩
/-! ### pots -/
/-- at p stands a pot out of which at most n draws came by reckoning -/
def PotA (p : Addr) (n : Nat) (H : Hp) : Prop := ∃ xs, H p = some (.lst xs) ∧ PotL n xs
theorem PotA.up {p : Addr} {n m : Nat} {H : Hp} (h : PotA p n H) (k : n ≤ m) : PotA p m H := by
  obtain ⟨xs, e, q⟩ := h
  exact ⟨xs, e, q.up k⟩
theorem PotA.same {p : Addr} {n : Nat} {H H' : Hp} (h : PotA p n H) (s : Same H H') : PotA p n H' := by
  obtain ⟨xs, e, q⟩ := h
  exact ⟨xs, s _ _ e, q⟩
theorem PotA.new {p q : Addr} {n : Nat} {H : Hp} {o : HO} (h : PotA p n H) (nq : H q = none) : PotA p n (upd H q o) := h.same (same_put nq)
theorem PotA.ne {p q : Addr} {n : Nat} {H : Hp} (h : PotA p n H) (nq : H q = none) : p ≠ q := by
  obtain ⟨xs, e, _⟩ := h
  exact ne_of_none e nq
theorem PotA.put {p l : Addr} {n : Nat} {H : Hp} {o : HO} (h : PotA p n H) (ne : p ≠ l) : PotA p n (upd H l o) := by
  obtain ⟨xs, e, q⟩ := h
  exact ⟨xs, by rw [upd_ne ne]; exact e, q⟩
theorem PotA.kt {p : Addr} {n : Nat} {H H' : Hp} (h : PotA p n H) (b : Bu p H H') : Kt H H' := by
  obtain ⟨xs, e, _⟩ := h
  exact b.kt e
/-- tuples stay, while a pot is drawn from -/
theorem Da.bu {K : PySem.W.Frag} {p : Addr} {n : Nat} {H H' : Hp} {u : V} {d : PyData} (hd : Da K H u d) (ht : tupD d = true) (h : PotA p n H) (b : Bu p H H') : Da K H' u d := hd.kt (h.kt b) ht
theorem Bu.same {p : Addr} {H H1 H2 : Hp} (b : Bu p H H1) (s : Same H1 H2) : Bu p H H2 := b.trans (.of s)
def spDraw : Sp := fun vs H Q _ => ∃ (p : Addr) (m : Int) (n : Nat), vs = [.ref p, .int m] ∧ PotA p n H ∧ n < 10000000 ∧ 0 < m ∧ m.natAbs.log2 < 9000 ∧ ∀ H' d, Bu p H H' → PotA p (n + 1) H' → 0 ≤ d → d < m → Q (.int d) H'
def spPick (K : PySem.W.Frag) : Sp := fun vs H Q _ => ∃ (p q : Addr) (zs : List V) (n : Nat), vs = [.ref p, .ref q] ∧ PotA p n H ∧ n < 10000000 ∧ p ≠ q ∧ SqL K H q zs ∧ zs ≠ [] ∧ zs.length ≤ 1000000 ∧
  ∀ H' v, Bu p H H' → PotA p (n + 1) H' → v ∈ zs → Q v H'
def spPotS (K : PySem.W.Frag) : Sp := fun vs H Q _ => ∃ (a : Addr) (ns : List Int) (k : Int), vs = [.ref a, .int k] ∧ SqL K H a (ns.map V.int) ∧ 0 ≤ k ∧ k ≤ 1000 ∧ ∀ H' p, H p = none → Same H H' → PotA p 0 H' → Q (.ref p) H'
theorem log_i {m : Int} {k : Nat} (h1 : 0 ≤ m) (h2 : m < (2 ^ k : Nat)) (h0 : 0 < k) (hk : k ≤ 9000) : m.natAbs.log2 < 9000 :=
  Nat.lt_of_lt_of_le (PySem.Flt.log2_lt_of h0 (show m.natAbs < 2 ^ k by omega)) hk
/-! ### tuples joined; comprehensions whose elements are plain values -/
section
variable {K : PySem.W.Frag} {H0 : Hp} {σ : L2.St} {te ti : TE}
theorem cat_val {H : Hp} {x y : V} {ds es : List PyData} {Q : VK} (hx : Da K H x (.tuple ds)) (hy : Da K H y (.tuple es)) (hl : ds.length + es.length ≤ sizeLine)
    (q : ∀ H' u, Same H H' → Da K H' u (.tuple (ds ++ es)) → Q u H') : rCatA K x y H Q := by
  cases hx with
  | @tup a xs _ hs ha =>
  cases hy with
  | @tup b ys _ ht hb =>
  have l1 := daAll_len ha
  have l2 := daAll_len hb
  refine ⟨a, b, xs, ys, rfl, rfl, hs, ht, by omega, fun e => ?_, fun _ e => ?_, fun _ _ p np => ?_⟩
  · subst e
    cases ha
    exact q H _ Same.rfl' (.tup ht hb)
  · subst e
    cases hb
    refine q H _ Same.rfl' ?_
    rw [List.append_nil]
    exact .tup hs ha
  · exact q _ _ (same_put np) (.tup (xs := xs ++ ys) (.inl (.inl upd_same)) ((da_app ha hb).mono (same_put np)))
theorem g_lcT1 {ds : List PyData} {ys : List V} {g : TG} {vs : List Nat} (hi : ∀ (H : Hp) (Q : VK), Same H0 H → (∀ H' l us, Same H H' → SqT K H' l us → DaAll K H' us ds → Q (.ref l) H') → ti σ H Q) (hz : ds.length ≤ 1000000) (hl : ys.length = ds.length)
    (he : ∀ (j : Nat) (x y : V) (d : PyData), ds[j]? = some d → ys[j]? = some y → ∀ (H : Hp) (R : VK), Same H0 H → Da K H x d → (∀ H', Same H H' → R y H') → g x (wipe σ vs) H fun σ2 H2 => wipe σ2 vs = wipe σ vs ∧ te σ2 H2 R) :
    Gives H0 (tLc (iTup K ti) g tYes te vs) (gLst (ys.map gEq)) σ := fun H Q s q => by
  refine hi H _ s fun H1 l us s1 hl1 ha => ⟨l, rfl, ⟨us, hl1⟩, fun D nD => ?_⟩
  have sl := sizeLine_eq
  have hlen := daAll_len ha
  refine lc_tup (K := K) (a := l) (xs := us) (fun k H' => Same H1 H' ∧ H' D = some (.lst (ys.take k))) ⟨same_put nD, upd_same⟩ (fun k H' _ ⟨s', _⟩ => seqT_mono s' hl1) ?_ ?_
  · rintro k x H' hk ⟨s', eD⟩
    obtain ⟨d, hd, hx⟩ := daAll_at ha hk
    have hkl : k < ds.length := (List.getElem?_eq_some_iff.mp hd).1
    have hk' : k < ys.length := by omega
    have hy := List.getElem?_eq_getElem hk'
    refine cast ?_ (he k x ys[k] d hd hy H' (fun y' H4 => ∃ acc, H4 D = some (.lst acc) ∧ acc.length < sizeLine ∧ Same H1 (upd H4 D (.lst (acc ++ [y']))) ∧ upd H4 D (.lst (acc ++ [y'])) D = some (.lst (ys.take (k + 1))))
      (s.trans (s1.trans s')) (hx.mono s') (fun H4 s4 => ⟨_, s4 _ _ eD, ?_, ?_, ?_⟩))
    · rfl
    · rw [List.length_take]
      omega
    · intro b o e
      rw [upd_ne (ne_of_none e nD)]
      exact s4 _ _ (s' _ _ e)
    · rw [upd_same, List.take_add_one, hy]
      rfl
  · rintro H' ⟨s', eD⟩
    rw [hlen, ← hl, List.take_length] at eD
    exact q H' _ (s1.trans s') ⟨D, _, rfl, eD, allEq⟩
theorem g_lcL1 {ds : List PyData} {ys : List V} {g : TG} {vs : List Nat} (hi : ∀ (H : Hp) (Q : VK), Same H0 H → (∀ H' l us, Same H H' → SqL K H' l us → DaAll K H' us ds → Q (.ref l) H') → ti σ H Q) (hz : ds.length ≤ 1000000) (hl : ys.length = ds.length)
    (he : ∀ (j : Nat) (x y : V) (d : PyData), ds[j]? = some d → ys[j]? = some y → ∀ (H : Hp) (R : VK), Same H0 H → Da K H x d → (∀ H', Same H H' → R y H') → g x (wipe σ vs) H fun σ2 H2 => wipe σ2 vs = wipe σ vs ∧ te σ2 H2 R) :
    Gives H0 (tLc (iList K ti) g tYes te vs) (gLst (ys.map gEq)) σ := fun H Q s q => by
  refine hi H _ s fun H1 l us s1 hl1 ha => ⟨l, rfl, ⟨us, hl1⟩, fun D nD => ?_⟩
  have sl := sizeLine_eq
  have hlen := daAll_len ha
  refine lc_list (K := K) (a := l) (xs := us) (fun k H' => Same H1 H' ∧ H' D = some (.lst (ys.take k))) ⟨same_put nD, upd_same⟩ (fun k H' _ ⟨s', _⟩ => s'.seq hl1) ?_ ?_
  · rintro k x H' hk ⟨s', eD⟩
    obtain ⟨d, hd, hx⟩ := daAll_at ha hk
    have hkl : k < ds.length := (List.getElem?_eq_some_iff.mp hd).1
    have hk' : k < ys.length := by omega
    have hy := List.getElem?_eq_getElem hk'
    refine cast ?_ (he k x ys[k] d hd hy H' (fun y' H4 => ∃ acc, H4 D = some (.lst acc) ∧ acc.length < sizeLine ∧ Same H1 (upd H4 D (.lst (acc ++ [y']))) ∧ upd H4 D (.lst (acc ++ [y'])) D = some (.lst (ys.take (k + 1))))
      (s.trans (s1.trans s')) (hx.mono s') (fun H4 s4 => ⟨_, s4 _ _ eD, ?_, ?_, ?_⟩))
    · rfl
    · rw [List.length_take]
      omega
    · intro b o e
      rw [upd_ne (ne_of_none e nD)]
      exact s4 _ _ (s' _ _ e)
    · rw [upd_same, List.take_add_one, hy]
      rfl
  · rintro H' ⟨s', eD⟩
    rw [hlen, ← hl, List.take_length] at eD
    exact q H' _ (s1.trans s') ⟨D, _, rfl, eD, allEq⟩
theorem hi_tup {i : Nat} {x : V} {ds : List PyData} (hv : σ[i]? = some (some x)) (hd : Da K H0 x (.tuple ds)) :
    ∀ (H : Hp) (Q : VK), Same H0 H → (∀ H' l us, Same H H' → SqT K H' l us → DaAll K H' us ds → Q (.ref l) H') → tVar i σ H Q := fun H Q s q => by
  have z := hd.mono s
  cases z with
  | @tup a xs _ hs ha => exact ⟨_, hv, q H a xs Same.rfl' hs ha⟩
theorem hi_lst {i : Nat} {x : V} {ds : List PyData} (hv : σ[i]? = some (some x)) (hd : Da K H0 x (.list ds)) :
    ∀ (H : Hp) (Q : VK), Same H0 H → (∀ H' l us, Same H H' → SqL K H' l us → DaAll K H' us ds → Q (.ref l) H') → tVar i σ H Q := fun H Q s q => by
  have z := hd.mono s
  cases z with
  | @lst a xs _ hs ha => exact ⟨_, hv, q H a xs Same.rfl' hs ha⟩
end
end Ev

/-! ## Lines and their sums -/
namespace Ev
open PySem PySem.Spec PyProof.Rows L2
/-- a list of data made of tuples -/
def gLd (K : PySem.W.Frag) (es : List PyData) : GP := ⟨fun H u => ∃ l us, u = .ref l ∧ H l = some (.lst us) ∧ DaAll K H us es, fun s ⟨l, us, h1, h2, h3⟩ => ⟨l, us, h1, s _ _ h2, h3.mono s⟩⟩
section
variable {K : PySem.W.Frag} {H0 : Hp} {σ : L2.St} {te ti : TE}
theorem tupDs_take : ∀ {es : List PyData} (n : Nat), tupDs es = true → tupDs (es.take n) = true
  | [], n, h => by
    rw [List.take_nil]
    exact h
  | e :: es, 0, _ => by
    rw [List.take_zero, tupDs]
  | e :: es, n + 1, h => by
    rw [tupDs, Bool.and_eq_true] at h
    rw [List.take_succ_cons, tupDs, h.1, tupDs_take n h.2]
    rfl
/-- one more element of a comprehension's list -/
theorem lcD_more {H1 H4 H' : Hp} {D : Addr} {us : List V} {u : V} {es : List PyData} {e : PyData} {k : Nat} (nD : H1 D = none) (s' : Same H1 H') (s4 : Same H' H4) (eD : H' D = some (.lst us)) (ha : DaAll K H' us (es.take k)) (ht : tupDs es = true) (hk : es[k]? = some e) (hu : Da K H4 u e) :
    Same H1 (upd H4 D (.lst (us ++ [u]))) ∧ ∃ us', upd H4 D (.lst (us ++ [u])) D = some (.lst us') ∧ DaAll K (upd H4 D (.lst (us ++ [u]))) us' (es.take (k + 1)) := by
  have kt : Kt H4 (upd H4 D (.lst (us ++ [u]))) := Kt.put (s4 _ _ eD)
  have te : tupD e = true := by
    have z := tupDs_take (k + 1) ht
    rw [List.take_add_one, hk] at z
    exact tup_last z
  refine ⟨fun b o x => ?_, us ++ [u], upd_same, ?_⟩
  · rw [upd_ne (ne_of_none x nD)]
    exact s4 _ _ (s' _ _ x)
  · rw [List.take_add_one, hk]
    exact da_app (DaAll.kt ((Kt.of s4).trans kt) (tupDs_take k ht) ha) (.cons (Da.kt kt te hu) .nil)
where tup_last : ∀ {es : List PyData} {e : PyData}, tupDs (es ++ [e]) = true → tupD e = true
  | [], e, h => by
    rw [List.nil_append, tupDs, Bool.and_eq_true] at h
    exact h.1
  | d :: es, e, h => by
    rw [List.cons_append, tupDs, Bool.and_eq_true] at h
    exact tup_last h.2
theorem g_lcDL {ds es : List PyData} {g : TG} {vs : List Nat} (hi : ∀ (H : Hp) (Q : VK), Same H0 H → (∀ H' l us, Same H H' → SqL K H' l us → DaAll K H' us ds → Q (.ref l) H') → ti σ H Q) (hz : ds.length ≤ 1000000) (ht : tupDs es = true) (hl : es.length = ds.length)
    (he : ∀ (j : Nat) (x : V) (d e : PyData), ds[j]? = some d → es[j]? = some e → ∀ (H : Hp) (R : VK), Same H0 H → Da K H x d → (∀ H' u, Same H H' → Da K H' u e → R u H') → g x (wipe σ vs) H fun σ2 H2 => wipe σ2 vs = wipe σ vs ∧ te σ2 H2 R) :
    Gives H0 (tLc (iList K ti) g tYes te vs) (gLd K es) σ := fun H Q s q => by
  refine hi H _ s fun H1 l us s1 hl1 ha => ⟨l, rfl, ⟨us, hl1⟩, fun D nD => ?_⟩
  have sl := sizeLine_eq
  have hlen := daAll_len ha
  refine lc_list (K := K) (a := l) (xs := us) (fun k H' => Same H1 H' ∧ ∃ ws, H' D = some (.lst ws) ∧ DaAll K H' ws (es.take k)) ⟨same_put nD, [], upd_same, .nil⟩ (fun k H' _ ⟨s', _⟩ => s'.seq hl1) ?_ ?_
  · rintro k x H' hk ⟨s', ws, eD, hw⟩
    obtain ⟨d, hd, hx⟩ := daAll_at ha hk
    have hke : k < es.length := by
      have := (List.getElem?_eq_some_iff.mp hd).1
      omega
    have hek := List.getElem?_eq_getElem hke
    have hwl := daAll_len hw
    rw [List.length_take] at hwl
    refine cast ?_ (he k x d es[k] hd hek H' (fun y H4 => ∃ acc, H4 D = some (.lst acc) ∧ acc.length < sizeLine ∧ Same H1 (upd H4 D (.lst (acc ++ [y]))) ∧ ∃ ws, upd H4 D (.lst (acc ++ [y])) D = some (.lst ws) ∧ DaAll K (upd H4 D (.lst (acc ++ [y]))) ws (es.take (k + 1)))
      (s.trans (s1.trans s')) (hx.mono s') fun H4 u s4 hu => ⟨ws, s4 _ _ eD, by omega, lcD_more nD s' s4 eD hw ht hek hu⟩)
    rfl
  · rintro H' ⟨s', ws, eD, hw⟩
    rw [hlen, ← hl, List.take_length] at hw
    exact q H' _ (s1.trans s') ⟨D, ws, rfl, eD, hw⟩
theorem g_lcDT {a : Addr} {xs : List V} {es : List PyData} {g : TG} {vs : List Nat} {i : Nat} (hv : σ[i]? = some (some (.ref a))) (hx : SqT K H0 a xs) (hz : xs.length ≤ 1000000) (ht : tupDs es = true) (hl : es.length = xs.length)
    (he : ∀ (j : Nat) (x : V) (e : PyData), xs[j]? = some x → es[j]? = some e → ∀ (H : Hp) (R : VK), Same H0 H → (∀ H' u, Same H H' → Da K H' u e → R u H') → g x (wipe σ vs) H fun σ2 H2 => wipe σ2 vs = wipe σ vs ∧ te σ2 H2 R) :
    Gives H0 (tLc (iTup K (tVar i)) g tYes te vs) (gLd K es) σ := fun H Q s q => by
  refine ⟨_, hv, a, rfl, ⟨xs, seqT_mono s hx⟩, fun D nD => ?_⟩
  have sl := sizeLine_eq
  refine lc_tup (K := K) (a := a) (xs := xs) (fun k H' => Same H H' ∧ ∃ ws, H' D = some (.lst ws) ∧ DaAll K H' ws (es.take k)) ⟨same_put nD, [], upd_same, .nil⟩ (fun k H' _ ⟨s', _⟩ => seqT_mono (s.trans s') hx) ?_ ?_
  · rintro k x H' hk ⟨s', ws, eD, hw⟩
    have hke : k < es.length := by
      have := (List.getElem?_eq_some_iff.mp hk).1
      omega
    have hek := List.getElem?_eq_getElem hke
    have hwl := daAll_len hw
    rw [List.length_take] at hwl
    refine cast ?_ (he k x es[k] hk hek H' (fun y H4 => ∃ acc, H4 D = some (.lst acc) ∧ acc.length < sizeLine ∧ Same H (upd H4 D (.lst (acc ++ [y]))) ∧ ∃ ws, upd H4 D (.lst (acc ++ [y])) D = some (.lst ws) ∧ DaAll K (upd H4 D (.lst (acc ++ [y]))) ws (es.take (k + 1)))
      (s.trans s') fun H4 u s4 hu => ⟨ws, s4 _ _ eD, by omega, lcD_more nD s' s4 eD hw ht hek hu⟩)
    rfl
  · rintro H' ⟨s', ws, eD, hw⟩
    rw [← hl, List.take_length] at hw
    exact q H' _ s' ⟨D, ws, rfl, eD, hw⟩
end
def cntD (names : List Str) (c : Str → Int) : List (Key × V) := names.map fun n => (.inr n, .int (c n))
theorem cnt_val {names : List Str} {c : Str → Int} {x : Str} (h : x ∈ names) : valV (cntD names c) (.inr x) = some (.int (c x)) := by
  induction names with
  | nil => cases h
  | cons n names ih =>
    by_cases e : n = x
    · subst e
      exact valV_pos rfl
    · rw [show cntD (n :: names) c = ((.inr n, .int (c n)) : Key × V) :: cntD names c from rfl, valV_neg (fun z => e (Sum.inr.inj z))]
      exact ih ((List.mem_cons.mp h).resolve_left fun z => e z.symm)
theorem cnt_any {names : List Str} {c : Str → Int} {x : Str} : ((cntD names c).any fun kv => decide (kv.1 = .inr x)) = decide (x ∈ names) := by
  induction names with
  | nil => rfl
  | cons n names ih =>
    rw [show cntD (n :: names) c = ((.inr n, .int (c n)) : Key × V) :: cntD names c from rfl, List.any_cons, ih]
    by_cases e : n = x
    · subst e
      simp
    · have h1 : decide ((Sum.inr n : Key) = Sum.inr x) = false := decide_eq_false fun z => e (Sum.inr.inj z)
      have h2 : ¬ x = n := fun z => e z.symm
      show (decide ((Sum.inr n : Key) = Sum.inr x) || decide (x ∈ names)) = _
      rw [h1, Bool.false_or]
      exact decide_eq_decide.mpr ⟨fun z => List.mem_cons_of_mem _ z, fun z => (List.mem_cons.mp z).resolve_left h2⟩
theorem cnt_put {names : List Str} {c : Str → Int} {x : Str} {v : Int} (h : x ∈ names) : putK (cntD names c) (.inr x) (.int v) = cntD names fun n => if n = x then v else c n := by
  unfold putK
  rw [cnt_any, decide_eq_true h, if_pos rfl]
  unfold cntD
  rw [List.map_map]
  refine List.map_congr_left fun n _ => ?_
  show (if (Sum.inr n : Key) = Sum.inr x then _ else _) = ((.inr n, .int (if n = x then v else c n)) : Key × V)
  by_cases e : n = x
  · subst e
    rw [if_pos rfl]
    simp
  · rw [if_neg fun z => e (Sum.inr.inj z), if_neg e]
theorem cnt_new {names : List Str} {c : Str → Int} {x : Str} {v : Int} (h : x ∉ names) : putK (cntD names c) (.inr x) (.int v) = cntD names c ++ [(.inr x, .int v)] := by
  unfold putK
  rw [cnt_any, decide_eq_false h, if_neg Bool.false_ne_true]
/-- the sum of the numbers with the name n -/
def sumN (ps : List (Str × Int)) (n : Str) : Int := ((ps.filter fun p => decide (p.1 = n)).map (·.2)).sum
theorem sumN_snoc (ps : List (Str × Int)) (p : Str × Int) (n : Str) : sumN (ps ++ [p]) n = if n = p.1 then sumN ps n + p.2 else sumN ps n := by
  unfold sumN
  rw [List.filter_append, List.map_append, List.sum_append]
  by_cases e : p.1 = n
  · rw [if_pos e.symm]
    simp [e]
  · rw [if_neg fun z => e z.symm]
    simp [e]
theorem sumN_app (ps qs : List (Str × Int)) (n : Str) : sumN (ps ++ qs) n = sumN ps n + sumN qs n := by
  unfold sumN
  rw [List.filter_append, List.map_append, List.sum_append]
def totD (is : List It) (c : Str → Int) : PyData := .tuple ((linesI is).map fun n => pairD (n, c n))
theorem uniq_nd (xs : List Str) : (uniq [] xs).Nodup := uniq_nodup xs [] .nil
theorem lines_nd (is : List It) : (linesI is).Nodup := (srt_perm _).nodup_iff.mpr (uniq_nd _)
theorem lines_mem {is : List It} {x : Str} : x ∈ linesI is ↔ x ∈ (Its.sp 1 is).map (·.1) := by
  unfold linesI
  rw [(srt_perm _).mem_iff, uniq_mem]
  simp
theorem lines_len {is : List It} : (linesI is).length ≤ Its.nl is := by
  unfold linesI
  rw [(srt_perm _).length_eq]
  have z := uniq_len ((Its.sp 1 is).map (·.1)) []
  rw [List.length_map, Its.sp_len] at z
  have z0 : ([] : List Str).length = 0 := rfl
  omega
theorem sumN_nil (n : Str) : sumN [] n = 0 := rfl
mutual
/-- a line's ticks, r times -/
theorem It.sp_count (n : Str) (r : Int) : ∀ i : It, It.nn i → sumN (It.sp r i) n = r * ((It.w i).count n : Nat)
  | .line x t, h => by
    rw [It.nn] at h
    rw [It.sp, It.w]
    unfold sumN
    by_cases e : x = n
    · subst e
      rw [List.count_replicate_self]
      simp
      rw [Int.max_eq_left h]
    · rw [List.count_replicate, if_neg (by simpa using e)]
      simp [e]
  | .loop k is, h => by
    rw [It.nn] at h
    rw [It.sp, It.w, Its.sp_count n (r * k) is h.2, flat_count, Int.natCast_mul, Int.toNat_of_nonneg h.1, Int.mul_assoc]
theorem Its.sp_count (n : Str) (r : Int) : ∀ is : List It, Its.nn is → sumN (Its.sp r is) n = r * ((Its.w is).count n : Nat)
  | [], _ => by
    rw [Its.sp, Its.w, sumN_nil]
    simp
  | i :: is, h => by
    rw [Its.nn] at h
    rw [Its.sp, Its.w, sumN_app, It.sp_count n r i h.1, Its.sp_count n r is h.2, List.count_append, Int.natCast_add, Int.mul_add]
end
mutual
theorem It.sp_sum (r : Int) : ∀ i : It, It.nn i → ((It.sp r i).map (·.2)).sum = r * ((It.w i).length : Nat)
  | .line x t, h => by
    rw [It.nn] at h
    rw [It.sp, It.w, List.length_replicate, Int.toNat_of_nonneg h]
    simp
  | .loop k is, h => by
    rw [It.nn] at h
    rw [It.sp, It.w, Its.sp_sum (r * k) is h.2, flat_len, Int.natCast_mul, Int.toNat_of_nonneg h.1, Int.mul_assoc]
theorem Its.sp_sum (r : Int) : ∀ is : List It, Its.nn is → ((Its.sp r is).map (·.2)).sum = r * ((Its.w is).length : Nat)
  | [], _ => by
    rw [Its.sp, Its.w]
    simp
  | i :: is, h => by
    rw [Its.nn] at h
    rw [Its.sp, Its.w, List.map_append, List.sum_append, It.sp_sum r i h.1, Its.sp_sum r is h.2, List.length_append, Int.natCast_add, Int.mul_add]
end
theorem len_w {is : List It} (h : Its.nn is) : lenI is = ((Its.w is).length : Nat) := by
  unfold lenI
  rw [Its.sp_sum 1 is h, Int.one_mul]
theorem len_one {i : It} (h : It.nn i) : lenI [i] = ((It.w i).length : Nat) := by
  rw [len_w (by rw [Its.nn, Its.nn]; exact ⟨h, trivial⟩), w_one]
mutual
theorem It.sp_mem (x : Str) (r : Int) : ∀ i : It, It.ps i → (x ∈ (It.sp r i).map (·.1) ↔ x ∈ It.w i)
  | .line z t, h => by
    rw [It.ps] at h
    rw [It.sp, It.w, List.mem_replicate]
    simp
    intro e
    omega
  | .loop k is, h => by
    rw [It.ps] at h
    rw [It.sp, It.w, Its.sp_mem x (r * k) is h.2.2, mem_flat (by omega)]
theorem Its.sp_mem (x : Str) (r : Int) : ∀ is : List It, Its.ps is → (x ∈ (Its.sp r is).map (·.1) ↔ x ∈ Its.w is)
  | [], _ => by
    rw [Its.sp, Its.w]
    simp
  | i :: is, h => by
    rw [Its.ps] at h
    rw [Its.sp, Its.w, List.map_append, List.mem_append, List.mem_append, It.sp_mem x r i h.1, Its.sp_mem x r is h.2]
end
theorem lines_w {is : List It} (h : Its.ps is) {x : Str} : x ∈ linesI is ↔ x ∈ Its.w is := by
  rw [lines_mem, Its.sp_mem x 1 is h]
theorem lines_eq {is : List It} (h : Its.ps is) : linesI is = srtS (uniq [] (Its.w is)) := by
  unfold linesI
  refine srt_eq (uniq_nd _) (uniq_nd _) fun x => ?_
  rw [uniq_mem, uniq_mem, Its.sp_mem x 1 is h]
end Ev

/-! ## The row -/
namespace Ev
open PySem
def topS (i : Nat) : Stmt := PySem.Challenge.pw_evensamples_k56_benches_copied_and_compa.main.body.getD i (.Pass ⟨0, 0, 0, 0⟩)
end Ev

/-! ## is_whole, is_integer_within -/
namespace Ev
open PySem PySem.Spec PyProof.Rows L2
theorem scWh : FnScope ["value"] ["value"] (defScope (topS 9)) := ⟨rfl, rfl, rfl, by decide +kernel, rfl, by decide +kernel, by decide +kernel⟩
theorem scIn : FnScope ["value", "least", "most"] ["value", "least", "most"] (defScope (topS 10)) := ⟨rfl, rfl, rfl, by decide +kernel, rfl, by decide +kernel, by decide +kernel⟩
section
variable {P : Program} {w : World} {K : PySem.W.Frag} {mg : Str → Option Value} {base : Heap} {f fW : Addr} {fd fdW : FuncData}
theorem ok_wh (F : Fun K "is_whole" "is_whole" (topS 9) f fd) (mI : mg "isinstance" = none) (mi : mg "int" = none) (mb : mg "bool" = none) : FnOk P w K mg base CX0 1 f fd ["value"] (spWh K) := by
  refine F.ok scWh (fun vs H Q E h => ?_) (fun cdv A outer s H vs Q E hr h => ?_)
  · obtain ⟨x, d, rfl, _⟩ := h
    rfl
  · obtain ⟨x, d, rfl, hd, q⟩ := h
    refine ⟨_, pss_one (ps_ret (pe_and (pe_isT (.inl rfl) mI (fun _ => pv 0) (fun _ => ty_of rfl mi (by decide +kernel))) (pe_one (pe_not (pe_isT (.inr (.inl rfl)) mI (fun _ => pv 0) (fun _ => ty_of rfl mb (by decide +kernel))))))), ?_⟩
    refine ⟨x, d, rfl, hd, _, rfl, ite2 (fun e => ?_) (fun e => ?_)⟩
    · rw [e, Bool.true_and] at q
      exact ⟨x, d, rfl, hd, _, rfl, q⟩
    · rw [Bool.eq_false_iff.mpr e, Bool.false_and] at q
      exact q
theorem ok_in (F : Fun K "is_integer_within" "is_integer_within" (topS 10) f fd) (GW : FnOk P w K mg base CX0 1 fW fdW ["value"] (spWh K)) (bW : Binds K fdW ["value"] []) (mW : mg "is_whole" = some (.ref fW)) (vW : PySem.W.keepIn K (.ref fW) = true) :
    FnOk P w K mg base CX0 2 f fd ["value", "least", "most"] (spIn K) := by
  refine F.ok scIn (fun vs H Q E h => ?_) (fun cdv A outer s H vs Q E hr h => ?_)
  · obtain ⟨x, d, lo, hi, rfl, _⟩ := h
    rfl
  · obtain ⟨x, d, lo, hi, rfl, hd, q⟩ := h
    refine ⟨_, pss_one (ps_ret (pe_and (pe_call GW hr (by rfl) mW vW bW .nil pass0 (pa_cons (pv 0) pa_nil)) (pe_one (pe_chain op_le op_le (pv 1) (pv 0) (pv 2))))), ?_⟩
    have qq := q H Same.rfl'
    refine ⟨_, rfl, x, d, rfl, hd, _, rfl, ite2 (fun e => ?_) (fun e => ?_)⟩
    · rw [isD_int, isD_bool] at e
      obtain ⟨i, rfl⟩ : ∃ i, d = .int i := by
        cases d <;> first | exact ⟨_, rfl⟩ | simp at e
      have ex : x = .int i := by
        cases hd
        rfl
      subst ex
      refine ⟨_, rfl, _, rfl, _, _, rfl, rfl, _, rfl, ?_⟩
      refine ite2 (fun z => ?_) (fun z => ?_)
      · refine ⟨_, rfl, _, _, rfl, rfl, ?_⟩
        have y : intD lo hi (.int i) = decide (i ≤ hi) := by
          show (decide (lo ≤ i) && decide (i ≤ hi)) = _
          rw [z, Bool.true_and]
        rw [y] at qq
        exact qq
      · have y : intD lo hi (.int i) = false := by
          show (decide (lo ≤ i) && decide (i ≤ hi)) = _
          rw [Bool.eq_false_iff.mpr z, Bool.false_and]
        rw [y] at qq
        exact qq
    · have z : intD lo hi d = false := by
        rw [isD_int, isD_bool] at e
        cases d <;> first | rfl | simp at e
      rw [z] at qq
      exact qq
end
end Ev

/-! ## == and != of any data with a text, == of a tuple with () -/
namespace PySem.SeqAt
open AutoSeq1 (wpAny_loadPart')
open MeetsSeq
section
variable {A : Around} {s : Shared}
theorem ev_sub_sd : isSubtype (.type "str") (.type "dict") = pure false := by rw [isSubtype_type]; kernel_rfl
theorem ev_dict_eq_str (l : Addr) (es : Array DictEntry) (n : Nat) (dd : Option Addr) (sl : Array (Option Value)) (b : Str) (u : Tok) :
    Meets (Builtin.«dict.__eq__» ⟨[.ref l, .str b u], []⟩)
      (fun _ R s => s.heap.get? l = some { cls := .type "dict", dict := dd, data := .dict es n, slots := sl } ∧ R (.ok (.ret .notImplemented)) s) :=
  .of_wp fun prog w A R s h => by
    obtain ⟨hp, g, d, tk, os⟩ := s
    obtain ⟨hl, h⟩ := h
    have f1 := ev_sub_sd
    wp_walk using wpAny_loadPart' hl, wpAny_load hl
    exact ⟨_, rfl, h⟩
theorem ev_dict_ne_str (l : Addr) (es : Array DictEntry) (n : Nat) (dd : Option Addr) (sl : Array (Option Value)) (b : Str) (u : Tok) :
    Meets (Builtin.«dict.__ne__» ⟨[.ref l, .str b u], []⟩)
      (fun _ R s => s.heap.get? l = some { cls := .type "dict", dict := dd, data := .dict es n, slots := sl } ∧ R (.ok (.ret .notImplemented)) s) :=
  .of_wp fun prog w A R s h => by
    obtain ⟨hp, g, d, tk, os⟩ := s
    obtain ⟨hl, h⟩ := h
    have f1 := ev_sub_sd
    wp_walk using wpAny_loadPart' hl, wpAny_load hl
    exact ⟨_, rfl, h⟩
theorem ev_str_eq_dict (b : Str) (u : Tok) (l : Addr) (c : Value) (es : Array DictEntry) (n : Nat) (dd : Option Addr) (sl : Array (Option Value)) :
    Meets (Builtin.«str.__eq__» ⟨[.str b u, .ref l], []⟩) (fun _ R s => s.heap.get? l = some { cls := c, dict := dd, data := .dict es n, slots := sl } ∧ R (.ok (.ret .notImplemented)) s) :=
  .of_wp fun prog w A R s h => by
    obtain ⟨hp, g, d, tk, os⟩ := s
    obtain ⟨hl, h⟩ := h
    wp_walk using wpAny_loadPart' hl, wpAny_load hl
    exact ⟨_, rfl, h⟩
theorem ev_str_ne_dict (b : Str) (u : Tok) (l : Addr) (c : Value) (es : Array DictEntry) (n : Nat) (dd : Option Addr) (sl : Array (Option Value)) :
    Meets (Builtin.«str.__ne__» ⟨[.str b u, .ref l], []⟩) (fun _ R s => s.heap.get? l = some { cls := c, dict := dd, data := .dict es n, slots := sl } ∧ R (.ok (.ret .notImplemented)) s) :=
  .of_wp fun prog w A R s h => by
    obtain ⟨hp, g, d, tk, os⟩ := s
    obtain ⟨hl, h⟩ := h
    wp_walk using wpAny_loadPart' hl, wpAny_load hl
    exact ⟨_, rfl, h⟩
theorem ev_rc_dict_str {l : Addr} {o : Obj} {es : Array DictEntry} {n : Nat} (b : Str) (u : Tok) (ho : s.heap.get? l = some o) (hc : o.cls = .type "dict") (hd : o.data = .dict es n) (hu : A.units < cLine) :
    RcAt A s (.ref l) (.str b u) false := fun prog w E Q h => by
  obtain ⟨cls, dd, data, sl⟩ := o
  simp only at hc hd
  subst hc hd
  exact rc_eq_decline_or (k := false) ⟨_, ho, rfl⟩ (typeIs_str s b u) (by decide) ev_sub_sd F.slot_dict_eq F.slot_str_eq_refl
    (fun _ hq => call_meets F.slot_dict_eq ⟨_, ho, rfl⟩ F.entry_dict_eq (F.args_dict_eq_2 _ _) (ev_dict_eq_str l es n dd sl b u) ⟨ho, hq⟩)
    (fun _ hq => call_meets F.slot_str_eq_refl (typeIs_str s b u) F.entry_str_eq (F.args_str_eq_2 _ _) (ev_str_eq_dict b u l (.type "dict") es n dd sl) ⟨ho, hq⟩)
    (fun _ hq => wpAny_of_eq (rfl : isSame (.ref l) (.str b u) = pure false) hq) (.inr hu) h
theorem ev_rn_dict_str {l : Addr} {o : Obj} {es : Array DictEntry} {n : Nat} (b : Str) (u : Tok) (ho : s.heap.get? l = some o) (hc : o.cls = .type "dict") (hd : o.data = .dict es n) (hu : A.units < cLine) :
    RcNeAt A s (.ref l) (.str b u) true := fun prog w E Q h => by
  obtain ⟨cls, dd, data, sl⟩ := o
  simp only at hc hd
  subst hc hd
  exact rc_ne_decline_or (k := false) ⟨_, ho, rfl⟩ (typeIs_str s b u) (by decide) ev_sub_sd F.slot_dict_ne F.slot_str_ne_refl
    (fun _ hq => call_meets F.slot_dict_ne ⟨_, ho, rfl⟩ F.entry_dict_ne (F.args_dict_ne_2 _ _) (ev_dict_ne_str l es n dd sl b u) ⟨ho, hq⟩)
    (fun _ hq => call_meets F.slot_str_ne_refl (typeIs_str s b u) F.entry_str_ne (F.args_str_ne_2 _ _) (ev_str_ne_dict b u l (.type "dict") es n dd sl) ⟨ho, hq⟩)
    (fun _ hq => wpAny_of_eq (rfl : isSame (.ref l) (.str b u) = pure false) hq) (.inr hu) h
end
end PySem.SeqAt
namespace Ev
open PySem PySem.Spec PyProof.Rows L2
def isStrD (t : Str) : PyData → Bool
  | .str x => x == t
  | _ => false
def rEqS (K : PySem.W.Frag) : R2 := fun x y H Q => ∃ (d : PyData) (t : Str), Da K H x d ∧ y = .str t ∧ Q (.bl (isStrD t d)) H
def rNeS (K : PySem.W.Frag) : R2 := fun x y H Q => ∃ (d : PyData) (t : Str), Da K H x d ∧ y = .str t ∧ Q (.bl (!isStrD t d)) H
section
variable {X : Cx}
theorem op_eqS (hu : X.A.units < cLine) : OpR X (compareOp .Eq) (rEqS X.K) := by
  intro pins s σ H x y v u Q I rx ry h
  obtain ⟨d, t, hd, rfl, q⟩ := h
  obtain ⟨tk, rfl⟩ := ry
  have fin : ∀ b, b = isStrD t d → EP X pins σ Q (.bool b) s := fun b e => ⟨.bl b, H, I, rfl, by rw [e]; exact q⟩
  cases hd with
  | non =>
    cases rx
    exact SeqAt.RcAt.none_str t tk _ _ _ _ (fin _ rfl)
  | bl b =>
    cases rx
    exact SeqAt.RcAt.bool_str b t tk _ _ _ _ (fin _ rfl)
  | int i =>
    obtain ⟨tk', rfl⟩ := rx
    exact SeqAt.RcAt.int_str i tk' t tk _ _ _ _ (fin _ rfl)
  | str x =>
    obtain ⟨tk', rfl⟩ := rx
    exact SeqAt.RcAt.str_str x tk' t tk _ _ _ _ (fin _ rfl)
  | lst hs ha =>
    cases rx
    obtain ⟨its, rv, ⟨o, n, ho, hc, _, hd⟩, _⟩ := I.list hs
    exact SeqAt.RcAt.list_str t tk ⟨o, ho, hc, n, hd⟩ hu _ _ _ _ (fin _ rfl)
  | tup hs ha =>
    cases rx
    obtain ⟨its, rv, ⟨o, ho, hc, n, hd⟩, _⟩ := I.tuple hs
    exact SeqAt.RcAt.tuple_str t tk ⟨o, ho, hc, n, hd⟩ hu _ _ _ _ (fin _ rfl)
  | @dic a kvs _ he hk =>
    cases rx
    have ok : ObjOk X.prog X.w H s.heap a (.dK kvs) := I.hok a _ he
    obtain ⟨_, ns, vs, kv, o, es, ep, ho, ex, hd, _⟩ := ok
    exact SeqAt.ev_rc_dict_str t tk ho ex.1 hd hu _ _ _ _ (fin _ rfl)
theorem op_neS (hu : X.A.units < cLine) : OpR X (compareOp .NotEq) (rNeS X.K) := by
  intro pins s σ H x y v u Q I rx ry h
  obtain ⟨d, t, hd, rfl, q⟩ := h
  obtain ⟨tk, rfl⟩ := ry
  have fin : ∀ b, b = (!isStrD t d) → EP X pins σ Q (.bool b) s := fun b e => ⟨.bl b, H, I, rfl, by rw [e]; exact q⟩
  cases hd with
  | non =>
    cases rx
    exact SeqAt.RcNeAt.none_str t tk _ _ _ _ (fin _ rfl)
  | bl b =>
    cases rx
    exact SeqAt.RcNeAt.bool_str b t tk _ _ _ _ (fin _ rfl)
  | int i =>
    obtain ⟨tk', rfl⟩ := rx
    exact SeqAt.RcNeAt.int_str i tk' t tk _ _ _ _ (fin _ rfl)
  | str x =>
    obtain ⟨tk', rfl⟩ := rx
    exact SeqAt.RcNeAt.str_str x tk' t tk _ _ _ _ (fin _ rfl)
  | lst hs ha =>
    cases rx
    obtain ⟨its, rv, ⟨o, n, ho, hc, _, hd⟩, _⟩ := I.list hs
    exact SeqAt.RcNeAt.list_str t tk ⟨o, ho, hc, n, hd⟩ hu _ _ _ _ (fin _ rfl)
  | tup hs ha =>
    cases rx
    obtain ⟨its, rv, ⟨o, ho, hc, n, hd⟩, _⟩ := I.tuple hs
    exact SeqAt.RcNeAt.tuple_str t tk ⟨o, ho, hc, n, hd⟩ hu _ _ _ _ (fin _ rfl)
  | @dic a kvs _ he hk =>
    cases rx
    have ok : ObjOk X.prog X.w H s.heap a (.dK kvs) := I.hok a _ he
    obtain ⟨_, ns, vs, kv, o, es, ep, ho, ex, hd, _⟩ := ok
    exact SeqAt.ev_rn_dict_str t tk ho ex.1 hd hu _ _ _ _ (fin _ rfl)
/-- t == () -/
def rEqT0 (K : PySem.W.Frag) : R2 := fun x y H Q => ∃ (a b : Addr) (xs : List V), x = .ref a ∧ y = .ref b ∧ SqT K H a xs ∧ SqT K H b [] ∧ Q (.bl (decide (xs = []))) H
theorem op_eqT0 (hu : X.A.units < cLine) : OpR X (compareOp .Eq) (rEqT0 X.K) := by
  intro pins s σ H x y v u Q I rx ry h
  obtain ⟨a, b, xs, rfl, rfl, h1, h2, q⟩ := h
  cases rx
  cases ry
  obtain ⟨i1, r1, ⟨o1, ho1, hc1, n1, hd1⟩, _⟩ := I.tuple h1
  obtain ⟨i2, r2, ⟨o2, ho2, hc2, n2, hd2⟩, _⟩ := I.tuple h2
  have e2 : i2 = [] := by
    have z := Paired.length r2
    exact List.length_eq_zero_iff.mp z.symm
  subst e2
  have l1 : i1.length = xs.length := (Paired.length r1).symm
  refine SeqAt.rcIn_tuples (e := fun _ => true) ⟨o1, ho1, hc1, n1, hd1⟩ ⟨o2, ho2, hc2, n2, hd2⟩ hu (fun j j1 j2 => absurd j2 (by simp)) ?_
  have z : ((List.range (min i1.toArray.size ([] : List Value).toArray.size)).all (fun _ => true) && i1.toArray.size == ([] : List Value).toArray.size) = decide (xs = []) := by
    cases xs with
    | nil =>
      have : i1 = [] := List.length_eq_zero_iff.mp l1
      subst this
      rfl
    | cons x r =>
      have : i1.length = r.length + 1 := l1
      simp [this]
  rw [z]
  exact ⟨.bl _, H, I, rfl, q⟩
end
end Ev

/-! ## is_name, room_behind, room_behind_items, is_program -/
namespace Ev
open PySem PySem.Spec PyProof.Rows L2
/-! ## Which values are programs -/
section
variable {X : Cx} {x y : Str} {i : Nat} {p1 p2 q1 q2 : Pos}
end
section
variable {K : PySem.W.Frag} {H0 : Hp} {σ : L2.St} {i : Nat} {x : V} {d : PyData} {T : String} {b c : Bool} {tt uu : TT} {t rest : TS} {D : Ends}
end
def nameD : PyData → Bool
  | .str x => decide (1 ≤ x.length) && (decide (x.length ≤ 8) && x.cps.toList.all fun c => decide (97 ≤ c) && decide (c ≤ 122))
  | _ => false
mutual
/-- its texts are not long -/
def okS : PyData → Bool
  | .str x => decide (x.length ≤ 1000)
  | .list xs | .tuple xs => okSs xs
  | .dict kvs => okSk kvs
  | _ => true
def okSs : List PyData → Bool
  | [] => true
  | x :: xs => okS x && okSs xs
def okSk : List (PyData × PyData) → Bool
  | [] => true
  | (k, v) :: r => okS k && (okS v && okSk r)
end
theorem okSs_mem : ∀ {ds : List PyData}, okSs ds = true → ∀ d ∈ ds, okS d = true
  | [], _, _, h => nomatch h
  | x :: xs, h, d, hd => by
    rw [okSs, Bool.and_eq_true] at h
    rcases List.mem_cons.mp hd with rfl | hd
    · exact h.1
    · exact okSs_mem h.2 d hd
def spName (K : PySem.W.Frag) : Sp := fun vs H Q _ => ∃ (x : V) (d : PyData), vs = [x] ∧ Da K H x d ∧ okS d = true ∧ ∀ H', Same H H' → Q (.bl (nameD d)) H'
section
variable {P : Program} {w : World} {K : PySem.W.Frag} {mg : Str → Option Value} {base : Heap} {f fW : Addr} {fd fdW : FuncData}
/-! ### names -/
abbrev rLeS : R2 := fun x y H Q => ∃ i j, x = .str i ∧ y = .str j ∧ Q (.bl (!decide (j.cps.toList < i.cps.toList))) H
abbrev rLenS : List V → Hp → VK → Prop := fun xs H Q => ∃ z, xs = [.str z] ∧ z.length ≤ sizeLine ∧ Q (.int z.length) H
theorem t_chainI {H0 : Hp} {σ : L2.St} {tb : TE} {a b c : Int} (h : Gives H0 tb (gEq (.int b)) σ) :
    GivesT H0 (tTest (tChain rLeI rLeI (tC (.int a)) tb (tC (.int c)))) (decide (a ≤ b) && decide (b ≤ c)) σ := fun H Q s q =>
  h H _ s fun H1 u s1 e => by
    have e : u = .int b := e
    subst e
    refine ⟨_, _, rfl, rfl, _, rfl, ite2 (fun z => ?_) (fun z => ?_)⟩
    · refine ⟨_, _, rfl, rfl, _, rfl, ?_⟩
      have qq := q H1 s1
      rw [z, Bool.true_and] at qq
      exact qq
    · refine ⟨_, rfl, ?_⟩
      have qq := q H1 s1
      rw [Bool.eq_false_iff.mpr z, Bool.false_and] at qq
      exact qq
theorem g_lenS {H0 : Hp} {σ : L2.St} {i : Nat} {x : Str} (h : σ[i]? = some (some (.str x))) (hx : x.length ≤ 1000) : Gives H0 (tCB rLenS (tCons (tVar i) tNil)) (gEq (.int x.length)) σ := fun H Q s q => by
  have y := sizeLine_eq
  exact ⟨_, h, x, rfl, by omega, q H _ Same.rfl' rfl⟩
theorem lt_one (a b : Nat) : decide (([a] : List Nat) < [b]) = decide (a < b) := by
  rw [decide_eq_decide]
  constructor
  · intro h
    cases h with
    | rel h => exact h
    | cons h => cases h
  · intro h
    exact List.Lex.rel h
theorem g_lcS {H0 : Hp} {σ : L2.St} {te : TE} {x : Str} {ys : List V} {i : Nat} {g : TG} {vs : List Nat} (hi : σ[i]? = some (some (.str x))) (hz : x.cps.size ≤ 1000) (hl : ys.length = x.cps.size)
    (he : ∀ (j c : Nat) (y : V), x.cps[j]? = some c → ys[j]? = some y → ∀ (H : Hp) (R : VK), Same H0 H → R y H →
      g (.str ⟨#[c]⟩) (wipe σ vs) H fun σ2 H2 => wipe σ2 vs = wipe σ vs ∧ te σ2 H2 R) :
    Gives H0 (tLc (iStr (tVar i)) g tYes te vs) (gLst (ys.map gEq)) σ := fun H Q s q => by
  have y := sizeLine_eq
  refine ⟨_, hi, x, rfl, fun D nD => ⟨fun k m H' => m = x.cps.size - k ∧ k ≤ x.cps.size ∧ Same H H' ∧ H' D = some (.lst (ys.take k)), ⟨_, rfl, Nat.zero_le _, same_put nD, upd_same⟩, ?_⟩⟩
  rintro k m H' ⟨rfl, hk, s', eD⟩
  by_cases hlt : k < x.cps.size
  · have hky : k < ys.length := by omega
    have hy := List.getElem?_eq_getElem hky
    refine .inr ⟨hlt, fun H'' => Same H H'' ∧ H'' D = some (.lst (ys.take (k + 1))), fun H'' p' => ⟨x.cps.size - (k + 1), by omega, rfl, hlt, p'.1, p'.2⟩, ?_⟩
    rintro v H'' ⟨rfl, c, hc, rfl⟩
    refine cast ?_ (he k c ys[k] hc hy H'' (fun y H4 => ∃ acc, H4 D = some (.lst acc) ∧ acc.length < sizeLine ∧ Same H (upd H4 D (.lst (acc ++ [y]))) ∧ upd H4 D (.lst (acc ++ [y])) D = some (.lst (ys.take (k + 1)))) (s.trans s') ⟨_, eD, ?_, ?_, ?_⟩)
    · rfl
    · rw [List.length_take]
      omega
    · intro b o e
      rw [upd_ne (ne_of_none e nD)]
      exact s' _ _ e
    · rw [upd_same, List.take_add_one, hy]
      rfl
  · refine .inl ⟨by show x.cps.size ≤ k; omega, ?_⟩
    have hk' : k = ys.length := by omega
    rw [hk', List.take_length] at eD
    exact q H' _ s' ⟨D, ys, rfl, eD, allEq⟩
theorem scName : FnScope ["value", "letter"] ["value"] (defScope (topS 21)) := ⟨rfl, rfl, rfl, by decide +kernel, rfl, by decide +kernel, by decide +kernel⟩
theorem ok_name (F : Fun K "is_name" "is_name" (topS 21) f fd) (mI : mg "isinstance" = none) (ms : mg "str" = none) (ml : mg "len" = none) (ma : mg "all" = none) {tML : Tok} (gML : mg "MOST_LETTERS" = some (.int 8 tML)) :
    FnOk P w K mg base CX0 1 f fd ["value"] (spName K) := by
  refine F.ok scName (fun vs H Q E h => ?_) (fun cdv A outer s H vs Q E hr h => ?_)
  · obtain ⟨x, d, rfl, _⟩ := h
    rfl
  · obtain ⟨x, d, rfl, hd, ho, q⟩ := h
    refine ⟨_, pss_cons (ps_if (PW.pt (pw_or (pt_not (pt_val (pe_isT (.inr (.inr (.inr rfl))) mI (fun _ => pv 0) (fun _ => ty_of rfl ms (by decide +kernel)))))
        (pw_or1 (pt_not (pt_chain op_le op_le pe_int (pe_callB call_len_str (by rfl) ml PySem.boot_len (pa_cons (pv 0) pa_nil)) (pe_glob (v := .int 8) rfl gML ⟨_, rfl⟩)))))) (pss_one (ps_ret pe_bl)) pss_nil)
      (pss_one (ps_ret (pe_callB (cr_all rfl) (by rfl) ma (by decide +kernel) (pa_cons (pe_lc (own := [("letter", 1)]) (g := gName 1) (tt := tYes) (te := tChain rLeS rLeS (tC (.str "a")) (tVar 1) (tC (.str "z"))) rfl scName.nd (pi_str (pv 0))
        (blkOk_by (N := ["value", "letter"]) (sc := defScope (topS 21)) (by decide +kernel)) (fun _ _ _ _ _ => pg_name (i := 1) scName.nd rfl (Or.inl rfl)) (fun _ _ _ _ _ => pts_nil) (fun _ _ _ _ _ => pe_chain op_le_str op_le_str pe_str (pv 1) pe_str)) pa_nil)))), ?_⟩
    by_cases hs : ∃ z, d = .str z
    · obtain ⟨z, rfl⟩ := hs
      have ex : x = .str z := by
        cases hd
        rfl
      subst ex
      have hz : z.length ≤ 1000 := by
        rw [okS] at ho
        exact of_decide_eq_true ho
      refine s_ifB (t_or (t_not (t_isT rfl hd)) fun _ => t_not (t_chainI (g_lenS rfl hz))) (fun e H' s' => ?_) (fun e H' s' => ?_)
      · rw [isD_str] at e
        have e' : (decide ((1 : Int) ≤ z.length) && decide ((z.length : Int) ≤ 8)) = false := by
          revert e
          cases (decide ((1 : Int) ≤ z.length) && decide ((z.length : Int) ≤ 8)) <;> simp
        have w0 : nameD (.str z) = false := by
          show (decide (1 ≤ z.length) && (decide (z.length ≤ 8) && _)) = false
          rw [← Bool.and_assoc]
          have e2 : (decide (1 ≤ z.length) && decide (z.length ≤ 8)) = false := by
            rw [Bool.and_eq_false_iff] at e' ⊢
            rcases e' with h | h
            · left
              have := of_decide_eq_false h
              exact decide_eq_false (by omega)
            · right
              have := of_decide_eq_false h
              exact decide_eq_false (by omega)
          rw [e2, Bool.false_and]
        have qq := q H' s'
        rw [w0] at qq
        exact qq
      · rw [isD_str] at e
        have e' : (decide ((1 : Int) ≤ z.length) && decide ((z.length : Int) ≤ 8)) = true := by
          revert e
          cases (decide ((1 : Int) ≤ z.length) && decide ((z.length : Int) ≤ 8)) <;> simp
        rw [Bool.and_eq_true] at e'
        have l1 := of_decide_eq_true e'.1
        have l2 := of_decide_eq_true e'.2
        let bs : List Bool := z.cps.toList.map fun c => decide (97 ≤ c) && decide (c ≤ 122)
        have hlc : Gives H' (tLc (iStr (tVar 0)) (gName 1) tYes (tChain rLeS rLeS (tC (.str "a")) (tVar 1) (tC (.str "z"))) [1]) (gLst ((bs.map V.bl).map gEq)) [some (.str z), none] := by
          refine g_lcS rfl hz (by simp [bs]) fun j c y hc hy HH R sH hR => ⟨rfl, ?_⟩
          have ey : y = .bl (decide (97 ≤ c) && decide (c ≤ 122)) := by
            rw [List.getElem?_map, List.getElem?_map, Array.getElem?_toList, hc] at hy
            exact (Option.some.inj hy).symm
          have b1 : (!decide (([c] : List Nat) < [97])) = decide (97 ≤ c) := by
            rw [lt_one, ← decide_not, decide_eq_decide]
            omega
          have b2 : (!decide (([122] : List Nat) < [c])) = decide (c ≤ 122) := by
            rw [lt_one, ← decide_not, decide_eq_decide]
            omega
          refine ⟨_, rfl, _, _, rfl, rfl, _, rfl, ?_⟩
          show if (!decide (([c] : List Nat) < [97])) = true then _ else _
          rw [b1]
          refine ite2 (fun h => ?_) (fun h => ?_)
          · refine ⟨_, _, rfl, rfl, ?_⟩
            show R (.bl (!decide (([122] : List Nat) < [c]))) HH
            rw [b2]
            rw [ey, h, Bool.true_and] at hR
            exact hR
          · rw [ey, Bool.eq_false_iff.mpr h, Bool.false_and] at hR
            exact hR
        have hlc : Gives H' (tLc (iStr (tVar 0)) (gName 1) tYes (tChain rLeS rLeS (tC (.str "a")) (tVar 1) (tC (.str "z"))) [1]) (gLst (bs.map fun b => gEq (.bl b))) [some (.str z), none] := by
          rw [List.map_map] at hlc
          exact hlc
        refine s_ret (g_all (K := K) hlc) fun H2 u s2 g2 => ?_
        have eu : u = .bl (bs.all id) := g2
        subst eu
        have w1 : nameD (.str z) = bs.all id := by
          show (decide (1 ≤ z.length) && (decide (z.length ≤ 8) && _)) = _
          rw [decide_eq_true (show 1 ≤ z.length by omega), decide_eq_true (show z.length ≤ 8 by omega), Bool.true_and, Bool.true_and, List.all_map]
          rfl
        have qq := q H2 (s'.trans s2)
        rw [w1] at qq
        exact qq
    · have w0 : nameD d = false := by
        cases d <;> first | rfl | exact absurd ⟨_, rfl⟩ hs
      have w1 : isD "str" d = false := by
        rw [isD_str]
        cases d <;> first | rfl | exact absurd ⟨_, rfl⟩ hs
      have t1 := t_not (t_isT (T := "str") (σ := [some x, none]) (i := 0) rfl hd)
      rw [w1] at t1
      refine s_ifB (b := true) (t_or (c := true) t1 fun z => (nomatch z)) (fun e H' s' => ?_) (fun e => nomatch e)
      have qq := q H' s'
      rw [w0] at qq
      exact qq
end
/-! ## room_behind, room_behind_items, is_program -/
section
variable {K : PySem.W.Frag} {H0 : Hp} {σ : L2.St} {te tf : TE} {i : Nat} {x : V} {d : PyData} {b c : Bool}
theorem g_lenT {a : Addr} {ds : List PyData} (h : σ[i]? = some (some (.ref a))) (hd : Da K H0 (.ref a) (.tuple ds)) : Gives H0 (tCB (rLenK K) (tCons (tVar i) tNil)) (gEq (.int (ds.length : Nat))) σ := fun H Q s q => by
  cases hd.mono s with
  | @tup _ xs _ hs ha =>
    have hl : xs.length = ds.length := daAll_len ha
    refine ⟨_, h, a, xs, rfl, .inr hs, ?_⟩
    rw [hl]
    exact q H _ Same.rfl' rfl
theorem t_eqS {t : Str} (h : σ[i]? = some (some x)) (hd : Da K H0 x d) : GivesT H0 (tTest (tOp (rEqS K) (tVar i) (tC (.str t)))) (isStrD t d) σ := fun H Q s q =>
  ⟨_, h, d, t, hd.mono s, rfl, _, rfl, q H Same.rfl'⟩
theorem t_neSt {t : Str} (h : σ[i]? = some (some x)) (hd : Da K H0 x d) : GivesT H0 (tTest (tOp (rNeS K) (tVar i) (tC (.str t)))) (!isStrD t d) σ := fun H Q s q =>
  ⟨_, h, d, t, hd.mono s, rfl, _, rfl, q H Same.rfl'⟩
theorem g_in {lo hi : Int} (h : σ[i]? = some (some x)) (hd : Da K H0 x d) : Gives H0 (tCall (spIn K) [] E0 (tCons (tVar i) (tCons (tC (.int lo)) (tCons (tC (.int hi)) tNil)))) (gEq (.bl (intD lo hi d))) σ := fun H Q s q =>
  ⟨_, h, x, d, lo, hi, rfl, hd.mono s, fun H' s' => q H' _ s' rfl⟩
theorem g_name (h : σ[i]? = some (some x)) (hd : Da K H0 x d) (ho : okS d = true) : Gives H0 (tCall (spName K) [] E0 (tCons (tVar i) tNil)) (gEq (.bl (nameD d))) σ := fun H Q s q =>
  ⟨_, h, x, d, rfl, hd.mono s, ho, fun H' s' => q H' _ s' rfl⟩
end
/-! ### the mirror -/
def foldR (f : PyData → Int → Option Int) : List PyData → Int → Option Int
  | [], r => some r
  | d :: ds, r => (f d r).bind (foldR f ds)
def itemR (rec : PyData → Int → Option Int) (dep : Nat) (d : PyData) (room : Int) : Option Int :=
  if room = 0 then none else match d with
  | .tuple [k, a, b] =>
    if isStrD "line" k = true then (if (nameD a && intD 1 1000000000000 b) = true then some (room - 1) else none)
    else if (!isStrD "loop" k || (decide (dep = 0) || !intD 1 1000000000000000000 a)) = true then none else rec b (room - 1)
  | _ => none
def itemsW (rec : PyData → Int → Option Int) (dep : Nat) (d : PyData) (room : Int) : Option Int := match d with
  | .tuple ds => if (decide ((1 : Int) ≤ (ds.length : Nat)) && decide (((ds.length : Nat) : Int) ≤ 20)) = true then foldR (itemR rec dep) ds room else none
  | _ => none
def itemsR : Nat → PyData → Int → Option Int
  | 0 => itemsW (fun _ _ => none) 0
  | n + 1 => itemsW (itemsR n) (n + 1)
def recR : Nat → PyData → Int → Option Int
  | 0 => fun _ _ => none
  | n + 1 => itemsR n
theorem itemsR_eq (dep : Nat) : itemsR dep = itemsW (recR dep) dep := by
  cases dep <;> rfl
def optV : Option Int → V
  | none => .non
  | some r => .int r
theorem itemR_bound {rec : PyData → Int → Option Int} {dep : Nat} (hrec : ∀ d r r', 0 ≤ r → rec d r = some r' → 0 ≤ r' ∧ r' ≤ r) {d : PyData} {r r' : Int} (h0 : 0 ≤ r) (h : itemR rec dep d r = some r') : 0 ≤ r' ∧ r' ≤ r := by
  unfold itemR at h
  by_cases hr : r = 0
  · rw [if_pos hr] at h
    cases h
  · rw [if_neg hr] at h
    split at h
    · split at h
      · split at h
        · cases h
          omega
        · cases h
      · split at h
        · cases h
        · have z := hrec _ _ _ (by omega) h
          omega
    · cases h
theorem foldR_bound {f : PyData → Int → Option Int} (hf : ∀ d r r', 0 ≤ r → f d r = some r' → 0 ≤ r' ∧ r' ≤ r) : ∀ {ds : List PyData} {r r' : Int}, 0 ≤ r → foldR f ds r = some r' → 0 ≤ r' ∧ r' ≤ r
  | [], r, r', h0, h => by
    cases h
    omega
  | d :: ds, r, r', h0, h => by
    unfold foldR at h
    cases e : f d r with
    | none =>
      rw [e] at h
      cases h
    | some r1 =>
      rw [e] at h
      have z1 := hf d r r1 h0 e
      have z2 := foldR_bound hf z1.1 h
      omega
theorem itemsR_bound : ∀ (dep : Nat) (d : PyData) (r r' : Int), 0 ≤ r → itemsR dep d r = some r' → 0 ≤ r' ∧ r' ≤ r := by
  have key : ∀ (rec : PyData → Int → Option Int) (dep : Nat), (∀ d r r', 0 ≤ r → rec d r = some r' → 0 ≤ r' ∧ r' ≤ r) → ∀ d r r', 0 ≤ r → itemsW rec dep d r = some r' → 0 ≤ r' ∧ r' ≤ r := by
    intro rec dep hrec d r r' h0 h
    unfold itemsW at h
    split at h
    · split at h
      · exact foldR_bound (fun d r r' a b => itemR_bound hrec a b) h0 h
      · cases h
    · cases h
  intro dep
  induction dep with
  | zero => exact key _ 0 fun d r r' _ h => (nomatch h)
  | succ n ih => exact key _ (n + 1) ih
def spRB (K : PySem.W.Frag) (dep : Nat) : Sp := fun vs H Q _ => ∃ (x : V) (d : PyData) (room : Int), vs = [x, .int (dep : Nat), .int room] ∧ Da K H x d ∧ okS d = true ∧ 0 ≤ room ∧ room ≤ 1000 ∧
  ∀ H', Same H H' → Q (optV (itemR (recR dep) dep d room)) H'
def spRI (K : PySem.W.Frag) (dep : Nat) : Sp := fun vs H Q _ => ∃ (x : V) (d : PyData) (room : Int), vs = [x, .int (dep : Nat), .int room] ∧ Da K H x d ∧ okS d = true ∧ 0 ≤ room ∧ room ≤ 1000 ∧
  ∀ H', Same H H' → Q (optV (itemsR dep d room)) H'
theorem scRB : FnScope ["item", "depth", "room", "kind", "first", "second", "is_line"] ["item", "depth", "room"] (defScope (topS 20)) := ⟨rfl, rfl, rfl, by decide +kernel, rfl, by decide +kernel, by decide +kernel⟩
theorem scRI : FnScope ["items", "depth", "room", "item"] ["items", "depth", "room"] (defScope (topS 19)) := ⟨rfl, rfl, rfl, by decide +kernel, rfl, by decide +kernel, by decide +kernel⟩
section
variable {P : Program} {w : World} {K : PySem.W.Frag} {mg : Str → Option Value} {base : Heap} {f fN fW fI : Addr} {fd fdN fdW fdI : FuncData}
theorem rb_step {k dep : Nat} {spR : Sp} {tT tR : Tok} (F : Fun K "room_behind" "room_behind" (topS 20) f fd) (GN : FnOk P w K mg base CX0 1 fN fdN ["value"] (spName K)) (bN : Binds K fdN ["value"] []) (gN : mg "is_name" = some (.ref fN)) (kN : PySem.W.keepIn K (.ref fN) = true)
    (GW : FnOk P w K mg base CX0 2 fW fdW ["value", "least", "most"] (spIn K)) (bW : Binds K fdW ["value", "least", "most"] []) (gW : mg "is_integer_within" = some (.ref fW)) (kW : PySem.W.keepIn K (.ref fW) = true)
    (GI : FnOk P w K mg base CX0 k fI fdI ["items", "depth", "room"] spR) (bI : Binds K fdI ["items", "depth", "room"] []) (gI : mg "room_behind_items" = some (.ref fI)) (kI : PySem.W.keepIn K (.ref fI) = true)
    (hk : 2 ≤ k) (hR : dep = 0 ∨ ∃ d, dep = d + 1 ∧ spR = spRI K d) (mI : mg "isinstance" = none) (mt : mg "tuple" = none) (ml : mg "len" = none) (gT : mg "MOST_TICKS" = some (.int 1000000000000 tT)) (gR : mg "MOST_ROUNDS" = some (.int 1000000000000000000 tR)) :
    FnOk P w K mg base CX0 (k + 1) f fd ["item", "depth", "room"] (spRB K dep) := by
  refine F.ok scRB (fun vs H Q E h => ?_) (fun cdv A outer s H vs Q E hr h => ?_)
  · obtain ⟨x, d, room, rfl, _⟩ := h
    rfl
  · obtain ⟨x, d, room, rfl, hd, ho, r0, r1, q⟩ := h
    have hr1 : Room 1 _ := hr.mono (Nat.le_trans (by decide) hk)
    have hr2 : Room 2 _ := hr.mono hk
    have hu : (A.deeper (envOfC "room_behind" (defScope (topS 20)) s.heap.objs.size f cdv)).units < cLine := hr.units0
    refine ⟨_, (pss_cons (ps_if (PW.pt (pw_or (pt_cmpR op_eq (pv 2) pe_int (nomark _)) (pw_or (pt_not (pt_val (pe_isT (.inr (.inr (.inl rfl))) mI (fun _ => pv 0) (fun _ => ty_of rfl mt (by decide +kernel))))) (pw_or1 (pt_cmpR op_ne (pe_callB call_len_seq (by rfl) ml PySem.boot_len (pa_cons (pv 0) pa_nil)) pe_int (nomark _)))))) (pss_one (ps_ret pe_non)) pss_nil) (pss_cons (ps_asg (pv 0) (pg_tup rfl (pgs_cons (pg_name (i := 3) scRB.nd rfl (.inl rfl)) (pgs_cons (pg_name (i := 4) scRB.nd rfl (.inl rfl)) (pgs_cons (pg_name (i := 5) scRB.nd rfl (.inl rfl)) pgs_nil))))) (pss_cons (ps_if (pt_cmpR (op_eqS hu) (pv 3) pe_str (nomark _)) (pss_cons (ps_set (i := 6) scRB.nd rfl (.inl rfl) (pe_and (pe_call GN hr1 (by rfl) gN kN bN .nil pass0 (pa_cons (pv 4) pa_nil)) (pe_one (pe_call GW hr2 (by rfl) gW kW bW .nil pass0 (pa_cons (pv 5) (pa_cons pe_int (pa_cons (pe_glob (v := .int 1000000000000) rfl gT ⟨_, rfl⟩) pa_nil))))))) (pss_one (ps_ret (pe_ifExp (pt_val (pv 6)) (pe_op op_sub (pv 2) pe_int) pe_non)))) pss_nil) (pss_cons (ps_if (PW.pt (pw_or (pt_cmpR (op_neS hu) (pv 3) pe_str (nomark _)) (pw_or (pt_cmpR op_eq (pv 1) pe_int (nomark _)) (pw_or1 (pt_not (pt_val (pe_call GW hr2 (by rfl) gW kW bW .nil pass0 (pa_cons (pv 4) (pa_cons pe_int (pa_cons (pe_glob (v := .int 1000000000000000000) rfl gR ⟨_, rfl⟩) pa_nil)))))))))) (pss_one (ps_ret pe_non)) pss_nil) (pss_one (ps_ret (pe_call GI hr (by rfl) gI kI bI .nil pass0 (pa_cons (pv 5) (pa_cons (pe_op op_sub (pv 1) pe_int) (pa_cons (pe_op op_sub (pv 2) pe_int) pa_nil)))))))))), ?_⟩
    by_cases ht : ∃ ds, d = .tuple ds
    · obtain ⟨ds, rfl⟩ := ht
      obtain ⟨a, rfl⟩ : ∃ a, x = .ref a := by
        cases hd
        exact ⟨_, rfl⟩
      have e1 : isD "tuple" (.tuple ds) = true := isD_tuple _
      refine s_ifB (t_or (t_eqI rfl) fun _ => t_or (t_not (t_isT rfl hd)) fun _ => t_neI (g_lenT rfl hd)) (fun e H' s' => ?_) (fun e H' s' => ?_)
      · rw [e1] at e
        have w0 : itemR (recR dep) dep (.tuple ds) room = none := by
          unfold itemR
          by_cases hz : room = 0
          · rw [if_pos hz]
          · rw [if_neg hz]
            have h3 : ds.length ≠ 3 := fun z => by
              rw [decide_eq_false hz, decide_eq_true (show ((ds.length : Nat) : Int) = 3 by omega)] at e
              cases e
            match ds, h3 with
            | [], _ => rfl
            | [_], _ => rfl
            | [_, _], _ => rfl
            | [_, _, _], h => exact absurd rfl h
            | _ :: _ :: _ :: _ :: _, _ => rfl
        have qq := q H' s'
        rw [w0] at qq
        exact qq
      · rw [e1] at e
        have hz : room ≠ 0 := fun z => by
          rw [decide_eq_true z] at e
          cases e
        have h3 : ds.length = 3 := by
          rw [decide_eq_false hz] at e
          by_cases z : ((ds.length : Nat) : Int) = 3
          · omega
          · rw [decide_eq_false z] at e
            cases e
        match ds, h3, hd, ho, q with
        | [kd, ad, bd], _, hd, ho, q =>
        have hd' := hd.mono s'
        cases hd' with
        | @tup _ xs _ hs ha =>
        cases ha with
        | @cons v1 _ _ _ d1 ha =>
        cases ha with
        | @cons v2 _ _ _ d2 ha =>
        cases ha with
        | @cons v3 _ _ _ d3 ha =>
        cases ha
        have o2 : okS ad = true := okSs_mem (ds := [kd, ad, bd]) (by rw [okS] at ho; exact ho) ad (by simp)
        have o3 : okS bd = true := okSs_mem (ds := [kd, ad, bd]) (by rw [okS] at ho; exact ho) bd (by simp)
        refine ⟨_, rfl, a, [v1, v2, v3], rfl, hs, rfl, v1, [v2, v3], rfl, v2, [v3], rfl, v3, [], rfl, rfl, ?_⟩
        have w0 : itemR (recR dep) dep (.tuple [kd, ad, bd]) room = (if isStrD "line" kd = true then (if (nameD ad && intD 1 1000000000000 bd) = true then some (room - 1) else none)
            else if (!isStrD "loop" kd || (decide (dep = 0) || !intD 1 1000000000000000000 ad)) = true then none else recR dep bd (room - 1)) := by
          unfold itemR
          rw [if_neg hz]
        rw [w0] at q
        dsimp only
        refine s_ifB (t_eqS (K := K) (x := v1) (d := kd) rfl d1) (fun eL H2 s2 => ?_) (fun eL H2 s2 => ?_)
        · rw [if_pos eL] at q
          refine s_set (i := 6) (g_and (g_name (K := K) (x := v2) (d := ad) rfl (d2.mono s2) o2) fun _ => g_in (K := K) (x := v3) (d := bd) rfl (d3.mono s2)) fun H3 u s3 gu => ?_
          have eu : u = .bl (nameD ad && intD 1 1000000000000 bd) := gu
          subst eu
          have qq := q H3 ((s'.trans s2).trans s3)
          refine ⟨_, rfl, _, rfl, ?_⟩
          by_cases hb : (nameD ad && intD 1 1000000000000 bd) = true
          · rw [if_pos hb] at qq ⊢
            exact ⟨_, rfl, _, _, rfl, rfl, qq⟩
          · rw [if_neg hb] at qq ⊢
            exact qq
        · rw [eL, if_neg Bool.false_ne_true] at q
          refine s_ifB (t_or (t_neSt (K := K) (x := v1) (d := kd) rfl (d1.mono s2)) fun _ => t_or (t_eqI (r := (dep : Nat)) (k := 0) rfl) fun _ => t_not (t_valB (g_in (K := K) (x := v2) (d := ad) rfl (d2.mono s2)))) (fun e5 H3 s3 => ?_) (fun e5 H3 s3 => ?_)
          · have qq := q H3 ((s'.trans s2).trans s3)
            have e6 : (!isStrD "loop" kd || (decide (dep = 0) || !intD 1 1000000000000000000 ad)) = true := by
              rw [← e5]
              congr 2
              rw [decide_eq_decide]
              omega
            rw [if_pos e6] at qq
            exact qq
          · have e6 : (!isStrD "loop" kd || (decide (dep = 0) || !intD 1 1000000000000000000 ad)) = false := by
              rw [← e5]
              congr 2
              rw [decide_eq_decide]
              omega
            rw [e6, if_neg Bool.false_ne_true] at q
            have hdep : dep ≠ 0 := fun z => by
              rw [z] at e6
              simp at e6
            obtain ⟨dd, rfl, rfl⟩ : ∃ dd, dep = dd + 1 ∧ spR = spRI K dd := by
              rcases hR with h | h
              · exact absurd h hdep
              · exact h
            refine ⟨_, rfl, _, rfl, _, _, rfl, rfl, _, rfl, _, _, rfl, rfl, v3, bd, room - 1, ?_, d3.mono (s2.trans s3), o3, by omega, by omega, fun H4 s4 => q H4 (((s'.trans s2).trans s3).trans s4)⟩
            show [v3, V.int (((dd + 1 : Nat) : Int) - 1), V.int (room - 1)] = [v3, V.int (dd : Nat), V.int (room - 1)]
            have z : (((dd + 1 : Nat) : Int) - 1) = (dd : Nat) := by omega
            rw [z]
    · have w0 : itemR (recR dep) dep d room = none := by
        unfold itemR
        by_cases hz : room = 0
        · rw [if_pos hz]
        · rw [if_neg hz]
          cases d <;> first | rfl | exact absurd ⟨_, rfl⟩ ht
      have w1 : isD "tuple" d = false := by
        rw [isD_tuple]
        cases d <;> first | rfl | exact absurd ⟨_, rfl⟩ ht
      have t1 := t_not (t_isT (T := "tuple") (σ := [some x, some (.int (dep : Nat)), some (.int room), none, none, none, none]) (i := 0) rfl hd)
      rw [w1] at t1
      refine s_ifB (b := decide (room = 0) || (true || true)) (t_or (t_eqI rfl) fun _ => t_or (c := true) t1 fun z => (nomatch z)) (fun e H' s' => ?_) (fun e => ?_)
      · have qq := q H' s'
        rw [w0] at qq
        exact qq
      · rw [Bool.true_or, Bool.or_true] at e
        cases e
theorem fold_at {f : PyData → Int → Option Int} {ds : List PyData} {i : Nat} {d : PyData} {r : Int} (h : ds[i]? = some d) : foldR f (ds.drop i) r = (f d r).bind (foldR f (ds.drop (i + 1))) := by
  obtain ⟨hi, e⟩ := List.getElem?_eq_some_iff.mp h
  rw [List.drop_eq_getElem_cons hi, e]
  rfl
theorem daAll_get {H : Hp} : ∀ {vs : List V} {ds : List PyData} {i : Nat} {v : V}, DaAll K H vs ds → vs[i]? = some v → ∃ d, ds[i]? = some d ∧ Da K H v d
  | _, _, _, _, .nil, h => by simp at h
  | _, _, 0, _, .cons a _, h => by
    simp at h
    subst h
    exact ⟨_, rfl, a⟩
  | _, _, i + 1, _, .cons _ t, h => daAll_get (i := i) t (by simpa using h)
theorem recR_bound (dep : Nat) : ∀ d r r', 0 ≤ r → recR dep d r = some r' → 0 ≤ r' ∧ r' ≤ r := by
  cases dep with
  | zero => exact fun d r r' _ h => (nomatch h)
  | succ n => exact itemsR_bound n
theorem ri_step {k dep : Nat} {tB : Tok} {fB : Addr} {fdB : FuncData} (F : Fun K "room_behind_items" "room_behind_items" (topS 19) f fd) (GB : FnOk P w K mg base CX0 k fB fdB ["item", "depth", "room"] (spRB K dep)) (bB : Binds K fdB ["item", "depth", "room"] []) (gB : mg "room_behind" = some (.ref fB))
    (kB : PySem.W.keepIn K (.ref fB) = true) (mI : mg "isinstance" = none) (mt : mg "tuple" = none) (ml : mg "len" = none) (gE : mg "MOST_BESIDE" = some (.int 20 tB)) :
    FnOk P w K mg base CX0 (k + 1) f fd ["items", "depth", "room"] (spRI K dep) := by
  refine F.ok scRI (fun vs H Q E h => ?_) (fun cdv A outer s H vs Q E hr h => ?_)
  · obtain ⟨x, d, room, rfl, _⟩ := h
    rfl
  · obtain ⟨x, d, room, rfl, hd, ho, r0, r1, q⟩ := h
    refine ⟨_, (pss_cons (ps_if (PW.pt (pw_or (pt_not (pt_val (pe_isT (.inr (.inr (.inl rfl))) mI (fun _ => pv 0) (fun _ => ty_of rfl mt (by decide +kernel))))) (pw_or1 (pt_not (pt_chain op_le op_le pe_int (pe_callB call_len_seq (by rfl) ml PySem.boot_len (pa_cons (pv 0) pa_nil)) (pe_glob (v := .int 20) rfl gE ⟨_, rfl⟩)))))) (pss_one (ps_ret pe_non)) pss_nil) (pss_cons (ps_for PassesOwn.never rfl (pi_tup (pv 0)) (pg_name (i := 3) scRI.nd rfl (.inl rfl)) (pss_cons (ps_set (i := 2) scRI.nd rfl (.inl rfl) (pe_call GB hr (by rfl) gB kB bB .nil pass0 (pa_cons (pv 3) (pa_cons (pv 1) (pa_cons (pv 2) pa_nil))))) (pss_one (ps_if (pt_cmpR op_isN (pv 2) pe_non (nomark _)) (pss_one (ps_ret pe_non)) pss_nil)))) (pss_one (ps_ret (pv 2))))), ?_⟩
    rw [itemsR_eq] at q
    by_cases ht : ∃ ds, d = .tuple ds
    · obtain ⟨ds, rfl⟩ := ht
      obtain ⟨a, rfl⟩ : ∃ a, x = .ref a := by
        cases hd
        exact ⟨_, rfl⟩
      have e1 : isD "tuple" (.tuple ds) = true := isD_tuple _
      refine s_ifB (t_or (t_not (t_isT rfl hd)) fun _ => t_not (t_chainI (g_lenT rfl hd))) (fun e H' s' => ?_) (fun e H' s' => ?_)
      · rw [e1, Bool.not_true, Bool.false_or, Bool.not_eq_true'] at e
        have w0 : itemsW (recR dep) dep (.tuple ds) room = none := by
          unfold itemsW
          dsimp only
          rw [e, if_neg Bool.false_ne_true]
        have qq := q H' s'
        rw [w0] at qq
        exact qq
      · rw [e1, Bool.not_true, Bool.false_or, Bool.not_eq_false'] at e
        have w0 : itemsW (recR dep) dep (.tuple ds) room = foldR (itemR (recR dep) dep) ds room := by
          unfold itemsW
          dsimp only
          rw [if_pos e]
        rw [w0] at q
        have hd' := hd.mono s'
        cases hd' with
        | @tup _ xs _ hs ha =>
        refine ⟨_, rfl, a, rfl, ⟨_, hs⟩, for_tup (K := K) (a := a) (xs := xs) (fun i σ' H'' => ∃ (r : Int) (y3 : Option V), σ' = [some (.ref a), some (.int (dep : Nat)), some (.int r), y3] ∧ 0 ≤ r ∧ r ≤ 1000 ∧
          foldR (itemR (recR dep) dep) ds room = foldR (itemR (recR dep) dep) (ds.drop i) r ∧ Same H' H'') ⟨room, none, rfl, r0, r1, rfl, Same.rfl'⟩ (fun i σ' H'' _ ⟨_, _, _, _, _, _, sA⟩ => seqT_mono sA hs) ?_ ?_⟩
        · rintro i y σ' HA hi ⟨r, y3, rfl, q0, q1, qf, sA⟩
          obtain ⟨di, hdi, hDi⟩ := daAll_get ha hi
          have hoi : okS di = true := okSs_mem (by rw [okS] at ho; exact ho) di (List.mem_of_getElem? hdi)
          refine ⟨_, rfl, _, rfl, _, rfl, y, di, r, rfl, hDi.mono sA, hoi, q0, q1, fun HB sB => ?_⟩
          have st := fold_at (f := itemR (recR dep) dep) (r := r) hdi
          rw [st] at qf
          cases er : itemR (recR dep) dep di r with
          | none =>
            rw [er] at qf
            refine ⟨_, rfl, rfl, _, rfl, ?_⟩
            refine iteT ?_
            have qq := q HB ((s'.trans sA).trans sB)
            rw [qf] at qq
            exact qq
          | some r' =>
            rw [er] at qf
            have hb := itemR_bound (recR_bound dep) q0 er
            refine ⟨_, rfl, rfl, _, rfl, ?_⟩
            refine iteF ?_
            exact ⟨r', _, rfl, hb.1, by omega, qf, sA.trans sB⟩
        · rintro σ' HA ⟨r, y3, rfl, q0, q1, qf, sA⟩
          have hl := daAll_len ha
          rw [hl, List.drop_length] at qf
          have qq := q HA (s'.trans sA)
          rw [qf] at qq
          exact ⟨_, rfl, qq⟩
    · have w0 : itemsW (recR dep) dep d room = none := by
        unfold itemsW
        cases d <;> first | rfl | exact absurd ⟨_, rfl⟩ ht
      have w1 : isD "tuple" d = false := by
        rw [isD_tuple]
        cases d <;> first | rfl | exact absurd ⟨_, rfl⟩ ht
      have t1 := t_not (t_isT (T := "tuple") (σ := [some x, some (.int (dep : Nat)), some (.int room), none]) (i := 0) rfl hd)
      rw [w1] at t1
      refine s_ifB (b := true || true) (t_or (c := true) t1 fun z => (nomatch z)) (fun e H' s' => ?_) (fun e => nomatch e)
      have qq := q H' s'
      rw [w0] at qq
      exact qq
/-- both, at every depth -/
theorem ok_ri {tT tR tB : Tok} {fB : Addr} {fdB : FuncData} (FI : Fun K "room_behind_items" "room_behind_items" (topS 19) fI fdI) (FB : Fun K "room_behind" "room_behind" (topS 20) fB fdB)
    (GN : FnOk P w K mg base CX0 1 fN fdN ["value"] (spName K)) (bN : Binds K fdN ["value"] []) (gN : mg "is_name" = some (.ref fN)) (kN : PySem.W.keepIn K (.ref fN) = true)
    (GW : FnOk P w K mg base CX0 2 fW fdW ["value", "least", "most"] (spIn K)) (bW : Binds K fdW ["value", "least", "most"] []) (gW : mg "is_integer_within" = some (.ref fW)) (kW : PySem.W.keepIn K (.ref fW) = true)
    (bI : Binds K fdI ["items", "depth", "room"] []) (gI : mg "room_behind_items" = some (.ref fI)) (bB : Binds K fdB ["item", "depth", "room"] []) (gB : mg "room_behind" = some (.ref fB))
    (mI : mg "isinstance" = none) (mt : mg "tuple" = none) (ml : mg "len" = none) (gT : mg "MOST_TICKS" = some (.int 1000000000000 tT)) (gR : mg "MOST_ROUNDS" = some (.int 1000000000000000000 tR)) (gE : mg "MOST_BESIDE" = some (.int 20 tB)) :
    ∀ dep : Nat, FnOk P w K mg base CX0 (2 * dep + 4) fI fdI ["items", "depth", "room"] (spRI K dep)
  | 0 => ri_step FI (rb_step (k := 2) FB GN bN gN kN GW bW gW kW no_fn bI gI FI.kp (Nat.le_refl 2) (.inl rfl) mI mt ml gT gR) bB gB FB.kp mI mt ml gE
  | n + 1 => ri_step FI (rb_step (k := 2 * n + 4) FB GN bN gN kN GW bW gW kW (ok_ri FI FB GN bN gN kN GW bW gW kW bI gI bB gB mI mt ml gT gR gE n) bI gI FI.kp (by omega) (.inr ⟨n, rfl, rfl⟩) mI mt ml gT gR) bB gB FB.kp mI mt ml gE
def spProg (K : PySem.W.Frag) : Sp := fun vs H Q _ => ∃ (x : V) (d : PyData), vs = [x] ∧ Da K H x d ∧ okS d = true ∧ ∀ H', Same H H' → Q (.bl (itemsR 5 d 60).isSome) H'
theorem scProg : FnScope ["value"] ["value"] (defScope (topS 18)) := ⟨rfl, rfl, rfl, by decide +kernel, rfl, by decide +kernel, by decide +kernel⟩
theorem ok_prog {tD tI : Tok} (F : Fun K "is_program" "is_program" (topS 18) f fd) (GI : FnOk P w K mg base CX0 14 fI fdI ["items", "depth", "room"] (spRI K 5)) (bI : Binds K fdI ["items", "depth", "room"] []) (gI : mg "room_behind_items" = some (.ref fI)) (kI : PySem.W.keepIn K (.ref fI) = true)
    (gD : mg "MOST_DEEP" = some (.int 5 tD)) (gM : mg "MOST_ITEMS" = some (.int 60 tI)) : FnOk P w K mg base CX0 15 f fd ["value"] (spProg K) := by
  refine F.ok scProg (fun vs H Q E h => ?_) (fun cdv A outer s H vs Q E hr h => ?_)
  · obtain ⟨x, d, rfl, _⟩ := h
    rfl
  · obtain ⟨x, d, rfl, hd, ho, q⟩ := h
    refine ⟨_, pss_one (ps_ret (pe_cmpR op_notN (pe_call GI hr (by rfl) gI kI bI .nil pass0 (pa_cons (pv 0) (pa_cons (pe_glob (v := .int 5) rfl gD ⟨_, rfl⟩) (pa_cons (pe_glob (v := .int 60) rfl gM ⟨_, rfl⟩) pa_nil)))) pe_non (nomark _))), ?_⟩
    refine ⟨_, rfl, x, d, 60, rfl, hd, ho, by decide, by decide, fun H' s' => ⟨rfl, ?_⟩⟩
    have qq := q H' s'
    have z : (!decide (optV (itemsR 5 d 60) = V.non)) = (itemsR 5 d 60).isSome := by
      cases itemsR 5 d 60 with
      | none => rfl
      | some r => rfl
    rw [z]
    exact qq
end
end Ev

/-! ## Sums over classes -/
namespace Ev
open PySem
def sumK (h : Nat → Int) : Nat → Int
  | 0 => 0
  | n + 1 => sumK h n + h n
theorem sumK_congr {g h : Nat → Int} : ∀ {n : Nat}, (∀ k, k < n → g k = h k) → sumK g n = sumK h n
  | 0, _ => rfl
  | n + 1, e => by
    show sumK g n + g n = sumK h n + h n
    rw [sumK_congr fun k hk => e k (Nat.lt_succ_of_lt hk), e n (Nat.lt_succ_self n)]
theorem sumK_left (h : Nat → Int) : ∀ n : Nat, sumK h (n + 1) = h 0 + sumK (fun k => h (k + 1)) n
  | 0 => by
    show 0 + h 0 = h 0 + 0
    omega
  | n + 1 => by
    show sumK h (n + 1) + h (n + 1) = h 0 + (sumK (fun k => h (k + 1)) n + h (n + 1))
    rw [sumK_left h n]
    omega
theorem sumK_app (h : Nat → Int) (m : Nat) : ∀ n : Nat, sumK h (m + n) = sumK h m + sumK (fun k => h (m + k)) n
  | 0 => by
    show sumK h m = sumK h m + 0
    omega
  | n + 1 => by
    show sumK h (m + n) + h (m + n) = sumK h m + (sumK (fun k => h (m + k)) n + h (m + n))
    rw [sumK_app h m n]
    omega
theorem sumK_zero : ∀ n : Nat, sumK (fun _ => 0) n = 0
  | 0 => rfl
  | n + 1 => by
    show sumK _ n + 0 = 0
    rw [sumK_zero n]
    rfl
theorem sumK_plus (g h : Nat → Int) : ∀ n : Nat, sumK (fun k => g k + h k) n = sumK g n + sumK h n
  | 0 => rfl
  | n + 1 => by
    show sumK _ n + (g n + h n) = (sumK g n + g n) + (sumK h n + h n)
    rw [sumK_plus g h n]
    omega
theorem sumK_mul (c : Int) (h : Nat → Int) : ∀ n : Nat, sumK (fun k => c * h k) n = c * sumK h n
  | 0 => (Int.mul_zero c).symm
  | n + 1 => by
    show sumK _ n + c * h n = c * (sumK h n + h n)
    rw [sumK_mul c h n, Int.mul_add]
theorem sumK_mulR (c : Int) (h : Nat → Int) (n : Nat) : sumK (fun k => h k * c) n = sumK h n * c := by
  rw [Int.mul_comm, ← sumK_mul]
  exact sumK_congr fun k _ => Int.mul_comm _ _
theorem sumK_swap (h : Nat → Nat → Int) (m : Nat) : ∀ n : Nat, sumK (fun a => sumK (fun b => h a b) m) n = sumK (fun b => sumK (fun a => h a b) n) m
  | 0 => (sumK_zero m).symm
  | n + 1 => by
    show sumK (fun a => sumK (fun b => h a b) m) n + sumK (fun b => h n b) m = sumK (fun b => sumK (fun a => h a b) n + h n b) m
    rw [sumK_swap h m n, sumK_plus]
theorem sumK_shift1 (h : Nat → Int) (m : Nat) : sumK (fun a => h ((a + 1) % (m + 1))) (m + 1) = sumK h (m + 1) := by
  show sumK (fun a => h ((a + 1) % (m + 1))) m + h ((m + 1) % (m + 1)) = _
  rw [sumK_left h m, Nat.mod_self, sumK_congr (h := fun k => h (k + 1)) fun k hk => by rw [Nat.mod_eq_of_lt (by omega)]]
  omega
theorem sumK_shift {m : Nat} (hm : 0 < m) (h : Nat → Int) : ∀ s : Nat, sumK (fun a => h ((a + s) % m)) m = sumK h m
  | 0 => sumK_congr fun k hk => by rw [Nat.add_zero, Nat.mod_eq_of_lt hk]
  | s + 1 => by
    rw [← sumK_shift hm h s]
    obtain ⟨m', rfl⟩ : ∃ m', m = m' + 1 := ⟨m - 1, by omega⟩
    rw [← sumK_shift1 (fun a => h ((a + s) % (m' + 1))) m']
    exact sumK_congr fun k _ => by rw [Nat.mod_add_mod, show k + (s + 1) = k + 1 + s by omega]
theorem sumK_rev (h : Nat → Int) : ∀ n : Nat, sumK (fun k => h (n - 1 - k)) n = sumK h n
  | 0 => rfl
  | n + 1 => by
    rw [sumK_left]
    show h (n + 1 - 1 - 0) + sumK (fun k => h (n + 1 - 1 - (k + 1))) n = sumK h n + h n
    rw [← sumK_rev h n, sumK_congr (g := fun k => h (n + 1 - 1 - (k + 1))) (h := fun k => h (n - 1 - k)) fun k _ => by rw [show n + 1 - 1 - (k + 1) = n - 1 - k by omega]]
    rw [show n + 1 - 1 - 0 = n by omega]
    omega
theorem sumK_pick {c : Nat} (h : Nat → Int) : ∀ {m : Nat}, c < m → sumK (fun b => h b * (if b = c then 1 else 0)) m = h c
  | m + 1, hc => by
    show sumK _ m + h m * (if m = c then 1 else 0) = h c
    by_cases e : m = c
    · subst e
      rw [if_pos rfl, sumK_congr (h := fun _ => 0) fun k hk => by rw [if_neg (by omega), Int.mul_zero], sumK_zero]
      omega
    · rw [if_neg e, sumK_pick h (show c < m by omega)]
      omega
theorem sumK_le {h : Nat → Int} {M : Int} : ∀ {n : Nat}, (∀ k, k < n → (h k).natAbs ≤ M) → (sumK h n).natAbs ≤ n * M
  | 0, _ => by
    show ((0 : Int).natAbs : Int) ≤ 0 * M
    rw [Int.zero_mul]
    decide
  | n + 1, e => by
    show ((sumK h n + h n).natAbs : Int) ≤ ((n + 1 : Nat) : Int) * M
    have a := sumK_le fun k hk => e k (Nat.lt_succ_of_lt hk)
    have b := e n (Nat.lt_succ_self n)
    have c := Int.natAbs_add_le (sumK h n) (h n)
    rw [show ((n + 1 : Nat) : Int) * M = n * M + M by rw [Int.natCast_add, Int.add_mul]; simp]
    omega
theorem sumK_nn {h : Nat → Int} : ∀ {n : Nat}, (∀ k, k < n → 0 ≤ h k) → 0 ≤ sumK h n
  | 0, _ => Int.le_refl 0
  | n + 1, e => by
    have a := sumK_nn fun k hk => e k (Nat.lt_succ_of_lt hk)
    have b := e n (Nat.lt_succ_self n)
    show 0 ≤ sumK h n + h n
    omega
/-! ### classes, turned back -/
def rot (m c k : Nat) : Nat := (((c : Int) - (k : Int)) % (m : Int)).toNat
section
variable {m : Nat}
theorem rot_int (hm : 0 < m) (c k : Nat) : ((rot m c k : Nat) : Int) = ((c : Int) - k) % m := Int.toNat_of_nonneg (Int.emod_nonneg _ (by omega))
theorem rot_lt (hm : 0 < m) (c k : Nat) : rot m c k < m := by
  have a := rot_int hm c k
  have b := Int.emod_lt_of_pos ((c : Int) - k) (show (0 : Int) < m by omega)
  omega
theorem emod_of {a b : Int} {q : Int} (h : a - b = m * q) : a % (m : Int) = b % m := by
  rw [show a = b + m * q by omega, Int.add_mul_emod_self_left]
/-- what is r modulo m -/
theorem rot_eq (hm : 0 < m) {c k r : Nat} {q : Int} (hr : r < m) (h : (c : Int) - k - r = m * q) : rot m c k = r := by
  have a := rot_int hm c k
  rw [emod_of h, Int.emod_eq_of_lt (by omega) (by omega)] at a
  omega
theorem div_mod (a : Int) (m : Nat) : a % (m : Int) = a - m * (a / m) := by
  have := Int.emod_add_mul_ediv a m
  omega
theorem rot_back (hm : 0 < m) {a k : Nat} (ha : a < m) : rot m ((a + k) % m) k = a := by
  refine rot_eq hm ha (q := -(((a + k : Nat) : Int) / m)) ?_
  have z := div_mod ((a + k : Nat) : Int) m
  rw [Int.natCast_emod, z, Int.mul_neg]
  omega
theorem reindex (hm : 0 < m) (f g : Nat → Int) (s : Nat) : sumK (fun b => f (rot m b s) * g b) m = sumK (fun a => f a * g ((a + s) % m)) m := by
  rw [← sumK_shift hm (fun b => f (rot m b s) * g b) s]
  exact sumK_congr fun a ha => by rw [rot_back hm ha]
theorem rot_per (hm : 0 < m) (c k : Nat) : rot m c (k + m) = rot m c k := by
  refine rot_eq hm (rot_lt hm _ _) (q := ((c : Int) - k) / m - 1) ?_
  rw [rot_int hm, div_mod]
  rw [Int.mul_sub, Int.mul_one]
  omega
theorem rot_zero (hm : 0 < m) {c : Nat} (hc : c < m) : rot m c 0 = c := rot_eq hm hc (q := 0) (by omega)
theorem rot_self (hm : 0 < m) {c : Nat} (hc : c < m) : rot m c m = c := rot_eq hm hc (q := -1) (by omega)
theorem rot_succ (hm : 0 < m) (c k : Nat) : rot m ((c + 1) % m) (k + 1) = rot m c k := by
  refine rot_eq hm (rot_lt hm _ _) (q := ((c : Int) - k) / m - ((c + 1 : Nat) : Int) / m) ?_
  rw [rot_int hm, div_mod, Int.natCast_emod, div_mod]
  rw [Int.mul_sub]
  omega
end
/-! ### what is begun again and again -/
def repF (m s t : Nat) (f : Nat → Int) (c : Nat) : Int := sumK (fun k => f (rot m c (k * s))) t
def mvF (m s : Nat) (f : Nat → Int) (c : Nat) : Int := f (rot m c s)
section
variable {m : Nat} {g : Nat → Int}
theorem sumK_per {h : Nat → Int} (L : Nat) (hp : ∀ k, h (k + L) = h k) (r : Nat) : ∀ q : Nat, sumK h (q * L + r) = q * sumK h L + sumK h r
  | 0 => by
    rw [Nat.zero_mul, Nat.zero_add]
    simp
  | q + 1 => by
    rw [show (q + 1) * L + r = L + (q * L + r) by rw [Nat.succ_mul]; omega, sumK_app, sumK_congr (h := h) (n := q * L + r) fun k _ => by rw [Nat.add_comm L k, hp], sumK_per L hp r q, Int.natCast_add, Int.add_mul]
    simp
    omega
/-- a window that moves on by one -/
theorem slide (hm : 0 < m) (r c : Nat) : sumK (fun k => g (rot m ((c + 1) % m) k)) r = sumK (fun k => g (rot m c k)) r + g ((c + 1) % m) - g (rot m ((c + 1) % m) r) := by
  have a := sumK_left (fun k => g (rot m ((c + 1) % m) k)) r
  have b : sumK (fun k => g (rot m ((c + 1) % m) k)) (r + 1) = sumK (fun k => g (rot m ((c + 1) % m) k)) r + g (rot m ((c + 1) % m) r) := rfl
  rw [sumK_congr (g := fun k => g (rot m ((c + 1) % m) (k + 1))) (h := fun k => g (rot m c k)) fun k _ => by rw [rot_succ hm]] at a
  rw [rot_zero hm (Nat.mod_lt _ hm)] at a
  omega
theorem win_all (hm : 0 < m) : ∀ c : Nat, c < m → sumK (fun k => g (rot m c k)) m = sumK g m
  | 0, _ => by
    have a := slide (g := g) hm m (m - 1)
    rw [show m - 1 + 1 = m by omega, Nat.mod_self, rot_self hm hm] at a
    have b : sumK (fun k => g (rot m (m - 1) k)) m = sumK g m := by
      rw [← sumK_rev g m]
      exact sumK_congr fun k hk => by rw [rot_eq hm (r := m - 1 - k) (q := 0) (by omega) (by omega)]
    omega
  | c + 1, hc => by
    have a := slide (g := g) hm m c
    rw [Nat.mod_eq_of_lt hc, rot_self hm hc, win_all hm c (by omega)] at a
    omega
theorem rep1 (hm : 0 < m) {c : Nat} (hc : c < m) (t : Nat) : repF m 1 t g c = (t / m : Nat) * sumK g m + sumK (fun k => g (rot m c k)) (t % m) := by
  unfold repF
  rw [sumK_congr (h := fun k => g (rot m c k)) fun k _ => by rw [Nat.mul_one]]
  have e : t = t / m * m + t % m := by rw [Nat.mul_comm]; exact (Nat.div_add_mod t m).symm
  conv => lhs; rw [e]
  rw [sumK_per m (fun k => by rw [rot_per hm]), win_all hm c hc]
/-- the last r of a ring -/
theorem tail_sum (hm : 0 < m) {r : Nat} (hr : r ≤ m) : sumK (fun k => g (m - r + k)) r = sumK (fun k => g (rot m (m - 1) k)) r := by
  rw [← sumK_rev (fun k => g (m - r + k)) r]
  exact sumK_congr fun k hk => by rw [rot_eq hm (r := m - 1 - k) (q := 0) (by omega) (by omega), show m - r + (r - 1 - k) = m - 1 - k by omega]
end
/-! ### cycles -/
theorem bezout (a b : Nat) : ∃ x y : Int, (a : Int) * x + b * y = (Nat.gcd a b : Nat) := by
  induction a, b using Nat.gcd.induction with
  | H0 b => exact ⟨0, 1, by simp⟩
  | H1 a b h ih =>
    obtain ⟨x, y, e⟩ := ih
    refine ⟨y - (b / a : Nat) * x, x, ?_⟩
    rw [Nat.gcd_rec, ← e]
    have z : ((b : Nat) : Int) = a * (b / a : Nat) + (b % a : Nat) := by
      have := Nat.div_add_mod b a
      rw [← Int.natCast_mul, ← Int.natCast_add, this]
    rw [Int.mul_sub]
    conv => lhs; rw [z]
    rw [Int.add_mul, Int.mul_assoc]
    omega
section
variable {m s : Nat} {f : Nat → Int}
theorem cyc_len (s m : Nat) : s * (m / Nat.gcd s m) = m * (s / Nat.gcd s m) := by
  obtain ⟨u, hu⟩ := Nat.gcd_dvd_left s m
  obtain ⟨v, hv⟩ := Nat.gcd_dvd_right s m
  by_cases h : Nat.gcd s m = 0
  · rw [h]
    simp
  · have h : 0 < Nat.gcd s m := Nat.pos_of_ne_zero h
    rw [Nat.div_eq_of_eq_mul_right h hv, Nat.div_eq_of_eq_mul_right h hu]
    have gen : ∀ g : Nat, s = g * u → m = g * v → s * v = m * u := fun g h1 h2 => by
      rw [h1, h2, Nat.mul_assoc, Nat.mul_assoc, Nat.mul_comm u v]
    exact gen _ hu hv
theorem cyc_lenI (s m : Nat) : (s : Int) * (m / Nat.gcd s m : Nat) = m * (s / Nat.gcd s m : Nat) := by
  rw [← Int.natCast_mul, cyc_len, Int.natCast_mul]
theorem cyc_pos (hm : 0 < m) : 0 < Nat.gcd s m ∧ 0 < m / Nat.gcd s m ∧ Nat.gcd s m ≤ m ∧ m / Nat.gcd s m ≤ m := by
  have h : 0 < Nat.gcd s m := Nat.gcd_pos_of_pos_right s hm
  exact ⟨h, Nat.div_pos (Nat.le_of_dvd hm (Nat.gcd_dvd_right s m)) h, Nat.le_of_dvd hm (Nat.gcd_dvd_right s m), Nat.div_le_self _ _⟩
/-- steps within a cycle are steps of classes -/
theorem cyc_rot (hm : 0 < m) (first at' k : Nat) : (first + s * rot (m / Nat.gcd s m) at' k) % m = rot m ((first + s * at') % m) (k * s) := by
  obtain ⟨_, hL, _, _⟩ := cyc_pos (s := s) hm
  refine (rot_eq hm (Nat.mod_lt _ hm) (q := ((first + s * rot (m / Nat.gcd s m) at' k : Nat) : Int) / m - ((first + s * at' : Nat) : Int) / m + (s / Nat.gcd s m : Nat) * (((at' : Int) - k) / (m / Nat.gcd s m : Nat))) ?_).symm
  have hl := cyc_len s m
  have e1 := rot_int hL at' k
  rw [div_mod] at e1
  have z : (s : Int) * rot (m / Nat.gcd s m) at' k = s * at' - s * k - m * ((s / Nat.gcd s m : Nat) * (((at' : Int) - k) / (m / Nat.gcd s m : Nat))) := by
    rw [e1, Int.mul_sub, Int.mul_sub, ← Int.mul_assoc (s : Int) ((m / Nat.gcd s m : Nat) : Int), cyc_lenI, Int.mul_assoc]
  rw [Int.natCast_emod, Int.natCast_emod, div_mod, div_mod, Int.mul_add, Int.mul_sub]
  simp only [Int.natCast_add, Int.natCast_mul]
  rw [z, Int.mul_comm (k : Int) s]
  omega
theorem cyc_all (hm : 0 < m) {c : Nat} (hc : c < m) : ∃ first at', first < Nat.gcd s m ∧ at' < m / Nat.gcd s m ∧ (first + s * at') % m = c := by
  obtain ⟨hg, hL, _, _⟩ := cyc_pos (s := s) hm
  obtain ⟨x, y, e⟩ := bezout s m
  have hl := cyc_len s m
  refine ⟨c % Nat.gcd s m, ((x * (c / Nat.gcd s m : Nat)) % (m / Nat.gcd s m : Nat)).toNat, Nat.mod_lt _ hg, ?_, ?_⟩
  · have a := Int.emod_lt_of_pos (x * (c / Nat.gcd s m : Nat)) (show (0 : Int) < (m / Nat.gcd s m : Nat) by omega)
    have b := Int.emod_nonneg (x * (c / Nat.gcd s m : Nat)) (show ((m / Nat.gcd s m : Nat) : Int) ≠ 0 by omega)
    omega
  · have b := Int.emod_nonneg (x * (c / Nat.gcd s m : Nat)) (show ((m / Nat.gcd s m : Nat) : Int) ≠ 0 by omega)
    have cd : ((c : Nat) : Int) = (Nat.gcd s m : Nat) * (c / Nat.gcd s m : Nat) + (c % Nat.gcd s m : Nat) := by
      have := Nat.div_add_mod c (Nat.gcd s m)
      rw [← Int.natCast_mul, ← Int.natCast_add, this]
    have key : (((c % Nat.gcd s m + s * ((x * (c / Nat.gcd s m : Nat)) % (m / Nat.gcd s m : Nat)).toNat : Nat) : Int)) % m = c := by
      rw [show ((c : Nat) : Int) = ((c : Nat) : Int) % m from (Int.emod_eq_of_lt (by omega) (by omega)).symm]
      refine emod_of (q := -(y * (c / Nat.gcd s m : Nat)) - (s / Nat.gcd s m : Nat) * (x * (c / Nat.gcd s m : Nat) / (m / Nat.gcd s m : Nat))) ?_
      rw [Int.natCast_add, Int.natCast_mul, Int.toNat_of_nonneg b, div_mod, Int.mul_sub, ← Int.mul_assoc (s : Int) x, ← Int.mul_assoc (s : Int) ((m / Nat.gcd s m : Nat) : Int), cyc_lenI]
      have e2 : (s : Int) * x = (Nat.gcd s m : Nat) - m * y := by omega
      rw [e2, Int.sub_mul, Int.mul_sub, Int.mul_neg]
      rw [Int.mul_assoc (m : Int), Int.mul_assoc (m : Int)]
      omega
    omega
end
/-! ### ticks by class -/
/-- the ticks of line n in class c, the first tick being o -/
def cf (n : Str) (m c : Nat) : List Str → Nat → Int
  | [], _ => 0
  | x :: l, o => (if x = n ∧ o % m = c then 1 else 0) + cf n m c l (o + 1)
section
variable {n : Str} {m c : Nat}
theorem cf_app : ∀ (l k : List Str) (o : Nat), cf n m c (l ++ k) o = cf n m c l o + cf n m c k (o + l.length)
  | [], k, o => by
    show cf n m c k o = 0 + cf n m c k (o + 0)
    rw [Nat.add_zero]
    omega
  | x :: l, k, o => by
    show _ + cf n m c (l ++ k) (o + 1) = (_ + cf n m c l (o + 1)) + cf n m c k (o + (l.length + 1))
    rw [cf_app l k (o + 1), show o + 1 + l.length = o + (l.length + 1) by omega]
    omega
theorem cf_mod : ∀ (l : List Str) {o o' : Nat}, o % m = o' % m → cf n m c l o = cf n m c l o'
  | [], _, _, _ => rfl
  | x :: l, o, o', h => by
    show (if x = n ∧ o % m = c then 1 else 0) + cf n m c l (o + 1) = (if x = n ∧ o' % m = c then 1 else 0) + cf n m c l (o' + 1)
    rw [h, cf_mod l (o := o + 1) (o' := o' + 1) (by rw [Nat.add_mod, h, ← Nat.add_mod])]
theorem cf_nn : ∀ (l : List Str) (o : Nat), 0 ≤ cf n m c l o ∧ cf n m c l o ≤ l.length
  | [], _ => ⟨Int.le_refl 0, Int.le_refl 0⟩
  | x :: l, o => by
    have h := cf_nn l (o + 1)
    show 0 ≤ (if x = n ∧ o % m = c then 1 else 0) + cf n m c l (o + 1) ∧ (if x = n ∧ o % m = c then 1 else 0) + cf n m c l (o + 1) ≤ ((l.length + 1 : Nat) : Int)
    split <;> omega
theorem cf_flat (l : List Str) (o : Nat) : ∀ r : Nat, cf n m c (List.replicate r l).flatten o = sumK (fun k => cf n m c l (o + k * l.length)) r
  | 0 => rfl
  | r + 1 => by
    rw [List.replicate_succ', List.flatten_append, cf_app, cf_flat l o r, flat_len]
    show _ + cf n m c (l ++ []) _ = sumK _ r + _
    rw [List.append_nil]
end
mutual
def It.cols (m : Nat) : It → (Nat → Int) → List (Str × (Nat → Int))
  | .line x t, f => [(x, repF m 1 t.toNat f)]
  | .loop r js, f => Its.cols m js (repF m (Its.w js).length r.toNat f)
def Its.cols (m : Nat) : List It → (Nat → Int) → List (Str × (Nat → Int))
  | [], _ => []
  | i :: is, f => It.cols m i f ++ Its.cols m is (mvF m (It.w i).length f)
end
def colS (n : Str) (c : Nat) : List (Str × (Nat → Int)) → Int
  | [] => 0
  | p :: ps => (if p.1 = n then p.2 c else 0) + colS n c ps
theorem colS_app {n : Str} {c : Nat} : ∀ ps qs : List (Str × (Nat → Int)), colS n c (ps ++ qs) = colS n c ps + colS n c qs
  | [], qs => by
    show colS n c qs = 0 + _
    omega
  | p :: ps, qs => by
    show _ + colS n c (ps ++ qs) = (_ + colS n c ps) + _
    rw [colS_app ps qs]
    omega
theorem cf_line {n x : Str} {m c : Nat} (hm : 0 < m) (hc : c < m) (f : Nat → Int) : ∀ t : Nat, sumK (fun a => f a * cf n m c (List.replicate t x) a) m = if x = n then repF m 1 t f c else 0
  | 0 => by
    have : sumK (fun a => f a * cf n m c (List.replicate 0 x) a) m = 0 := by
      rw [sumK_congr (h := fun _ => 0) fun a _ => by show f a * 0 = 0; omega, sumK_zero]
    rw [this]
    split <;> rfl
  | t + 1 => by
    have step : ∀ a, cf n m c (List.replicate (t + 1) x) a = cf n m c (List.replicate t x) a + (if x = n ∧ (a + t) % m = c then 1 else 0) := fun a => by
      rw [List.replicate_succ', cf_app, List.length_replicate]
      show _ + ((if x = n ∧ (a + t) % m = c then 1 else 0) + 0) = _
      omega
    rw [sumK_congr (h := fun a => f a * cf n m c (List.replicate t x) a + f a * (if x = n ∧ (a + t) % m = c then 1 else 0)) fun a _ => by rw [step a, Int.mul_add], sumK_plus, cf_line hm hc f t]
    by_cases e : x = n
    · rw [if_pos e, if_pos e]
      have z := reindex hm f (fun b => if b = c then 1 else 0) t
      rw [sumK_pick (m := m) (fun b => f (rot m b t)) hc] at z
      rw [sumK_congr (h := fun a => f a * (if (a + t) % m = c then 1 else 0)) fun a _ => by simp [e], ← z]
      show repF m 1 t f c + _ = repF m 1 t f c + f (rot m c (t * 1))
      rw [Nat.mul_one]
    · rw [if_neg e, if_neg e, sumK_congr (h := fun _ => 0) fun a _ => by rw [if_neg (by simp [e]), Int.mul_zero], sumK_zero]
      rfl
mutual
theorem It.cols_cf {n : Str} {m c : Nat} (hm : 0 < m) (hc : c < m) : ∀ (i : It) (f : Nat → Int), It.nn i → colS n c (It.cols m i f) = sumK (fun a => f a * cf n m c (It.w i) a) m
  | .line x t, f, _ => by
    rw [It.cols, It.w, cf_line hm hc]
    show (if x = n then repF m 1 t.toNat f c else 0) + 0 = _
    omega
  | .loop r js, f, h => by
    rw [It.nn] at h
    rw [It.cols, It.w, Its.cols_cf hm hc js _ h.2]
    rw [sumK_congr (h := fun b => sumK (fun k => f (rot m b (k * (Its.w js).length)) * cf n m c (Its.w js) b) r.toNat) fun b _ => by
      show sumK _ _ * _ = _
      rw [sumK_mulR], sumK_swap]
    rw [sumK_congr (h := fun k => sumK (fun a => f a * cf n m c (Its.w js) (a + k * (Its.w js).length)) m) fun k _ => by
      rw [reindex hm f (fun b => cf n m c (Its.w js) b) (k * (Its.w js).length)]
      exact sumK_congr fun a _ => by rw [cf_mod (Its.w js) (o := (a + k * (Its.w js).length) % m) (o' := a + k * (Its.w js).length) (Nat.mod_mod _ _)]]
    rw [sumK_swap]
    exact sumK_congr fun a _ => by rw [sumK_mul, cf_flat]
theorem Its.cols_cf {n : Str} {m c : Nat} (hm : 0 < m) (hc : c < m) : ∀ (is : List It) (f : Nat → Int), Its.nn is → colS n c (Its.cols m is f) = sumK (fun a => f a * cf n m c (Its.w is) a) m
  | [], f, _ => by
    rw [Its.cols, Its.w]
    show 0 = sumK (fun a => f a * 0) m
    rw [sumK_congr (h := fun _ => 0) fun a _ => Int.mul_zero _, sumK_zero]
  | i :: is, f, h => by
    rw [Its.nn] at h
    rw [Its.cols, Its.w, colS_app, It.cols_cf hm hc i f h.1, Its.cols_cf hm hc is _ h.2]
    rw [show sumK (fun a => mvF m (It.w i).length f a * cf n m c (Its.w is) a) m = sumK (fun a => f a * cf n m c (Its.w is) (a + (It.w i).length)) m from (reindex hm f (fun b => cf n m c (Its.w is) b) (It.w i).length).trans
      (sumK_congr fun a _ => by rw [cf_mod (Its.w is) (o := (a + (It.w i).length) % m) (o' := a + (It.w i).length) (Nat.mod_mod _ _)])]
    rw [← sumK_plus]
    exact sumK_congr fun a _ => by rw [cf_app, Int.mul_add]
end
/-- one start, at tick 0 -/
def one0 (a : Nat) : Int := if a = 0 then 1 else 0
theorem cols_one {n : Str} {m c : Nat} (hm : 0 < m) (hc : c < m) {is : List It} (h : Its.nn is) : colS n c (Its.cols m is one0) = cf n m c (Its.w is) 0 := by
  rw [Its.cols_cf hm hc is _ h, sumK_congr (g := fun a => one0 a * cf n m c (Its.w is) a) (h := fun b => cf n m c (Its.w is) b * (if b = 0 then 1 else 0)) fun b _ => Int.mul_comm _ _]
  exact sumK_pick (m := m) (fun b => cf n m c (Its.w is) b) hm
end Ev

/-! ## When rows of lines are even -/
namespace Ev
open PySem
theorem sumK_one {P : Prop} [Decidable P] {k : Nat} : ∀ {m : Nat}, sumK (fun c => if P ∧ k = c then 1 else 0) m = if P ∧ k < m then 1 else 0
  | 0 => by
    rw [if_neg (fun z => absurd z.2 (Nat.not_lt_zero k))]
    rfl
  | m + 1 => by
    show sumK _ m + (if P ∧ k = m then 1 else 0) = _
    rw [sumK_one (m := m)]
    by_cases h : P
    · by_cases h1 : k < m
      · rw [if_pos ⟨h, h1⟩, if_neg (fun z => by have := z.2; omega), if_pos ⟨h, by omega⟩]
        rfl
      · by_cases h2 : k = m
        · rw [if_neg (fun z => h1 z.2), if_pos ⟨h, h2⟩, if_pos ⟨h, by omega⟩]
          rfl
        · rw [if_neg (fun z => h1 z.2), if_neg (fun z => h2 z.2), if_neg (fun z => by have := z.2; omega)]
          rfl
    · rw [if_neg (fun z => h z.1), if_neg (fun z => h z.1), if_neg (fun z => h z.1)]
      rfl
theorem cf_sum {n : Str} {m : Nat} (hm : 0 < m) : ∀ (l : List Str) (o : Nat), sumK (fun c => cf n m c l o) m = (l.count n : Nat)
  | [], _ => by
    show sumK (fun _ => 0) m = _
    rw [sumK_zero]
    rfl
  | x :: l, o => by
    show sumK (fun c => (if x = n ∧ o % m = c then 1 else 0) + cf n m c l (o + 1)) m = _
    rw [sumK_plus, sumK_one, cf_sum hm l (o + 1), List.count_cons]
    have := Nat.mod_lt o hm
    by_cases h : x = n
    · rw [if_pos ⟨h, this⟩, if_pos (beq_iff_eq.mpr h)]
      omega
    · rw [if_neg (fun z => h z.1), if_neg (fun z => h (beq_iff_eq.mp z))]
      omega
theorem sumK_const (k : Int) : ∀ m : Nat, sumK (fun _ => k) m = m * k
  | 0 => by
    show (0 : Int) = 0 * k
    omega
  | m + 1 => by
    show sumK _ m + k = _
    rw [sumK_const k m, Int.natCast_add, Int.add_mul]
    omega
/-- equal classes: the modulus divides how many there are -/
theorem even_dvd {n : Str} {m : Nat} (hm : 0 < m) {l : List Str} {o : Nat} (h : ∀ c, c < m → cf n m c l o = cf n m 0 l o) : m ∣ l.count n := by
  have z := cf_sum (n := n) hm l o
  rw [sumK_congr (h := fun _ => cf n m 0 l o) (fun c hc => h c hc), sumK_const] at z
  have h0 := (cf_nn (n := n) (m := m) (c := 0) l o).1
  refine ⟨(cf n m 0 l o).toNat, ?_⟩
  have e : ((m * (cf n m 0 l o).toNat : Nat) : Int) = (l.count n : Nat) := by
    rw [Int.natCast_mul, Int.toNat_of_nonneg h0, z]
  omega
theorem cf_short {n x : Str} {m c : Nat} : ∀ k : Nat, k ≤ m → cf n m c (List.replicate k x) 0 = if x = n ∧ c < k then 1 else 0
  | 0, _ => by
    rw [if_neg (fun z => absurd z.2 (Nat.not_lt_zero c))]
    rfl
  | k + 1, h => by
    rw [List.replicate_succ', cf_app, cf_short k (by omega), List.length_replicate]
    show _ + ((if x = n ∧ (0 + k) % m = c then 1 else 0) + 0) = _
    rw [Nat.zero_add, Nat.mod_eq_of_lt (by omega)]
    by_cases h1 : x = n
    · by_cases h2 : c < k
      · rw [if_pos ⟨h1, h2⟩, if_neg (fun z => by have := z.2; omega), if_pos ⟨h1, by omega⟩]
        rfl
      · by_cases h3 : k = c
        · rw [if_neg (fun z => h2 z.2), if_pos ⟨h1, h3⟩, if_pos ⟨h1, by omega⟩]
          rfl
        · rw [if_neg (fun z => h2 z.2), if_neg (fun z => h3 z.2), if_neg (fun z => by have := z.2; omega)]
          rfl
    · rw [if_neg (fun z => h1 z.1), if_neg (fun z => h1 z.1), if_neg (fun z => h1 z.1)]
      rfl
/-- one tick later -/
theorem cf_next {n x : Str} {m c f : Nat} (o : Nat) : cf n m c (List.replicate f x) (o + 1) = cf n m c (List.replicate f x) o - (if x = n ∧ o % m = c then 1 else 0) + (if x = n ∧ (o + f) % m = c then 1 else 0) := by
  have e1 : cf n m c (List.replicate (f + 1) x) o = (if x = n ∧ o % m = c then 1 else 0) + cf n m c (List.replicate f x) (o + 1) := rfl
  have e2 : cf n m c (List.replicate (f + 1) x) o = cf n m c (List.replicate f x) o + ((if x = n ∧ (o + f) % m = c then 1 else 0) + 0) := by
    rw [List.replicate_succ', cf_app, List.length_replicate]
    rfl
  omega
theorem cf_per {n x : Str} {m c : Nat} (hc : c < m) : ∀ o : Nat, cf n m c (List.replicate m x) o = if x = n then 1 else 0
  | 0 => by
    rw [cf_short m (Nat.le_refl m)]
    by_cases h : x = n
    · rw [if_pos ⟨h, hc⟩, if_pos h]
    · rw [if_neg (fun z => h z.1), if_neg h]
  | o + 1 => by
    rw [cf_next, cf_per hc o, Nat.add_mod_right]
    omega
theorem cf_mult {n x : Str} {m c : Nat} (hc : c < m) : ∀ (k o : Nat), cf n m c (List.replicate (m * k) x) o = if x = n then (k : Int) else 0
  | 0, o => by
    rw [Nat.mul_zero]
    show (0 : Int) = _
    split <;> rfl
  | k + 1, o => by
    rw [Nat.mul_succ, ← List.replicate_append_replicate, cf_app, cf_mult hc k o, cf_per hc]
    split <;> omega
/-! ### coarser classes -/
theorem cf_coarse {n : Str} {m d r : Nat} (hm : 0 < m) (hd : d ∣ m) : ∀ (l : List Str) (o : Nat), cf n d r l o = sumK (fun c => if c % d = r then cf n m c l o else 0) m
  | [], o => by
    rw [sumK_congr (h := fun _ => 0) (fun c _ => by show (if c % d = r then (0 : Int) else 0) = 0; split <;> rfl), sumK_zero]
    rfl
  | x :: l, o => by
    show (if x = n ∧ o % d = r then 1 else 0) + cf n d r l (o + 1) = _
    rw [cf_coarse hm hd l (o + 1)]
    have e : ∀ c, c < m → (if c % d = r then cf n m c (x :: l) o else 0) = (if (x = n ∧ o % d = r) ∧ o % m = c then 1 else 0) + (if c % d = r then cf n m c l (o + 1) else 0) := fun c _ => by
      show (if c % d = r then (if x = n ∧ o % m = c then 1 else 0) + cf n m c l (o + 1) else 0) = _
      have hmd : o % m % d = o % d := Nat.mod_mod_of_dvd o hd
      by_cases h1 : c % d = r
      · rw [if_pos h1, if_pos h1]
        congr 1
        by_cases h2 : x = n ∧ o % m = c
        · rw [if_pos h2, if_pos ⟨⟨h2.1, by rw [← hmd, h2.2]; exact h1⟩, h2.2⟩]
        · rw [if_neg h2, if_neg (fun z => h2 ⟨z.1.1, z.2⟩)]
      · rw [if_neg h1, if_neg h1, if_neg (fun z => h1 (by rw [← z.2, hmd]; exact z.1.2))]
        rfl
    rw [sumK_congr e, sumK_plus, sumK_one]
    have := Nat.mod_lt o hm
    by_cases h : x = n ∧ o % d = r
    · rw [if_pos h, if_pos ⟨h, this⟩]
    · rw [if_neg h, if_neg (fun z => h z.1)]
/-- equal classes are equal in coarser ones -/
theorem even_coarse {n : Str} {m d : Nat} (hm : 0 < m) (hd : d ∣ m) {l : List Str} {o : Nat} (h : ∀ c, c < m → cf n m c l o = cf n m 0 l o) {r : Nat} (hr : r < d) : cf n d r l o = cf n d 0 l o := by
  have d0 : 0 < d := by omega
  have key : ∀ r, r < d → cf n d r l o = cf n m 0 l o * ((m / d : Nat) : Int) := fun r hr => by
    rw [cf_coarse hm hd, sumK_congr (h := fun c => cf n m 0 l o * (if c % d = r then 1 else 0)) (fun c hc => by rw [h c hc]; split <;> omega), sumK_mul]
    congr 1
    have z : ∀ k, sumK (fun c => if c % d = r then 1 else 0) k = cf n d r (List.replicate k n) 0 := fun k => by
      induction k with
      | zero => rfl
      | succ k ih =>
        rw [List.replicate_succ', cf_app, List.length_replicate]
        show sumK _ k + (if k % d = r then 1 else 0) = _ + ((if n = n ∧ (0 + k) % d = r then 1 else 0) + 0)
        rw [ih, Nat.zero_add]
        by_cases h1 : k % d = r
        · rw [if_pos h1, if_pos ⟨rfl, h1⟩]
          omega
        · rw [if_neg h1, if_neg (fun z => h1 z.2)]
          omega
    rw [z m, show m = d * (m / d) from (Nat.mul_div_cancel' hd).symm, cf_mult hr, if_pos rfl]
    rw [Nat.mul_div_cancel_left _ d0]
  rw [key r hr, key 0 d0]
/-! ### periods -/
theorem per_gcd {N : Nat → Int} : ∀ (a b : Nat), (∀ o, N (o + a) = N o) → (∀ o, N (o + b) = N o) → ∀ o, N (o + Nat.gcd a b) = N o := by
  intro a b
  induction a, b using Nat.gcd.induction with
  | H0 b =>
    intro _ hb o
    rw [Nat.gcd_zero_left]
    exact hb o
  | H1 a b ha ih =>
    intro h1 h2 o
    rw [Nat.gcd_rec]
    refine ih (fun o => ?_) h1 o
    have mul : ∀ k o, N (o + a * k) = N o := fun k => by
      induction k with
      | zero =>
        intro o
        rw [Nat.mul_zero, Nat.add_zero]
      | succ k ihk =>
        intro o
        rw [Nat.mul_succ, ← Nat.add_assoc, h1, ihk]
    have e : o + b % a + a * (b / a) = o + b := by
      have := Nat.div_add_mod b a
      omega
    rw [← mul (b / a) (o + b % a), e, h2]
theorem per_mul {N : Nat → Int} {a : Nat} (h : ∀ o, N (o + a) = N o) : ∀ k o, N (o + a * k) = N o
  | 0, o => by rw [Nat.mul_zero, Nat.add_zero]
  | k + 1, o => by rw [Nat.mul_succ, ← Nat.add_assoc, h, per_mul h k o]
/-- intervals of f ticks, every L ticks, R of them, are even if gcd(m, L) divides f and m divides L * R -/
theorem loop_even {x : Str} {m L R f : Nat} (hm : 0 < m) (hLR : m ∣ L * R) (hf : Nat.gcd m L ∣ f) (o0 : Nat) {c : Nat} (hc : c < m) :
    sumK (fun k => cf x m c (List.replicate f x) (o0 + k * L)) R = sumK (fun k => cf x m 0 (List.replicate f x) (o0 + k * L)) R := by
  have step : ∀ c, c + 1 < m → sumK (fun k => cf x m (c + 1) (List.replicate f x) (o0 + k * L)) R = sumK (fun k => cf x m c (List.replicate f x) (o0 + k * L)) R := fun c hc => by
    let N : Nat → Int := fun o => sumK (fun k => if (o + k * L) % m = c + 1 then 1 else 0) R
    have pm : ∀ o, N (o + m) = N o := fun o => sumK_congr fun k _ => by
      rw [show o + m + k * L = o + k * L + m by omega, Nat.add_mod_right]
    have pL : ∀ o, N (o + L) = N o := fun o => by
      show sumK (fun k => if (o + L + k * L) % m = c + 1 then 1 else 0) R = sumK (fun k => if (o + k * L) % m = c + 1 then 1 else 0) R
      have e1 := sumK_left (fun k => if (o + k * L) % m = c + 1 then (1 : Int) else 0) R
      have e2 : sumK (fun k => if (o + k * L) % m = c + 1 then (1 : Int) else 0) (R + 1) = sumK (fun k => if (o + k * L) % m = c + 1 then 1 else 0) R + (if (o + R * L) % m = c + 1 then 1 else 0) := rfl
      have e3 : (o + R * L) % m = (o + 0 * L) % m := by
        obtain ⟨q, hq⟩ := hLR
        rw [Nat.mul_comm R L, hq, Nat.add_mul_mod_self_left, Nat.zero_mul, Nat.add_zero]
      rw [e3] at e2
      have e4 : sumK (fun k => if (o + (k + 1) * L) % m = c + 1 then (1 : Int) else 0) R = sumK (fun k => if (o + L + k * L) % m = c + 1 then 1 else 0) R := sumK_congr fun k _ => by
        rw [show o + (k + 1) * L = o + L + k * L by rw [Nat.add_mul, Nat.one_mul]; omega]
      omega
    have pd := per_gcd m L pm pL
    obtain ⟨q, hq⟩ := hf
    have pf : N (o0 + f) = N o0 := by
      rw [hq]
      exact per_mul pd q o0
    have cls : ∀ (l : List Str) (o : Nat), cf x m (c + 1) l (o + 1) = cf x m c l o := fun l => by
      induction l with
      | nil => intro o; rfl
      | cons y l ih =>
        intro o
        show (if y = x ∧ (o + 1) % m = c + 1 then 1 else 0) + cf x m (c + 1) l (o + 1 + 1) = (if y = x ∧ o % m = c then 1 else 0) + cf x m c l (o + 1)
        rw [ih (o + 1)]
        congr 1
        have hiff : (o + 1) % m = c + 1 ↔ o % m = c := by
          have h1 := Nat.div_add_mod o m
          have h2 := Nat.mod_lt o hm
          by_cases h3 : o % m + 1 = m
          · have e : (o + 1) % m = 0 := by
              rw [show o + 1 = m * (o / m + 1) by rw [Nat.mul_add, Nat.mul_one]; omega, Nat.mul_mod_right]
            omega
          · have e : (o + 1) % m = o % m + 1 := by
              rw [Nat.add_mod, Nat.mod_eq_of_lt (show 1 < m by omega), Nat.mod_eq_of_lt (by omega)]
            omega
        by_cases h : y = x
        · by_cases h4 : o % m = c
          · rw [if_pos ⟨h, hiff.mpr h4⟩, if_pos ⟨h, h4⟩]
          · rw [if_neg (fun z => h4 (hiff.mp z.2)), if_neg (fun z => h4 z.2)]
        · rw [if_neg (fun z => h z.1), if_neg (fun z => h z.1)]
    have e5 : sumK (fun k => cf x m c (List.replicate f x) (o0 + k * L)) R = sumK (fun k => cf x m (c + 1) (List.replicate f x) (o0 + k * L) + ((if (o0 + f + k * L) % m = c + 1 then 1 else 0) + (-1) * (if (o0 + k * L) % m = c + 1 then 1 else 0))) R := sumK_congr fun k _ => by
      rw [← cls, cf_next, show o0 + k * L + f = o0 + f + k * L by omega]
      have a1 : (if x = x ∧ (o0 + k * L) % m = c + 1 then (1 : Int) else 0) = if (o0 + k * L) % m = c + 1 then 1 else 0 := by
        by_cases h : (o0 + k * L) % m = c + 1
        · rw [if_pos h, if_pos ⟨rfl, h⟩]
        · rw [if_neg h, if_neg (fun z => h z.2)]
      have a2 : (if x = x ∧ (o0 + f + k * L) % m = c + 1 then (1 : Int) else 0) = if (o0 + f + k * L) % m = c + 1 then 1 else 0 := by
        by_cases h : (o0 + f + k * L) % m = c + 1
        · rw [if_pos h, if_pos ⟨rfl, h⟩]
        · rw [if_neg h, if_neg (fun z => h z.2)]
      rw [a1, a2]
      omega
    rw [e5, sumK_plus, sumK_plus, sumK_mul]
    have : N (o0 + f) = N o0 := pf
    show _ = _ + (N (o0 + f) + (-1) * N o0)
    omega
  induction c with
  | zero => rfl
  | succ c ih => rw [step c hc, ih (by omega)]
theorem cf_none {n : Str} {m c : Nat} : ∀ (l : List Str) (o : Nat), n ∉ l → cf n m c l o = 0
  | [], _, _ => rfl
  | x :: l, o, h => by
    have h1 : x ≠ n := fun e => h (e ▸ List.mem_cons_self ..)
    have h2 : n ∉ l := fun e => h (List.mem_cons_of_mem _ e)
    show (if x = n ∧ o % m = c then 1 else 0) + cf n m c l (o + 1) = 0
    rw [if_neg (fun z => h1 z.1), cf_none l (o + 1) h2]
    rfl
end Ev

/-! ## Going round by steps of p -/
namespace Ev
open PySem
theorem orb_back {L p : Nat} (hL : 0 < L) : L ∣ L / Nat.gcd p L * p := by
  have hg := Nat.gcd_pos_of_pos_right p hL
  obtain ⟨a, ha⟩ := Nat.gcd_dvd_left p L
  obtain ⟨b, hb⟩ := Nat.gcd_dvd_right p L
  generalize Nat.gcd p L = g at *
  refine ⟨a, ?_⟩
  rw [hb, Nat.mul_div_cancel_left _ hg, ha, Nat.mul_comm g a, ← Nat.mul_assoc, Nat.mul_comm (g * b) a, Nat.mul_comm b a, Nat.mul_assoc, Nat.mul_comm b g]
theorem orb_ne {L p k : Nat} (hL : 0 < L) (h0 : 0 < k) (hk : k < L / Nat.gcd p L) : ¬ L ∣ k * p := by
  intro h
  have hg := Nat.gcd_pos_of_pos_right p hL
  have cop := Nat.coprime_div_gcd_div_gcd (m := p) (n := L) hg
  have e1 : Nat.gcd p L * (L / Nat.gcd p L) = L := Nat.mul_div_cancel' (Nat.gcd_dvd_right p L)
  have e2 : Nat.gcd p L * (p / Nat.gcd p L) = p := Nat.mul_div_cancel' (Nat.gcd_dvd_left p L)
  have h2 : Nat.gcd p L * (L / Nat.gcd p L) ∣ Nat.gcd p L * (k * (p / Nat.gcd p L)) := by
    rw [e1, ← Nat.mul_assoc, Nat.mul_comm _ k, Nat.mul_assoc, e2]
    exact h
  have h3 := Nat.dvd_of_mul_dvd_mul_left hg h2
  have h4 := Nat.Coprime.dvd_of_dvd_mul_right (Nat.Coprime.symm cop) h3
  have := Nat.le_of_dvd h0 h4
  omega
theorem orb_count {L p s i : Nat} (hL : 0 < L) (hi : i < L) : sumK (fun k => if (s + k * p) % L = i then 1 else 0) (L / Nat.gcd p L) = if i % Nat.gcd p L = s % Nat.gcd p L then 1 else 0 := by
  have hg := Nat.gcd_pos_of_pos_right p hL
  by_cases h : i % Nat.gcd p L = s % Nat.gcd p L
  · rw [if_pos h]
    let N : Nat → Int := fun o => sumK (fun k => if (o + k * p) % L = i then 1 else 0) (L / Nat.gcd p L)
    have pL : ∀ o, N (o + L) = N o := fun o => sumK_congr fun k _ => by
      rw [show o + L + k * p = o + k * p + L by omega, Nat.add_mod_right]
    have pp : ∀ o, N (o + p) = N o := fun o => by
      show sumK (fun k => if (o + p + k * p) % L = i then 1 else 0) (L / Nat.gcd p L) = sumK (fun k => if (o + k * p) % L = i then 1 else 0) (L / Nat.gcd p L)
      have e1 := sumK_left (fun k => if (o + k * p) % L = i then (1 : Int) else 0) (L / Nat.gcd p L)
      have e2 : sumK (fun k => if (o + k * p) % L = i then (1 : Int) else 0) (L / Nat.gcd p L + 1) = sumK (fun k => if (o + k * p) % L = i then 1 else 0) (L / Nat.gcd p L) + (if (o + L / Nat.gcd p L * p) % L = i then 1 else 0) := rfl
      have e3 : (o + L / Nat.gcd p L * p) % L = (o + 0 * p) % L := by
        obtain ⟨q, hq⟩ := orb_back (p := p) hL
        rw [hq, Nat.add_mul_mod_self_left, Nat.zero_mul, Nat.add_zero]
      rw [e3] at e2
      have e4 : sumK (fun k => if (o + (k + 1) * p) % L = i then (1 : Int) else 0) (L / Nat.gcd p L) = sumK (fun k => if (o + p + k * p) % L = i then 1 else 0) (L / Nat.gcd p L) := sumK_congr fun k _ => by
        rw [show o + (k + 1) * p = o + p + k * p by rw [Nat.add_mul, Nat.one_mul]; omega]
      omega
    have pg := per_gcd p L pp pL
    have e1 : N s = N (s % Nat.gcd p L) := by
      have z := per_mul pg (s / Nat.gcd p L) (s % Nat.gcd p L)
      rw [Nat.mod_add_div] at z
      exact z
    have e2 : N i = N (i % Nat.gcd p L) := by
      have z := per_mul pg (i / Nat.gcd p L) (i % Nat.gcd p L)
      rw [Nat.mod_add_div] at z
      exact z
    show N s = 1
    rw [e1, ← h, ← e2]
    have hn : 0 < L / Nat.gcd p L := Nat.div_pos (Nat.gcd_le_right _ hL) hg
    obtain ⟨n, hn'⟩ : ∃ n, L / Nat.gcd p L = n + 1 := ⟨L / Nat.gcd p L - 1, by omega⟩
    show sumK (fun k => if (i + k * p) % L = i then 1 else 0) (L / Nat.gcd p L) = 1
    rw [hn', sumK_left, Nat.zero_mul, Nat.add_zero, Nat.mod_eq_of_lt hi, if_pos rfl, sumK_congr (h := fun _ => 0) (fun k hk => if_neg fun z => ?_), sumK_zero]
    · rfl
    · refine orb_ne (p := p) (k := k + 1) hL (by omega) (by omega) ?_
      have z2 := Nat.div_add_mod (i + (k + 1) * p) L
      rw [z] at z2
      exact ⟨(i + (k + 1) * p) / L, by omega⟩
  · rw [if_neg h, sumK_congr (h := fun _ => 0) (fun k _ => if_neg fun z => h ?_), sumK_zero]
    obtain ⟨q, hq⟩ := Nat.gcd_dvd_left p L
    have e : (s + k * p) % L % Nat.gcd p L = s % Nat.gcd p L := by
      rw [Nat.mod_mod_of_dvd _ (Nat.gcd_dvd_right p L)]
      have : Nat.gcd p L ∣ k * p := Nat.dvd_trans (Nat.gcd_dvd_left p L) (Nat.dvd_mul_left _ _)
      obtain ⟨u, hu⟩ := this
      rw [hu, Nat.add_mul_mod_self_left]
    rw [← e, z]
theorem cf_idx {n : Str} {m c : Nat} (w : List Str) : ∀ k, k ≤ w.length → cf n m c (w.take k) 0 = sumK (fun i => if w[i]? = some n ∧ i % m = c then 1 else 0) k
  | 0, _ => by
    rw [List.take_zero]
    rfl
  | k + 1, h => by
    have e := List.getElem?_eq_getElem (show k < w.length by omega)
    rw [List.take_add_one, e, cf_app, cf_idx w k (by omega), List.length_take, Nat.min_eq_left (by omega)]
    show _ + ((if w[k] = n ∧ (0 + k) % m = c then 1 else 0) + 0) = _ + (if w[k]? = some n ∧ k % m = c then 1 else 0)
    rw [Nat.zero_add, e]
    by_cases h1 : w[k] = n ∧ k % m = c
    · rw [if_pos h1, if_pos ⟨by rw [h1.1], h1.2⟩]
      omega
    · rw [if_neg h1, if_neg (fun z => h1 ⟨Option.some.inj z.1, z.2⟩)]
      omega
/-- the looks from s on, by steps of p, till they come back, see the class of s -/
theorem seen_count {n : Str} {w : List Str} {p s : Nat} (hL : 0 < w.length) : sumK (fun k => if w[(s + k * p) % w.length]? = some n then 1 else 0) (w.length / Nat.gcd p w.length) = cf n (Nat.gcd p w.length) (s % Nat.gcd p w.length) w 0 := by
  have e0 := cf_idx (n := n) (m := Nat.gcd p w.length) (c := s % Nat.gcd p w.length) w w.length (Nat.le_refl _)
  rw [List.take_length] at e0
  rw [e0, sumK_congr (h := fun k => sumK (fun i => if w[i]? = some n ∧ (s + k * p) % w.length = i then 1 else 0) w.length) fun k _ => ?_, sumK_swap]
  · refine sumK_congr fun i hi => ?_
    have oc := orb_count (p := p) (s := s) hL hi
    by_cases h : w[i]? = some n
    · rw [sumK_congr (h := fun k => if (s + k * p) % w.length = i then 1 else 0) fun k _ => ?_, oc]
      · by_cases h2 : i % Nat.gcd p w.length = s % Nat.gcd p w.length
        · rw [if_pos h2, if_pos ⟨h, h2⟩]
        · rw [if_neg h2, if_neg (fun z => h2 z.2)]
      · by_cases h3 : (s + k * p) % w.length = i
        · rw [if_pos h3, if_pos ⟨h, h3⟩]
        · rw [if_neg h3, if_neg (fun z => h3 z.2)]
    · rw [if_neg (fun z => h z.1), sumK_congr (h := fun _ => 0) fun k _ => if_neg (fun z => h z.1), sumK_zero]
  · have hlt := Nat.mod_lt (s + k * p) hL
    have e : ∀ i, i < w.length → (if w[i]? = some n ∧ (s + k * p) % w.length = i then (1 : Int) else 0) = if w[(s + k * p) % w.length]? = some n ∧ (s + k * p) % w.length = i then 1 else 0 := fun i _ => by
      by_cases h : (s + k * p) % w.length = i
      · rw [h]
      · rw [if_neg (fun z => h z.2), if_neg (fun z => h z.2)]
    rw [sumK_congr e, sumK_one]
    by_cases h : w[(s + k * p) % w.length]? = some n
    · rw [if_pos h, if_pos ⟨h, hlt⟩]
    · rw [if_neg h, if_neg (fun z => h z.1)]
end Ev

/-! ## Branches that join -/
namespace Ev
open PySem PySem.Spec PyProof.Rows L2
theorem s_join {a rest : TS} {D : Ends} {σ : L2.St} {H : Hp} (J : L2.St → Hp → Prop) (k : ∀ σ H, J σ H → rest D σ H) (h : (∀ σ H, J σ H → rest D σ H) → a { D with nx := rest D } σ H) : tSeq a rest D σ H := h k
theorem back_none {H H' : Hp} {r : Addr} (s : Same H H') (h : H' r = none) : H r = none := by
  cases e : H r with
  | none => rfl
  | some o =>
    rw [s _ _ e] at h
    cases h
theorem bool_fits (c : Bool) : (PyData.bool c).showable = true ∧ (PyData.bool c).depth ≤ 64 ∧ (PyData.bool c).shown.length ≤ sizeLine := by
  rw [sizeLine_eq]
  cases c <;> exact ⟨by decide +kernel, by decide +kernel, by decide +kernel⟩
theorem rg_nat {a b : Nat} {v : V} (h : v ∈ rgV ((a : Nat) : Int) ((b : Nat) : Int)) : ∃ k : Nat, v = .int (k : Nat) ∧ a ≤ k ∧ k < b := by
  unfold rgV at h
  obtain ⟨i, hi, rfl⟩ := List.mem_map.mp h
  have hi := List.mem_range.mp hi
  exact ⟨a + i, by rw [Int.natCast_add], by omega, by omega⟩
/-- how long the text of a program is -/
theorem prog_szA {B n : Nat} {is : List It} (h : ∀ i ∈ is, Okp B n i) (hm : Its.nm is) (hn : Its.ni is ≤ 96) (h6 : n ≤ 6) :
    (PyData.tuple (is.map It.d)).showable = true ∧ (PyData.tuple (is.map It.d)).depth ≤ 64 ∧ (PyData.tuple (is.map It.d)).shown.length ≤ sizeLine := by
  obtain ⟨h1, h2, h3, h4⟩ := Its.szd n B is h hm
  refine Sz.fits (e := 64) (w := 16000) ⟨by rw [PyData.showable]; exact h1, by rw [PyData.leavesShort]; exact h2, ?_, ?_⟩ (by decide) (by decide)
  · rw [PyData.depth]
    omega
  · rw [PyData.weight]
    omega
end Ev

/-! ## Which items are valid -/
namespace Ev
open PySem PySem.Spec PyProof.Rows L2
/-- an item with loops at most n deep -/
def Vi : Nat → It → Prop
  | _, .line x t => nameD (.str x) = true ∧ 1 ≤ t ∧ t ≤ 1000000000000
  | 0, .loop _ _ => False
  | n + 1, .loop r is => 1 ≤ r ∧ r ≤ 1000000000000000000 ∧ 1 ≤ is.length ∧ is.length ≤ 20 ∧ ∀ i ∈ is, Vi n i
theorem vi_line {n : Nat} {x : Str} {t : Int} : Vi n (.line x t) ↔ nameD (.str x) = true ∧ 1 ≤ t ∧ t ≤ 1000000000000 := by
  cases n <;> exact Iff.rfl
theorem isStr_d (x y : Str) : isStrD x (.str y) = decide (y = x) := by
  first
    | rfl
    | (unfold isStrD; rfl)
    | (unfold isStrD; by_cases h : y = x <;> simp [h])
theorem ni_app : ∀ is js : List It, Its.ni (is ++ js) = Its.ni is + Its.ni js
  | [], js => by
    rw [List.nil_append, Its.ni, Nat.zero_add]
  | i :: is, js => by
    rw [List.cons_append, Its.ni, Its.ni, ni_app is js, Nat.add_assoc]
theorem fold_it {f : PyData → Int → Option Int} (hf : ∀ i room, (It.ni i : Int) ≤ room → (f (It.d i) room = some (room - It.ni i))) : ∀ (is : List It) (room : Int), (Its.ni is : Int) ≤ room → foldR f (is.map It.d) room = some (room - Its.ni is)
  | [], room, _ => by
    rw [List.map_nil, foldR, Its.ni]
    simp
  | i :: is, room, h => by
    rw [Its.ni] at h ⊢
    rw [List.map_cons, foldR, hf i room (by omega)]
    show foldR f (is.map It.d) (room - It.ni i) = _
    rw [fold_it hf is _ (by omega)]
    congr 1
    omega
theorem fold_it' {f : PyData → Int → Option Int} : ∀ (is : List It) (room : Int), (∀ i ∈ is, ∀ room, (It.ni i : Int) ≤ room → (f (It.d i) room = some (room - It.ni i))) → (Its.ni is : Int) ≤ room → foldR f (is.map It.d) room = some (room - Its.ni is)
  | [], room, _, _ => by
    rw [List.map_nil, foldR, Its.ni]
    simp
  | i :: is, room, hf, h => by
    rw [Its.ni] at h ⊢
    rw [List.map_cons, foldR, hf i (List.mem_cons_self ..) room (by omega)]
    show foldR f (is.map It.d) (room - It.ni i) = _
    rw [fold_it' is _ (fun j hj => hf j (List.mem_cons_of_mem _ hj)) (by omega)]
    congr 1
    omega
theorem itemsW_it {rec : PyData → Int → Option Int} {dep : Nat} {is : List It} {room : Int} (h1 : 1 ≤ is.length) (h2 : is.length ≤ 20) (hf : ∀ i ∈ is, ∀ room, (It.ni i : Int) ≤ room → (itemR rec dep (It.d i) room = some (room - It.ni i))) (hn : (Its.ni is : Int) ≤ room) :
    itemsW rec dep (.tuple (is.map It.d)) room = some (room - Its.ni is) := by
  unfold itemsW
  dsimp only
  rw [List.length_map, decide_eq_true (by omega), decide_eq_true (by omega), Bool.true_and, if_pos rfl]
  exact fold_it' is room hf hn
theorem itemR_line {rec : PyData → Int → Option Int} {dep : Nat} {x : Str} {t room : Int} (h : nameD (.str x) = true ∧ 1 ≤ t ∧ t ≤ 1000000000000) (hr : 1 ≤ room) : itemR rec dep (It.d (.line x t)) room = some (room - 1) := by
  unfold itemR
  rw [if_neg (by omega), It.d]
  dsimp only
  rw [isStr_d, decide_eq_true rfl, if_pos rfl, h.1]
  have e : intD 1 1000000000000 (.int t) = true := by
    show (decide ((1 : Int) ≤ t) && decide (t ≤ 1000000000000)) = true
    rw [decide_eq_true h.2.1, decide_eq_true h.2.2]
    rfl
  rw [e]
  rfl
theorem itemR_it : ∀ (n : Nat) (i : It), Vi n i → ∀ room, (It.ni i : Int) ≤ room → (itemR (recR n) n (It.d i) room = some (room - It.ni i))
  | n, .line x t, h, room, hr => by
    rw [It.ni] at hr ⊢
    exact itemR_line (vi_line.mp h) (by omega)
  | 0, .loop _ _, h, _, _ => h.elim
  | n + 1, .loop r is, h, room, hr => by
    obtain ⟨h1, h2, h3, h4, h5⟩ : 1 ≤ r ∧ r ≤ 1000000000000000000 ∧ 1 ≤ is.length ∧ is.length ≤ 20 ∧ ∀ i ∈ is, Vi n i := h
    rw [It.ni] at hr ⊢
    unfold itemR
    rw [if_neg (by omega), It.d, Its.d_map]
    dsimp only
    rw [isStr_d, isStr_d, decide_eq_false (by decide), decide_eq_true rfl, if_neg Bool.false_ne_true]
    have e : intD 1 1000000000000000000 (.int r) = true := by
      show (decide ((1 : Int) ≤ r) && decide (r ≤ 1000000000000000000)) = true
      rw [decide_eq_true h1, decide_eq_true h2]
      rfl
    rw [e, decide_eq_false (Nat.succ_ne_zero n), if_neg (by decide)]
    show itemsR n _ _ = _
    rw [itemsR_eq, itemsW_it h3 h4 (fun i hi => itemR_it n i (h5 i hi)) (by omega)]
    congr 1
    omega
/-- a program -/
structure Vp (is : List It) : Prop where
  ne : 1 ≤ is.length
  le : is.length ≤ 20
  vi : ∀ i ∈ is, Vi 5 i
  ni : Its.ni is ≤ 60
theorem Vp.isP {is : List It} (h : Vp is) : (itemsR 5 (.tuple (is.map It.d)) 60).isSome = true := by
  have z := h.ni
  rw [itemsR_eq, itemsW_it h.ne h.le (fun i hi => itemR_it 5 i (h.vi i hi)) (by omega)]
  rfl
theorem vi_ps : ∀ (n : Nat) (i : It), Vi n i → It.ps i
  | n, .line x t, h => by
    rw [It.ps]
    exact (vi_line.mp h).2.1
  | 0, .loop r is, h => h.elim
  | n + 1, .loop r is, h => by
    obtain ⟨h1, h2, h3, h4, h5⟩ : 1 ≤ r ∧ r ≤ 1000000000000000000 ∧ 1 ≤ is.length ∧ is.length ≤ 20 ∧ ∀ i ∈ is, Vi n i := h
    rw [It.ps]
    exact ⟨h1, (fun e => by rw [e] at h3; exact absurd h3 (by decide)), ps_of fun i hi => vi_ps n i (h5 i hi)⟩
theorem vi_okp : ∀ (n : Nat) (i : It), Vi n i → Okp 64 n i
  | n, .line x t, h => by
    have h := vi_line.mp h
    exact okp_line.mpr ⟨by omega, by omega⟩
  | 0, .loop r is, h => h.elim
  | n + 1, .loop r is, h => by
    obtain ⟨h1, h2, h3, h4, h5⟩ : 1 ≤ r ∧ r ≤ 1000000000000000000 ∧ 1 ≤ is.length ∧ is.length ≤ 20 ∧ ∀ i ∈ is, Vi n i := h
    exact ⟨by omega, by omega, fun i hi => vi_okp n i (h5 i hi)⟩
theorem nameD_short {x : Str} (h : nameD (.str x) = true) : x.length ≤ 8 := by
  unfold nameD at h
  rw [Bool.and_eq_true, Bool.and_eq_true] at h
  exact of_decide_eq_true h.2.1
mutual
theorem It.okS (n : Nat) : ∀ i : It, Vi n i → Ev.okS (It.d i) = true
  | .line x t, h => by
    have h1 := nameD_short (vi_line.mp h).1
    rw [It.d]
    have e1 : Ev.okS (.str x) = true := by
      rw [Ev.okS]
      exact decide_eq_true (by omega)
    have e2 : Ev.okS (.str "line") = true := by decide +kernel
    have e3 : Ev.okS (.int t) = true := by
      rw [Ev.okS]
      all_goals (intros; contradiction)
    rw [Ev.okS, okSs, okSs, okSs, okSs, e1, e2, e3]
    rfl
  | .loop r is, h => by
    cases n with
    | zero => exact h.elim
    | succ n =>
      obtain ⟨h1, h2, h3, h4, h5⟩ : 1 ≤ r ∧ r ≤ 1000000000000000000 ∧ 1 ≤ is.length ∧ is.length ≤ 20 ∧ ∀ i ∈ is, Vi n i := h
      have e := Its.okS n is h5
      rw [It.d]
      have e2 : Ev.okS (.str "loop") = true := by decide +kernel
      have e3 : Ev.okS (.int r) = true := by
        rw [Ev.okS]
        all_goals (intros; contradiction)
      have e4 : Ev.okS (.tuple (Its.d is)) = true := by
        rw [Ev.okS]
        exact e
      rw [Ev.okS, okSs, okSs, okSs, okSs, e2, e3, e4]
      rfl
theorem Its.okS (n : Nat) : ∀ is : List It, (∀ i ∈ is, Vi n i) → okSs (Its.d is) = true
  | [], _ => by rw [Its.d, okSs]
  | i :: is, h => by
    rw [Its.d, okSs, It.okS n i (h i (List.mem_cons_self ..)), Its.okS n is fun j hj => h j (List.mem_cons_of_mem _ hj)]
    rfl
end
theorem Vp.okS {is : List It} (h : Vp is) : Ev.okS (.tuple (is.map It.d)) = true := by
  rw [Ev.okS, ← Its.d_map]
  exact Its.okS 5 is h.vi
end Ev

/-! ## Methods of own classes -/
namespace Ev
open PySem PySem.Spec PyProof.Rows L2
/-- a method of a class, ready to be called -/
structure MCal (P : Program) (w : World) (K : PySem.W.Frag) (mg : Str → Option Value) (base : Heap) (k : Nat) (C : Addr) (m : Str) (ps : List Str) (sp : Sp) : Prop where
  ex : ∃ (f : Addr) (fd : FuncData), FnOk P w K mg base CX0 k f fd ps sp ∧ Binds K fd ps [] ∧ Meth K C m f
/-- a method as it is written -/
structure MDef (K : PySem.W.Frag) (C : Addr) (m q : Str) (st : Stmt) (ps : List Str) : Prop where
  ex : ∃ (f : Addr) (fd : FuncData), Fun K m q st f fd ∧ Binds K fd ps [] ∧ Meth K C m f
section
variable {P : Program} {w : World} {K : PySem.W.Frag} {mg : Str → Option Value} {base : Heap} {x q : Str} {st : Stmt} {ps N : List Str} {sp : Sp} {k j : Nat} {C : Addr}
theorem MCal.up (M : MCal P w K mg base j C x ps sp) (h : j ≤ k) : MCal P w K mg base k C x ps sp := by
  obtain ⟨f, fd, F, b, m⟩ := M.ex
  exact ⟨f, fd, ⟨F.len, fun A o s H args us vs Q E hr => F.run A o s H args us vs Q E (hr.mono h)⟩, b, m⟩
theorem MDef.ok (D : MDef K C x q st ps) (S : FnScope N ps (defScope st)) (len : ∀ vs H Q E, sp vs H Q E → vs.length = ps.length)
    (hbody : ∀ (f : Addr) (cdv : Value) (A : Around) (outer : List Env) (s : Shared) (H : Hp) (vs : List V) (Q : VK) (E : XK),
      Room k (A.deeper (envOfC q (defScope st) s.heap.objs.size f cdv)) → sp vs H Q E →
      ∃ t, PSs (cxOf CX0 P w K mg base N q (defScope st) f cdv A outer s H E).nox (defBody st) t ∧
        t { nx := fun _ H' => Q .non H', rt := Q } (start N vs) H) : MCal P w K mg base (k + 1) C x ps sp := by
  obtain ⟨f, fd, F, b, m⟩ := D.ex
  exact ⟨f, fd, F.ok S len (hbody f), b, m⟩
end
section
variable {X : Cx} {k : Nat} {C : Addr} {ps : List Str} {sp : Sp} {m : Str} {pos apos : Pos} {e o : Expr} {es : List Expr} {ta : TE} {t : TA}
theorem pmeth {pl : Sem Bool} (M : MCal X.prog X.w X.K X.mg X.base k C m ps sp) (c : Cls X.K C) (hr : Room k X.A) (ho : PE X o ta) (ha : PA X (e :: es) t)
    (h1 : starEach (e :: es) X.env = (false, eval e X.env) :: starEach es X.env := by rfl) (h2 : (backTo pos (starEach es X.env)).any (·.1) = false := by rfl)
    (h3 : eval (.Call (.Attribute o m apos) (e :: es) [] pos) X.env = (do
      let v ← eval o X.env
      standAt apos.atName
      let (f, first) ← holding [v] (getMethod v m pl)
      callWith pos f first (backTo pos (starEach (e :: es) X.env)) (backToKw pos (keywordEach [] X.env))) := by rfl) : PE X (.Call (.Attribute o m apos) (e :: es) [] pos) (tMeth C m sp [] E0 ta t) := by
  obtain ⟨f, fd, F, hb, hm⟩ := M.ex
  exact pe_meth (pl := pl) ho c hm F hr hb .nil pass0 ha h1 h2 h3
theorem pmeth0 {pl : Sem Bool} (M : MCal X.prog X.w X.K X.mg X.base k C m ps sp) (c : Cls X.K C) (hr : Room k X.A) (ho : PE X o ta)
    (h3 : eval (.Call (.Attribute o m apos) [] [] pos) X.env = (do
      let v ← eval o X.env
      standAt apos.atName
      let (f, first) ← holding [v] (getMethod v m pl)
      callWith pos f first (backTo pos (starEach [] X.env)) (backToKw pos (keywordEach [] X.env))) := by rfl) : PE X (.Call (.Attribute o m apos) [] [] pos) (tMeth C m sp [] E0 ta tNil) := by
  obtain ⟨f, fd, F, hb, hm⟩ := M.ex
  exact pe_meth0 (pl := pl) ho c hm F hr hb .nil pass0 h3
/-- a class whose __init__ keeps a promise -/
structure KCal (P : Program) (w : World) (K : PySem.W.Frag) (mg : Str → Option Value) (base : Heap) (k : Nat) (C : Addr) (x : Str) (ps : List Str) (sp : Sp) : Prop where
  ex : ∃ (f : Addr) (fd : FuncData), FnOk P w K mg base CX0 k f fd ps sp ∧ Binds K fd ps [] ∧ Mk K C f ∧ mg x = some (.ref C)
theorem pmake {x : Str} {p : Pos} (M : KCal X.prog X.w X.K X.mg X.base k C x ps sp) (hr : Room (k + 1) X.A) (hg : Gl X x) (ha : PA X (e :: es) t)
    (h0 : (x == ("__debug__" : Str)) = false := by decide) (h1 : starEach (e :: es) X.env = (false, eval e X.env) :: starEach es X.env := by rfl) (h2 : (backTo pos (starEach es X.env)).any (·.1) = false := by rfl) :
    PE X (.Call (.Name x p) (e :: es) [] pos) (tMake C sp [] E0 t) := by
  obtain ⟨f, fd, F, hb, mk, hm⟩ := M.ex
  exact pe_make mk F hr hg hm hb .nil pass0 ha h0 h1 h2
end
/-! ### tuples stay, while objects and lists change -/
def Kj (H H' : Hp) : Prop := ∀ b o, H b = some o → (∀ xs, o ≠ .lst xs) → (∀ C dx fs, o ≠ .ins C dx fs) → H' b = some o
section
variable {K : PySem.W.Frag} {H H' H'' : Hp}
theorem Kj.of (s : Same H H') : Kj H H' := fun b o e _ _ => s b o e
theorem Kj.kt (s : Kt H H') : Kj H H' := fun b o e n _ => s b o e n
theorem Kj.trans (a : Kj H H') (b : Kj H' H'') : Kj H H'' := fun x o e n m => b x o (a x o e n m) n m
theorem Kj.putL {l : Addr} {xs : List V} {o : HO} (h : H l = some (.lst xs)) : Kj H (upd H l o) := .kt (Kt.put h)
theorem Kj.putI {p C dx : Addr} {fs : List (Str × V)} {o : HO} (h : H p = some (.ins C dx fs)) : Kj H (upd H p o) := fun b u e _ m => by
  have z : b ≠ p := fun z => by
    rw [z, h] at e
    cases e
    exact m _ _ _ rfl
  rw [upd_ne z]
  exact e
mutual
theorem Da.kj (k : Kj H H') : ∀ {v : V} {d : PyData}, tupD d = true → Da K H v d → Da K H' v d
  | _, _, _, .non => .non
  | _, _, _, .bl b => .bl b
  | _, _, _, .int i => .int i
  | _, _, _, .str x => .str x
  | _, _, n, .lst _ _ => by
    rw [tupD] at n
    cases n
  | _, _, n, .tup h t => by
    rw [tupD] at n
    refine .tup ?_ (DaAll.kj k n t)
    rcases h with (e | ⟨o, e⟩) | e
    · exact .inl (.inl (k _ _ e (fun xs z => by cases z) (fun _ _ _ z => by cases z)))
    · exact .inl (.inr ⟨o, k _ _ e (fun xs z => by cases z) (fun _ _ _ z => by cases z)⟩)
    · exact .inr e
  | _, _, n, .dic _ _ => by
    rw [tupD] at n
    cases n
theorem DaAll.kj (k : Kj H H') : ∀ {vs : List V} {ds : List PyData}, tupDs ds = true → DaAll K H vs ds → DaAll K H' vs ds
  | _, _, _, .nil => .nil
  | _, _, n, .cons h t => by
    rw [tupDs, Bool.and_eq_true] at n
    exact .cons (Da.kj k n.1 h) (DaAll.kj k n.2 t)
end
end
theorem none_of' {H H' : Hp} {p : Addr} (s : Same H H') (n : H' p = none) : H p = none := by
  cases e : H p with
  | none => rfl
  | some o =>
    rw [s _ _ e] at n
    cases n
/-- all but two stand -/
def Bu2 (p e : Addr) (H H' : Hp) : Prop := ∀ b o, b ≠ p → b ≠ e → H b = some o → H' b = some o
theorem Bu2.refl {p e : Addr} {H : Hp} : Bu2 p e H H := fun _ _ _ _ h => h
theorem Bu2.trans {p e : Addr} {H H1 H2 : Hp} (a : Bu2 p e H H1) (b : Bu2 p e H1 H2) : Bu2 p e H H2 := fun x o n m h => b x o n m (a x o n m h)
theorem Bu2.of {p e : Addr} {H H' : Hp} (s : Same H H') : Bu2 p e H H' := fun b o _ _ h => s b o h
theorem Bu2.put1 {p e : Addr} {H : Hp} {o : HO} : Bu2 p e H (upd H p o) := fun b _ n _ h => by
  rw [upd_ne n]
  exact h
theorem Bu2.put2 {p e : Addr} {H : Hp} {o : HO} : Bu2 p e H (upd H e o) := fun b _ _ n h => by
  rw [upd_ne n]
  exact h
end Ev

/-! ## Bench, as long as all goes well (without length and totals) -/
namespace Ev
open PySem PySem.Spec PyProof.Rows L2
abbrev sB (i : Nat) : Stmt := inClass (topS 30) i
def flB (cur : V) (e : Addr) : List (Str × V) := [("current", cur), ("earlier", .ref e)]
theorem flB_cur (cur : V) (e : Addr) : (flB cur e).lookup ("current" : Str) = some cur := by rfl
theorem flB_ear (cur : V) (e : Addr) : (flB cur e).lookup ("earlier" : Str) = some (V.ref e) := by rfl
theorem flB_put (cur v : V) (e : Addr) : putF "current" v (flB cur e) = flB v e := by rfl
theorem flB_mk (cur : V) (e : Addr) : putF "earlier" (.ref e) (putF "current" cur []) = flB cur e := by rfl
/-- programs as data -/
abbrev pgD (is : List It) : PyData := .tuple (is.map It.d)
theorem hist_tup : ∀ hs : List (List It), tupDs (hs.map pgD) = true
  | [] => by rw [List.map_nil, tupDs]
  | h :: hs => by
    rw [List.map_cons, tupDs, hist_tup hs, prog_tup]
    rfl
/-- a bench stands at p, its list of elder programs at e -/
structure BnAt (K : PySem.W.Frag) (C : Addr) (H : Hp) (p e : Addr) (is : List It) (hs : List (List It)) : Prop where
  ob : ∃ dx cur, H p = some (.ins C dx (flB cur e)) ∧ Da K H cur (pgD is)
  er : ∃ us, H e = some (.lst us) ∧ DaAll K H us (hs.map pgD)
  vp : Vp is
theorem BnAt.ne {K : PySem.W.Frag} {C p e : Addr} {H : Hp} {is : List It} {hs : List (List It)} (h : BnAt K C H p e is hs) : p ≠ e := by
  obtain ⟨dx, cur, h1, _⟩ := h.ob
  obtain ⟨us, h2, _⟩ := h.er
  intro z
  rw [z, h2] at h1
  cases h1
theorem BnAt.same {K : PySem.W.Frag} {C p e : Addr} {H H' : Hp} {is : List It} {hs : List (List It)} (h : BnAt K C H p e is hs) (s : Same H H') : BnAt K C H' p e is hs := by
  obtain ⟨⟨dx, cur, h1, h2⟩, ⟨us, h3, h4⟩, h5⟩ := h
  exact ⟨⟨dx, cur, s _ _ h1, h2.mono s⟩, ⟨us, s _ _ h3, h4.mono s⟩, h5⟩
/-- other things change -/
theorem BnAt.kj {K : PySem.W.Frag} {C p e : Addr} {H H' : Hp} {is : List It} {hs : List (List It)} (h : BnAt K C H p e is hs) (k : Kj H H') (s : ∀ o, (H p = some o → H' p = some o) ∧ (H e = some o → H' e = some o)) : BnAt K C H' p e is hs := by
  obtain ⟨⟨dx, cur, h1, h2⟩, ⟨us, h3, h4⟩, h5⟩ := h
  exact ⟨⟨dx, cur, (s _).1 h1, h2.kj k (prog_tup _)⟩, ⟨us, (s _).2 h3, h4.kj k (hist_tup _)⟩, h5⟩
structure BTx (K : PySem.W.Frag) (mg : Str → Option Value) (C : Addr) : Prop where
  cl : Cls K C
  nC : NoAttr K C "current"
  nE : NoAttr K C "earlier"
def spBI (K : PySem.W.Frag) (C : Addr) : Sp := fun vs H Q _ => ∃ (p dx : Addr) (x : V) (is : List It), vs = [.ref p, x] ∧ H p = some (.ins C dx []) ∧ Da K H x (pgD is) ∧ Vp is ∧ ∀ e H', H e = none → BnAt K C H' p e is [] → Bu p H H' → Q .non H'
def spBP (K : PySem.W.Frag) (C : Addr) : Sp := fun vs H Q _ => ∃ (p e : Addr) (is : List It) (hs : List (List It)), vs = [.ref p] ∧ BnAt K C H p e is hs ∧ ∀ u, Da K H u (pgD is) → Q u H
def spBN (K : PySem.W.Frag) (C : Addr) : Sp := fun vs H Q _ => ∃ (p e : Addr) (is : List It) (hs : List (List It)), vs = [.ref p] ∧ BnAt K C H p e is hs ∧ Q (.int (hs.length : Nat)) H
def spBC (K : PySem.W.Frag) (C : Addr) : Sp := fun vs H Q _ => ∃ (p e : Addr) (is js : List It) (hs : List (List It)) (x : V), vs = [.ref p, x] ∧ BnAt K C H p e is hs ∧ hs.length ≤ 100000 ∧ Da K H x (pgD js) ∧ Vp js ∧ ∀ H', Bu2 p e H H' → BnAt K C H' p e js (hs ++ [is]) → Q .non H'
/-- a item in place of those from a up to b -/
def putI (is : List It) (a b : Nat) (it : It) : List It := is.take a ++ [it] ++ is.drop b
def spBU (K : PySem.W.Frag) (C : Addr) : Sp := fun vs H Q _ => ∃ (p e : Addr) (is : List It) (hs : List (List It)) (a b : Nat) (x : V) (it : It), vs = [.ref p, .int (a : Nat), .int (b : Nat), x] ∧ BnAt K C H p e is hs ∧ hs.length ≤ 100000 ∧ Da K H x (It.d it) ∧ Vp (putI is a b it) ∧
  ∀ H', Bu2 p e H H' → BnAt K C H' p e (putI is a b it) (hs ++ [is]) → Q .non H'
def spBIn (K : PySem.W.Frag) (C : Addr) : Sp := fun vs H Q _ => ∃ (p e : Addr) (is : List It) (hs : List (List It)) (a : Nat) (x : V) (it : It), vs = [.ref p, .int (a : Nat), x] ∧ BnAt K C H p e is hs ∧ hs.length ≤ 100000 ∧ a ≤ is.length ∧ Da K H x (It.d it) ∧ Vp (putI is a a it) ∧
  ∀ H', Bu2 p e H H' → BnAt K C H' p e (putI is a a it) (hs ++ [is]) → Q .non H'
def spBRe (K : PySem.W.Frag) (C : Addr) : Sp := fun vs H Q _ => ∃ (p e : Addr) (is : List It) (hs : List (List It)) (a : Nat) (x : V) (it : It), vs = [.ref p, .int (a : Nat), x] ∧ BnAt K C H p e is hs ∧ hs.length ≤ 100000 ∧ a < is.length ∧ Da K H x (It.d it) ∧ Vp (putI is a (a + 1) it) ∧
  ∀ H', Bu2 p e H H' → BnAt K C H' p e (putI is a (a + 1) it) (hs ++ [is]) → Q .non H'
def spBD (K : PySem.W.Frag) (C : Addr) : Sp := fun vs H Q _ => ∃ (p e : Addr) (is : List It) (hs : List (List It)) (a : Nat) (it : It), vs = [.ref p, .int (a : Nat)] ∧ BnAt K C H p e is hs ∧ hs.length ≤ 100000 ∧ is[a]? = some it ∧ 2 ≤ is.length ∧
  ∀ H' u, Bu2 p e H H' → BnAt K C H' p e (is.eraseIdx a) (hs ++ [is]) → Da K H' u (It.d it) → Q u H'
def spCi (K : PySem.W.Frag) : Sp := fun vs H Q _ => ∃ (i lo hi : Int), vs = [.int i, .int lo, .int hi] ∧ lo ≤ i ∧ i ≤ hi ∧ ∀ H', Same H H' → Q .non H'
theorem scBI : FnScope ["self", "program"] ["self", "program"] (defScope (sB 0)) := ⟨rfl, rfl, rfl, by decide +kernel, rfl, by decide +kernel, by decide +kernel⟩
theorem scBP : FnScope ["self"] ["self"] (defScope (sB 2)) := ⟨rfl, rfl, rfl, by decide +kernel, rfl, by decide +kernel, by decide +kernel⟩
theorem scBN : FnScope ["self"] ["self"] (defScope (sB 10)) := ⟨rfl, rfl, rfl, by decide +kernel, rfl, by decide +kernel, by decide +kernel⟩
theorem scBC : FnScope ["self", "program"] ["self", "program"] (defScope (sB 15)) := ⟨rfl, rfl, rfl, by decide +kernel, rfl, by decide +kernel, by decide +kernel⟩
section
variable {P : Program} {w : World} {K : PySem.W.Frag} {mg : Str → Option Value} {base : Heap} {C : Addr}
theorem ok_bI {f fP : Addr} {fd fdP : FuncData} (T : BTx K mg C) (F : Fun K "__init__" "Bench.__init__" (sB 0) f fd) (GP : FnOk P w K mg base CX0 15 fP fdP ["value"] (spProg K)) (bP : Binds K fdP ["value"] []) (mP : mg "is_program" = some (.ref fP)) (vP : PySem.W.keepIn K (.ref fP) = true) :
    FnOk P w K mg base CX0 16 f fd ["self", "program"] (spBI K C) := by
  refine F.ok scBI (fun vs H Q E h => ?_) (fun cdv A outer s H vs Q E hr h => ?_)
  · obtain ⟨p, dx, x, is, rfl, _⟩ := h
    rfl
  · obtain ⟨p, dx, x, is, rfl, hp, hd, hv, q⟩ := h
    refine ⟨_, pss_cons (ps_if (pt_not (pt_val (pe_call GP hr (by rfl) mP vP bP .nil pass0 (pa_cons (pv 1) pa_nil)))) pss_dead pss_nil)
      (pss_cons (ps_fld (pv 0) (pv 1) rfl) (pss_one (ps_fld (pv 0) (pe_lst pa_nil) rfl))), ?_⟩
    refine ⟨_, rfl, x, pgD is, rfl, hd, hv.okS, fun H1 s1 => ⟨_, rfl, ?_⟩⟩
    rw [hv.isP]
    refine iteF ?_
    have hp1 := s1 _ _ hp
    refine ⟨_, rfl, _, rfl, p, C, dx, [], rfl, hp1, T.cl, T.nC, (by show 0 < 1000; decide), (by show 0 ≤ sizeLine; exact Nat.zero_le _), fun e ne => ?_⟩
    have npe : p ≠ e := fun z => by
      rw [← z, upd_same] at ne
      cases ne
    have n1 : H1 e = none := by
      rw [upd_ne npe.symm] at ne
      exact ne
    refine ⟨_, rfl, p, C, dx, _, rfl, by rw [upd_ne npe, upd_same], T.cl, T.nE, (by show 1 < 1000; decide), ?_⟩
    rw [flB_mk]
    have k1 : Kj H1 (upd H1 p (.ins C dx (putF "current" x []))) := Kj.putI hp1
    have k2 := (k1.trans (Kj.of (same_put (o := .lst []) ne))).trans (Kj.putI (o := .ins C dx (flB x e)) (show (upd (upd H1 p (.ins C dx (putF "current" x []))) e (.lst [])) p = some (.ins C dx (putF "current" x [])) by rw [upd_ne npe, upd_same]))
    refine q e _ (none_of' s1 n1) ⟨⟨dx, x, upd_same, (hd.mono s1).kj k2 (prog_tup _)⟩, ⟨[], by rw [upd_ne npe.symm, upd_same], .nil⟩, hv⟩ fun b o n h => ?_
    rw [upd_ne n, upd_ne (ne_of_none (s1 _ _ h) n1), upd_ne n]
    exact s1 _ _ h
theorem ok_bP (T : BTx K mg C) (D : MDef K C "program" "Bench.program" (sB 2) ["self"]) : MCal P w K mg base 1 C "program" ["self"] (spBP K C) := by
  refine D.ok scBP (fun vs H Q E h => ?_) (fun f cdv A outer s H vs Q E hr h => ?_)
  · obtain ⟨p, e, is, hs, rfl, _⟩ := h
    rfl
  · obtain ⟨p, e, is, hs, rfl, hb, q⟩ := h
    obtain ⟨dx, cur, h1, h2⟩ := hb.ob
    exact ⟨_, pss_one (ps_ret (pe_fld (pv 0) rfl)), _, rfl, p, C, dx, _, _, rfl, h1, T.cl, T.nC, flB_cur _ _, q cur h2⟩
end
end Ev

/-! ## What is_program takes is a program -/
namespace Ev
open PySem PySem.Spec PyProof.Rows L2
theorem intD_int {lo hi : Int} {d : PyData} (h : intD lo hi d = true) : ∃ i : Int, d = .int i ∧ lo ≤ i ∧ i ≤ hi := by
  cases d with
  | int i =>
    have h : (decide (lo ≤ i) && decide (i ≤ hi)) = true := h
    rw [Bool.and_eq_true, decide_eq_true_eq, decide_eq_true_eq] at h
    exact ⟨i, rfl, h⟩
  | _ => cases h
theorem intD_nat {hi : Int} {d : PyData} {lo : Nat} (h : intD (lo : Nat) hi d = true) : ∃ a : Nat, d = .int (a : Nat) ∧ lo ≤ a ∧ (a : Int) ≤ hi := by
  obtain ⟨i, rfl, h1, h2⟩ := intD_int h
  refine ⟨i.toNat, ?_, by omega, by omega⟩
  rw [Int.toNat_of_nonneg (by omega)]
theorem isStrD_eq {x : Str} {d : PyData} (h : isStrD x d = true) : d = .str x := by
  cases d with
  | str y =>
    rw [isStr_d] at h
    rw [of_decide_eq_true h]
  | _ =>
    first
      | (cases h; done)
      | (unfold isStrD at h; cases h; done)
      | (simp [isStrD] at h)
theorem parse_fold {f : PyData → Int → Option Int} {G : It → Prop} (hf : ∀ d r r', f d r = some r' → ∃ i, d = It.d i ∧ G i ∧ r = r' + It.ni i) : ∀ (ds : List PyData) (r r' : Int), foldR f ds r = some r' → ∃ is : List It, ds = is.map It.d ∧ (∀ i ∈ is, G i) ∧ r = r' + Its.ni is
  | [], r, r', h => by
    rw [foldR] at h
    cases h
    refine ⟨[], rfl, nofun, ?_⟩
    rw [Its.ni]
    simp
  | d :: ds, r, r', h => by
    rw [foldR] at h
    cases e : f d r with
    | none =>
      rw [e] at h
      cases h
    | some m =>
      rw [e] at h
      obtain ⟨i, rfl, hi, e1⟩ := hf d r m e
      obtain ⟨is, rfl, his, e2⟩ := parse_fold hf ds m r' h
      refine ⟨i :: is, rfl, fun j hj => ?_, ?_⟩
      · rcases List.mem_cons.mp hj with rfl | hj
        · exact hi
        · exact his j hj
      · rw [Its.ni, Int.natCast_add]
        omega
theorem parse_w {rec : PyData → Int → Option Int} {dep : Nat} {G : It → Prop} {d : PyData} {r r' : Int} (hf : ∀ d r r', itemR rec dep d r = some r' → ∃ i, d = It.d i ∧ G i ∧ r = r' + It.ni i) (h : itemsW rec dep d r = some r') :
    ∃ is : List It, d = .tuple (is.map It.d) ∧ 1 ≤ is.length ∧ is.length ≤ 20 ∧ (∀ i ∈ is, G i) ∧ r = r' + Its.ni is := by
  cases d with
  | tuple ds =>
    have h : (if (decide ((1 : Int) ≤ (ds.length : Nat)) && decide (((ds.length : Nat) : Int) ≤ 20)) = true then foldR (itemR rec dep) ds r else none) = some r' := h
    by_cases c : (decide ((1 : Int) ≤ (ds.length : Nat)) && decide (((ds.length : Nat) : Int) ≤ 20)) = true
    · rw [if_pos c] at h
      rw [Bool.and_eq_true, decide_eq_true_eq, decide_eq_true_eq] at c
      obtain ⟨is, rfl, his, e⟩ := parse_fold hf ds r r' h
      rw [List.length_map] at c
      exact ⟨is, rfl, by omega, by omega, his, e⟩
    · rw [if_neg c] at h
      cases h
  | _ => cases h
theorem parse_item : ∀ (n : Nat) (d : PyData) (r r' : Int), itemR (recR n) n d r = some r' → ∃ i, d = It.d i ∧ Vi n i ∧ r = r' + It.ni i := by
  intro n
  induction n with
  | zero =>
    intro d r r' h
    unfold itemR at h
    by_cases hr : r = 0
    · rw [if_pos hr] at h
      cases h
    · rw [if_neg hr] at h
      split at h
      · rename_i k a b
        by_cases c : isStrD "line" k = true
        · rw [if_pos c] at h
          by_cases c2 : (nameD a && intD 1 1000000000000 b) = true
          · rw [if_pos c2] at h
            rw [Bool.and_eq_true] at c2
            obtain ⟨t, rfl, t1, t2⟩ := intD_int c2.2
            cases h
            cases a with
            | str x =>
              refine ⟨.line x t, by rw [isStrD_eq c, It.d], vi_line.mpr ⟨c2.1, t1, t2⟩, ?_⟩
              rw [It.ni]
              omega
            | _ => cases c2.1
          · rw [if_neg c2] at h
            cases h
        · rw [if_neg c] at h
          rw [show (!isStrD "loop" k || (decide ((0 : Nat) = 0) || !intD 1 1000000000000000000 a)) = true from by simp, if_pos rfl] at h
          cases h
      · cases h
  | succ n ih =>
    intro d r r' h
    unfold itemR at h
    by_cases hr : r = 0
    · rw [if_pos hr] at h
      cases h
    · rw [if_neg hr] at h
      split at h
      · rename_i k a b
        by_cases c : isStrD "line" k = true
        · rw [if_pos c] at h
          by_cases c2 : (nameD a && intD 1 1000000000000 b) = true
          · rw [if_pos c2] at h
            rw [Bool.and_eq_true] at c2
            obtain ⟨t, rfl, t1, t2⟩ := intD_int c2.2
            cases h
            cases a with
            | str x =>
              refine ⟨.line x t, by rw [isStrD_eq c, It.d], vi_line.mpr ⟨c2.1, t1, t2⟩, ?_⟩
              rw [It.ni]
              omega
            | _ => cases c2.1
          · rw [if_neg c2] at h
            cases h
        · rw [if_neg c] at h
          by_cases c2 : (!isStrD "loop" k || (decide (n + 1 = 0) || !intD 1 1000000000000000000 a)) = true
          · rw [if_pos c2] at h
            cases h
          · rw [if_neg c2] at h
            simp only [Bool.or_eq_true, Bool.not_eq_true', decide_eq_true_eq, not_or, Bool.not_eq_false] at c2
            obtain ⟨c3, _, c4⟩ := c2
            obtain ⟨k2, rfl, k3, k4⟩ := intD_int c4
            have h : itemsR n b (r - 1) = some r' := h
            rw [itemsR_eq] at h
            obtain ⟨is, rfl, l1, l2, g, e⟩ := parse_w ih h
            refine ⟨.loop k2 is, by rw [isStrD_eq c3, It.d, Its.d_map], ⟨k3, k4, l1, l2, g⟩, ?_⟩
            rw [It.ni, Int.natCast_add]
            omega
      · cases h
theorem parse_prog {d : PyData} {r' : Int} (h : itemsR 5 d 60 = some r') : ∃ is : List It, d = .tuple (is.map It.d) ∧ Vp is := by
  have b := itemsR_bound 5 d 60 r' (by decide) h
  rw [itemsR_eq] at h
  obtain ⟨is, rfl, l1, l2, g, e⟩ := parse_w (parse_item 5) h
  exact ⟨is, rfl, l1, l2, g, by omega⟩
/-- is_program's word -/
theorem prog_cases (d : PyData) : (∃ is : List It, d = .tuple (is.map It.d) ∧ Vp is ∧ (itemsR 5 d 60).isSome = true) ∨ (itemsR 5 d 60).isSome = false := by
  cases e : itemsR 5 d 60 with
  | none => exact .inr rfl
  | some r =>
    obtain ⟨is, rfl, v⟩ := parse_prog e
    exact .inl ⟨is, rfl, v, rfl⟩
mutual
theorem It.d_inj : ∀ {i j : It}, It.d i = It.d j → i = j
  | .line x t, .line y u, h => by
    rw [It.d, It.d] at h
    injection h with h
    injection h with _ h
    injection h with h1 h
    injection h with h2 _
    injection h1 with h1
    injection h2 with h2
    rw [h1, h2]
  | .line x t, .loop r is, h => by
    rw [It.d, It.d] at h
    injection h with h
    injection h with h _
    injection h with h
    exact absurd h (by decide)
  | .loop r is, .line x t, h => by
    rw [It.d, It.d] at h
    injection h with h
    injection h with h _
    injection h with h
    exact absurd h (by decide)
  | .loop r is, .loop k js, h => by
    rw [It.d, It.d] at h
    injection h with h
    injection h with _ h
    injection h with h1 h
    injection h with h2 _
    injection h1 with h1
    injection h2 with h2
    rw [h1, Its.d_inj h2]
theorem Its.d_inj : ∀ {is js : List It}, Its.d is = Its.d js → is = js
  | [], [], _ => rfl
  | [], j :: js, h => by
    rw [Its.d, Its.d] at h
    cases h
  | i :: is, [], h => by
    rw [Its.d, Its.d] at h
    cases h
  | i :: is, j :: js, h => by
    rw [Its.d, Its.d] at h
    injection h with h1 h2
    rw [It.d_inj h1, Its.d_inj h2]
end
theorem prog_inj {is js : List It} (h : PyData.tuple (is.map It.d) = .tuple (js.map It.d)) : is = js := by
  injection h with h
  rw [← Its.d_map, ← Its.d_map] at h
  exact Its.d_inj h
end Ev

/-! ## A caught exception that is kept: it is taken into the ledger before the clause's suite runs -/
namespace Ev
open PySem PySem.Spec PyProof.Rows L2
/-- an exception, as the ledger knows it -/
def XcO (a : Addr) (cls : Value) (d : Option Addr) : HO := .ext fun h => ∃ oe vs, h.get? a = some oe ∧ Zc cls d oe ∧ oe.data = .fields vs
/-- the ledger may learn of a: nothing else speaks of it -/
structure Room1 (X : Cx) (pins : List (Addr × Obj)) (H : Hp) (a : Addr) : Prop where
  led : H a = none
  ent : X.s_0.heap.get? a = none
  loc : X.env.locals ≠ a
  cel : ∀ x c, X.env.cells.lookup x = some c → c ≠ a
  pin : ∀ p ∈ X.pn ++ pins, p.1 ≠ a
theorem Room1.other {X : Cx} {pins : List (Addr × Obj)} {H : Hp} {a b : Addr} {u : HO} (r : Room1 X pins H a) (h : H b = some u) : b ≠ a := ne_of_none h r.led |> fun z => z
theorem Room1.same {X : Cx} {pins : List (Addr × Obj)} {H : Hp} {a b : Addr} {u o : HO} (r : Room1 X pins H a) (h : H b = some u) : upd H a o b = some u := (upd_ne (r.other h)).trans h
theorem upd_none {H : Hp} {a b : Addr} {o : HO} (n : b ≠ a) (h : H b = none) : upd H a o b = none := (upd_ne n).trans h
theorem learn {X : Cx} {pins : List (Addr × Obj)} {σ : L2.St} {H : Hp} {s : Shared} {a : Addr} {o : HO} (r : Room1 X pins H a) (I : Inv X pins σ H s) (here : ObjOk X.prog X.w (upd H a o) s.heap a o) : Inv X pins σ (upd H a o) s where
  ok := I.ok
  os := I.os
  bare := I.bare
  base := {
    keep := I.base.keep
    slot := I.base.slot
    free := fun b ob e n x => upd_none (fun z => nomatch (z ▸ e).symm.trans r.ent) (I.base.free b ob e n x)
    there := I.base.there
    tups := fun b xs e => r.same (I.base.tups b xs e)
    frzs := fun b ob u e => r.same (I.base.frzs b ob u e)
    tbls := fun b ps e => (I.base.tbls b ps e).imp fun _ q => r.same q }
  loc := I.loc
  cell := I.cell
  free := upd_none r.loc I.free
  freeC := fun x c e => upd_none (r.cel x c e) (I.freeC x c e)
  pin := fun p hp => (I.pin p hp).imp id fun q => ⟨upd_none (r.pin p hp) q.1, q.2⟩
  hok := fun b u e => by
    by_cases hb : b = a
    · cases hb
      cases upd_same.symm.trans e
      exact here
    · exact (I.hok b u ((upd_ne hb).symm.trans e)).stay (fun _ _ _ q => q) (fun _ q => r.same q) fun _ _ q => r.same q
  len := I.len
/-- an exception has come down to the ground of X -/
structure Down (X : Cx) (pins : List (Addr × Obj)) (σ : L2.St) (H : Hp) (a : Addr) (cls : Value) (d : Option Addr) (B h : Heap) (s : Shared) : Prop where
  fly : HandSPX.FlyingZ B (X.env :: X.outer) a (Zc cls d) h
  room : Room1 X pins H a
  inv : ∀ h', HandSPX.FlyingZ B (X.env :: X.outer) a (Zc cls d) h' → h.UpToSlots h' → Inv X pins σ H { s with heap := h' }
  up : ∀ h', h.UpToSlots h' → HandSPX.HeldZ B (X.env :: X.outer) a (Zc cls d) X.env.locals h' → ∀ W : WX, W cls d σ H → XE X W (.ref a) { s with heap := h' }
theorem come_down {X : Cx} {pins : List (Addr × Obj)} {xe : Value → Shared → Prop} {W : WX} {u : Value} {s : Shared} {Q : Flow → Shared → Prop} {E : Value → Shared → Prop} {hds : List ExceptHandler} (ok : X.Ok) (hs : X.stack = X.env :: X.outer) (hf : X.env.frame = some X.env.locals) (hex : X.ex = [])
    (x : XE (X.tr (X.pn ++ pins) xe) W u s)
    (k : ∀ a σ H cls d B h, u = .ref a → W cls d σ H → Down X pins σ H a cls d B h s → wpAny (model X.prog X.w) X.A (handleBy (.ref a) X.env hds) Q E { s with heap := h }) :
    wpAny (model X.prog X.w) X.A (noteFrame u X.env) (fun _ s2 => wpAny (model X.prog X.w) X.A (setFlight u none) (fun _ s3 => wpAny (model X.prog X.w) X.A (handleBy u X.env hds) Q E s3) E s2) E s := by
  obtain ⟨a, B, sI, ps, σ, H, cls, d, rfl, It, ground, up, sky, na, os, ag, w⟩ := x
  have I : Inv X pins σ H sI := It.ofTry ok
  have sky : Sky B (X.env :: X.outer) a (Zc cls d) X.env.locals s.heap := hs ▸ sky
  have frames : X.A.frames = some (X.env :: X.outer) := ok.frames.trans (congrArg some hs)
  refine Sky.land Zc.steady frames hf sky fun h fl up1 => k a σ H cls d B h rfl w ?_
  have noFrame : a ∉ frs (X.env :: X.outer) := fun m => by
    obtain ⟨oe, vs, ge, _, de⟩ := fl.there
    obtain ⟨_, o, go, no⟩ := fl.2.2.1.mem m
    exact no vs (Option.some.inj (go.symm.trans ge) ▸ de)
  have gone : sI.heap.get? a = none := Option.eq_none_iff_forall_not_mem.mpr fun o e => nomatch (ground a o e (hs ▸ noFrame)).symm.trans fl.2.1
  have not : ∀ {b : Addr} {o : Obj}, sI.heap.get? b = some o → b ≠ a := fun e z => nomatch (z ▸ e).symm.trans gone
  refine ⟨fl, ⟨na, ?_, ?_, fun x c e => ?_, fun p hp => not (I.pin p hp).1⟩, fun h' fl' up' => I.landed ground fl'.1 ((up.trans up1).trans up') os ag, fun h' up' held W' w' => ?_⟩
  · refine Option.eq_none_iff_forall_not_mem.mpr fun o e => ?_
    obtain ⟨o', e'⟩ := I.base.there a o e (hex ▸ List.not_mem_nil)
    exact not e' rfl
  · intro z
    exact noFrame (List.mem_filterMap.mpr ⟨X.env, List.mem_cons_self .., hf.trans (congrArg some z)⟩)
  · obtain ⟨v, o, e', _⟩ := I.cell x c e
    exact not e'
  · exact ⟨a, B, sI, pins, σ, H, cls, d, rfl, I, ground, (up.trans up1).trans up', .inr (.inr (hs ▸ held)), na, os, ag, w'⟩
end Ev
namespace Ev
open PySem PySem.Spec PyProof.Rows L2
section
variable {X : Cx} {pins : List (Addr × Obj)} {σ : L2.St} {H : Hp} {s : Shared} {a : Addr}
/-- into a clause's suite and out of it, with the same pins -/
theorem go_in (I : Inv X pins σ H s) : Inv (X.suite a (X.pn ++ pins)) [] σ H s where
  ok := I.ok.suite _ _
  os := I.os
  bare := I.bare
  base := I.base
  loc := I.loc
  cell := I.cell
  free := I.free
  freeC := I.freeC
  pin := by
    intro p hp
    exact I.pin p (List.append_nil (X.pn ++ pins) ▸ hp)
  hok := I.hok
  len := I.len
theorem go_out {q : List (Addr × Obj)} (ok : X.Ok) (I : Inv (X.suite a (X.pn ++ pins)) q σ H s) : Inv X pins σ H s where
  ok := ok
  os := I.os
  bare := I.bare
  base := I.base
  loc := I.loc
  cell := I.cell
  free := I.free
  freeC := I.freeC
  pin := fun p hp => I.pin p (List.mem_append_left q hp)
  hok := I.hok
  len := I.len
end
/-- the clause's own ends: its name goes -/
def lessE (D : Ends) (i : Nat) : Ends := ⟨fun σ H => D.nx (σ.set i none) H, D.rt, fun σ H => D.bk (σ.set i none) H, fun σ H => D.ct (σ.set i none) H⟩
/-- what 'except x as n' wishes of an exception that it catches and that is kept -/
def wKept (K : PySem.W.Frag) (c : Value) (i : Nat) (ts : TS) (D : Ends) : WX := fun cls d σ H =>
  PySem.W.exmOne K cls c = some true ∧ ∀ a, H a = none → ts (lessE D i) (σ.set i (some (.ref a))) (upd H a (XcO a cls d))
section
variable {X : Cx} {x n : Str} {c : Value} {i : Nat} {body suite : List Stmt} {b₀ : Stmt} {np pos pos' : Pos} {tb : WX → TS} {ts : TS}
/-- the clause is looked at -/
theorem look_clause {pins : List (Addr × Obj)} {σ : L2.St} {H : Hp} {a : Addr} {cls : Value} {d : Option Addr} {B h : Heap} {s : Shared} {D : Ends} (ok : X.Ok) (hf : X.env.frame = some X.env.locals) (hN : X.N.Nodup) (hi : X.N[i]? = some n) (hln : X.env.kindOf n = some .local) (hc : Names X x c)
    (hsu : ∀ (a : Addr) (pn : List (Addr × Obj)), PSs (X.suite a pn) (b₀ :: suite) ts) (dn : Down X pins σ H a cls d B h s) (w : wKept X.K c i ts D cls d σ H) :
    wpAny (model X.prog X.w) X.A (handleBy (.ref a) X.env [.ExceptHandler (some (.Name x np)) (some n) (b₀ :: suite) pos']) (SP X pins D) X.xe { s with heap := h } := by
  have here : Inv X pins σ H { s with heap := h } := dn.inv h dn.fly (Heap.UpToSlots.refl h)
  obtain ⟨oe, vs, ge, ze, de⟩ := dn.fly.there
  have cls_is : PySem.W.Looks (model X.prog X.w) h (typeOf (.ref a)) cls := fun A Q E t k q => wpAny_typeOf_ref (k a oe ge) (ze.1.symm ▸ q)
  have name : ∀ {Q : Value → Shared → Prop} {E : Value → Shared → Prop}, Q c { s with heap := h } → wpAny (model X.prog X.w) (X.A.mark (some (.ref a))) (eval (.Name x np) X.env) Q E { s with heap := h } := fun q =>
    match hc with
    | ⟨g, nd, .inl m⟩ => ld_glob (X := X.suite a (X.pn ++ pins)) (go_in here) g m q nd
    | ⟨g, nd, .inr ⟨m, v, nn⟩⟩ => ld_blt (X := X.suite a (X.pn ++ pins)) (go_in here) g m v q nn nd
  refine wpAny_handleBy_cons (codeAny_handlers_test (name ?_)) nofun
  obtain ⟨hit, w⟩ := w
  · refine (PySem.W.exm_one (M := model X.prog X.w) here.kIn cls_is hit).here (codeAny_handlers_suite_as (HandSPX.lands_againZ dn.fly fun h' fl' up' => ?_))
    obtain ⟨oe', vs', ge', ze', de'⟩ := fl'.there
    have known : Inv X pins σ (upd H a (XcO a cls d)) { s with heap := h' } :=
      learn dn.room (dn.inv h' fl' up') ⟨⟨oe', vs', ge', ze', de'⟩, ⟨oe', ge'⟩, fun _ _ ⟨o, v, g, z, e⟩ k => ⟨o, v, k o g, z, e⟩⟩
    refine store_ok (X := X.suite a (X.pn ++ pins)) (v := .ref a) (go_in known) hN hi (.inl hln) rfl (fun s5 J5 => ?_) (.inr hln)
    have run := (hsu a (X.pn ++ pins)).run [] s5 _ _ (lessE D i) J5 (w a dn.room.led)
    refine wpAny_mono run (fun f s6 e6 => ?_) fun _ _ z => z.elim
    have out : ∀ {σ6 : L2.St} {H6 : Hp} {Q : Shared → Prop}, Inv (X.suite a (X.pn ++ pins)) [] σ6 H6 s6 → (∀ s7, Inv X pins (σ6.set i none) H6 s7 → Q s7) → wpAny (model X.prog X.w) X.A (do bindName X.env n .none; unbindBehindTheSuite X.env n pos') (fun _ => Q) X.xe s6 := fun J q => gone_ok (go_out ok J) hN hi hln q
    match f, e6 with
    | .next, ⟨_, _, J, q⟩ => exact out J fun _ J' => ⟨_, _, J', q⟩
    | .brk, ⟨_, _, J, q⟩ => exact out J fun _ J' => ⟨_, _, J', q⟩
    | .cont, ⟨_, _, J, q⟩ => exact out J fun _ J' => ⟨_, _, J', q⟩
    | .ret u, ⟨_, _, _, J, r, q⟩ => exact out J fun _ J' => ⟨_, _, _, J', r, q⟩
/-- try: body / except x as n: suite, the exception kept -/
theorem ps_try_kept (hs : X.stack = X.env :: X.outer) (hf : X.env.frame = some X.env.locals) (hex : X.ex = []) (hN : X.N.Nodup) (hi : X.N[i]? = some n) (hln : X.env.kindOf n = some .local) (hc : Names X x c)
    (hb : ∀ (W : WX) (pn : List (Addr × Obj)) (xe : Value → Shared → Prop), Takes (X.tr pn xe) W → PSs (X.tr pn xe) body (tb W)) (hsu : ∀ (a : Addr) (pn : List (Addr × Obj)), PSs (X.suite a pn) (b₀ :: suite) ts) :
    PS X (.Try body [.ExceptHandler (some (.Name x np)) (some n) (b₀ :: suite) pos'] [] [] pos) (fun D => tb (wKept X.K c i ts D) D) where
  run pins s σ H D I h := by
    have caught : Takes (X.tr (X.pn ++ pins) _) (wKept X.K c i ts D) := fun u s' air => come_down I.ok hs hf hex air fun a σ' H' cls d B g e w dn => by
      exact look_clause (pos' := pos') (np := np) I.ok hf hN hi hln hc hsu dn w
    refine wpAny_Try_except (wpAny_mono ((hb _ _ _ caught).run [] s σ H D (I.toTry _) h) (fun f s1 e1 => ?_) fun _ _ z => z)
    match f, e1 with
    | .next, ⟨_, _, J, q⟩ => exact wpAny_execs_nil ⟨_, _, J.ofTry I.ok, q⟩
    | .brk, ⟨_, _, J, q⟩ => exact ⟨_, _, J.ofTry I.ok, q⟩
    | .cont, ⟨_, _, J, q⟩ => exact ⟨_, _, J.ofTry I.ok, q⟩
    | .ret u, ⟨_, _, _, J, r, q⟩ => exact ⟨_, _, _, J.ofTry I.ok, r, q⟩
end
end Ev

/-! ## A kept exception: its class, its field -/
namespace Ev
open PySem PySem.Spec PyProof.Rows L2
/-- what is written of an error class -/
structure ErrC (K : PySem.W.Frag) (C : Addr) : Prop where
  ox : OexC K C
  ga : PySem.W.findIn K (.ref C) "__getattribute__" = some (some (.builtin "BaseException.__getattribute__"))
  gt : PySem.W.findIn K (.ref C) "__getattr__" = some none
  ac : PySem.W.findIn K (.ref C) "__class__" = some (some (.builtin "object.__class__"))
  gs : PySem.W.specialIn K (.builtin "object.__class__") "__get__" = some (some (.builtin "getset_descriptor.__get__"))
  tk : PySem.W.takesIn K (.builtin "object.__class__") = some true
  mo : PySem.W.mroIn K C (.type "object") = some true
  cl : (PySem.W.clsIn K C).isSome = true
  hd : PySem.W.hasDictIn K C = true
/-- a kept exception of class C, with these fields (no dict where there are none) -/
def Kept (H : Hp) (a C : Addr) (fs : Option (List (Str × V))) : Prop := ∃ d : Option Addr, H a = some (XcO a (.ref C) d) ∧ match d, fs with
  | some d, some fs => H d = some (.xd fs)
  | none, none => True
  | _, _ => False
section
variable {X : Cx} {pins : List (Addr × Obj)} {σ : L2.St} {H : Hp} {s : Shared} {a C : Addr} {fs : Option (List (Str × V))}
/-- where it stands -/
theorem Kept.inst (I : Inv X pins σ H s) (k : Kept H a C fs) : ∃ (o : Obj) (od : Option Obj), PySem.W.InstAt s.heap a o C od ∧ ∀ l, fs = some l → ∃ (d : Addr) (mA : Str → Option Value), o.dict = some d ∧ s.heap.Ns1 d mA ∧ ∀ f, RelO (l.lookup f) (mA f) := by
  obtain ⟨d, ea, m⟩ := k
  obtain ⟨⟨o, vs, ho, hz, hd⟩, _⟩ := I.hok a _ ea
  match d, fs, m with
  | none, none, _ => exact ⟨o, none, ⟨ho, hz.1, by unfold PySem.W.notCls; rw [hd], by rw [hz.2]; trivial⟩, nofun⟩
  | some d, some l, m =>
    obtain ⟨mA, ns, rel⟩ := I.hok d _ m
    obtain ⟨od, hod, _⟩ := lookIn_ns ns
    exact ⟨o, some od, ⟨ho, hz.1, by unfold PySem.W.notCls; rw [hd], by rw [hz.2]; exact hod⟩, fun l' e => by cases e; exact ⟨d, mA, hz.2, ns, rel⟩⟩
theorem Kept.kit (I : Inv X pins σ H s) (k : Kept H a C fs) (T : ErrC X.K C) : ∃ P : Heap → Prop, PySem.W.KitX X.K (.ref a) (.ref C) P ∧ P s.heap := by
  obtain ⟨o, od, at_, _⟩ := k.inst I
  exact ⟨_, PySem.W.kitx_exc (ox := o) (od := od) T.cl T.ga T.gt T.ox.exC T.ac T.gs T.tk T.mo, at_⟩
end
/-- isinstance(kept, c), isinstance(kept, (c, ..)) -/
def rIsK (K : PySem.W.Frag) : List V → Hp → VK → Prop := fun xs H Q => ∃ (a C : Addr) (fs : Option (List (Str × V))) (c : V) (u : Value) (b : Bool), xs = [.ref a, c] ∧ Kept H a C fs ∧ ErrC K C ∧ ClsV c u ∧ PySem.W.kitOne K (.ref C) u = some b ∧ Q (.bl b) H
def rIsKT (K : PySem.W.Frag) : List V → Hp → VK → Prop := fun xs H Q => ∃ (a C : Addr) (fs : Option (List (Str × V))) (t : Addr) (cs : List V) (us : List Value) (b : Bool), xs = [.ref a, .ref t] ∧ Kept H a C fs ∧ ErrC K C ∧ H t = some (.tup cs) ∧ Paired ClsV cs us ∧ PySem.W.kitAny K (.ref C) us = some b ∧ Q (.bl b) H
/-- kept.f -/
def tAtK (K : PySem.W.Frag) (f : Str) (te : TE) : TE := fun σ H Q => te σ H fun x H1 => ∃ (a C : Addr) (l : List (Str × V)) (v : V), x = .ref a ∧ Kept H1 a C (some l) ∧ ErrC K C ∧ PySem.W.findIn K (.ref C) f = some none ∧ l.lookup f = some v ∧ Q v H1
section
variable {X : Cx}
theorem call_isK : CallR X (.builtin "isinstance") (rIsK X.K) := by
  rintro pins s σ H _ us Q I rel ⟨a, C, fs, c, u, b, rfl, kept, T, isC, kit, q⟩
  obtain ⟨v1, v2, rfl, r1, r2⟩ := vals2 rel
  cases r1
  cases isC.eq r2
  obtain ⟨P, Z, p⟩ := kept.kit I T
  exact PySem.W.kia_one Z I.kIn p kit nofun fun tk => ⟨.bl b, H, I.tok tk, rfl, q⟩
theorem call_isKT : CallR X (.builtin "isinstance") (rIsKT X.K) := by
  rintro pins s σ H _ us Q I rel ⟨a, C, fs, t, cs, ws, b, rfl, kept, T, tup, isC, kit, q⟩
  obtain ⟨v1, v2, rfl, r1, r2⟩ := vals2 rel
  cases r1
  cases r2
  obtain ⟨P, Z, p⟩ := kept.kit I T
  obtain ⟨_, its, vals, ⟨oc, od, dt, sl⟩, g, e1, n, e2⟩ := I.hok t _ tup
  cases (show oc = Value.type "tuple" from e1)
  cases (show dt = Data.seq its.toArray n from e2)
  cases ClsV.all isC vals
  exact PySem.W.kia_tup Z I.kIn p g kit nofun fun tk => ⟨.bl b, H, I.tok tk, rfl, q⟩
theorem pe_atK {e : Expr} {te : TE} {f : Str} {pos : Pos} (he : PE X e te) (hb : attributeBase e f X.env (eval e X.env) = eval e X.env := by rfl) : PE X (.Attribute e f pos) (tAtK X.K f te) where
  run pins s σ H Q I h := by
    refine attr_of hb (thn (he.run pins s σ H _ I h) ?_)
    rintro u s1 ⟨x, H1, I1, rx, a, C, l, v, rfl, kept, T, no, lk, q⟩
    cases rx
    obtain ⟨d, ea, m⟩ := kept
    obtain ⟨⟨o, vs, ho, hz, hd⟩, _⟩ := I1.hok a _ ea
    match d, m with
    | some d, m =>
      obtain ⟨mA, ns, rel⟩ := I1.hok d _ m
      obtain ⟨od, hod, look⟩ := lookIn_ns ns
      obtain ⟨w, hw, rw'⟩ := RelO.some_of (v := v) (o := mA f) (lk ▸ rel f)
      have at_ : PySem.W.InstAt s1.heap a o C (some od) := ⟨ho, hz.1, by unfold PySem.W.notCls; rw [hd], by rw [hz.2]; exact hod⟩
      exact HandSPX.exc_get I1.kIn at_ T.ga T.gt T.ox.exC (PySem.W.findObj_own T.hd no rfl ((look f).trans (hw ▸ rfl))) (handed_of rw') ⟨v, H1, I1.tok _, rw', q⟩
end
end Ev

/-! ## Defs that may raise -/
namespace Ev
open PySem PySem.Spec PyProof.Rows L2
/-- a def that keeps a promise or raises, ready to be called -/
structure CalX (P : Program) (w : World) (K : PySem.W.Frag) (mg : Str → Option Value) (base : Heap) (k : Nat) (x : Str) (ps : List Str) (sp : Sp) : Prop where
  ex : ∃ (f : Addr) (fd : FuncData), FnG P w K mg base (L2.CX P w) k f fd ps sp ∧ Binds K fd ps [] ∧ mg x = some (.ref f) ∧ PySem.W.keepIn K (.ref f) = true
section
variable {P : Program} {w : World} {K : PySem.W.Frag} {mg : Str → Option Value} {base : Heap} {x : Str} {st : Stmt} {ps N : List Str} {sp : Sp} {k : Nat}
theorem Def.okX (D : Def K mg x st ps) (S : FnScope N ps (defScope st)) (len : ∀ vs H Q E, sp vs H Q E → vs.length = ps.length)
    (walk : ∀ (f : Addr) (cdv : Value) (A : Around) (outer : List Env) (s : Shared) (H : Hp) (vs : List V) (Q : VK) (E : XK), Room k (A.deeper (envOfC x (defScope st) s.heap.objs.size f cdv)) → A.guards = some [] → sp vs H Q E →
      ∃ t, PSs (cxOf (L2.CX P w) P w K mg base N x (defScope st) f cdv A outer s H E) (defBody st) t ∧ t { nx := fun _ H' => Q .non H', rt := Q } (start N vs) H) : CalX P w K mg base (k + 1) x ps sp := by
  obtain ⟨f, fd, F, b, m⟩ := D.ex
  obtain ⟨oc, od, kV, doc, pm, an, cdv, ct, osl, e, lk, hcd⟩ := id F.ex
  cases e
  exact ⟨f, _, fnG_of lk hcd S len fun A outer s H vs Q E hr gd h => walk f cdv A outer s H vs Q E hr gd h, b, m, F.kp⟩
end
section
variable {X : Cx} {k : Nat} {ps : List Str} {sp : Sp} {x : Str} {p pos : Pos} {e : Expr} {es : List Expr} {t : TA} {W : WX}
/-- f(e, ..), where W takes what f raises -/
theorem pcallX (C : CalX X.prog X.w X.K X.mg X.base k x ps sp) (hr : Room k X.A) (gd : X.A.guards = some []) (hg : Gl X x) (tk : Takes X W) (ha : PA X (e :: es) t)
    (hdb : (x == ("__debug__" : Str)) = false := by decide) (he : starEach (e :: es) X.env = (false, eval e X.env) :: starEach es X.env := by rfl) (hpl : (backTo pos (starEach es X.env)).any (·.1) = false := by rfl) :
    PE X (.Call (.Name x p) (e :: es) [] pos) (tCallS sp (WE W) t) where
  run pins s σ H Q I h := by
    obtain ⟨f, fd, F, hb, hm, hk⟩ := C.ex
    have args := ha.run pos pins s σ H _ I h
    refine wpAny_Call_Name_kw (ld_glob I hg hm (PySem.W.callWith_K (h₀ := X.base) I.ok.mod.kin hk (thn args ?_) he hpl) hdb)
    rintro us s1 ⟨vs, H1, I1, rel, q⟩
    have l : us.length = ps.length := (rel.length).symm.trans (F.many _ _ _ _ q)
    have bound := hb s1 us I1.kIn (by rw [List.append_nil]; exact l)
    rw [List.append_nil] at bound
    refine ⟨I1.kIn, wpAny_call (codeAny_mono (F.go X.A X.stack s1 H1 ⟨us, []⟩ us vs Q (WE W σ) hr gd I1.env0 bound rel q) fun res s2 out => ?_)⟩
    match res, out with
    | .error er, out => exact passAt tk σ pins H1 s1 er s2 I1 out
    | .ok (.ret v), out => exact I1.after out
end
end Ev

/-! ## raise C(v), C an error class with one field or none -/
namespace Ev
open PySem PySem.Spec PyProof.Rows L2
section
variable {X : Cx} {o e : Expr} {es : List Expr} {to te : TE} {ta : TA} {f x : Str} {p p' p1 p2 pos : Pos}
/-- S.__init__(self, ..) of an own class S that has none itself -/
theorem pe_seInit {pl : Sem Bool} {S : Addr} (hg : Gl X x) (hm : X.mg x = some (.ref S))
    (sg : PySem.W.specialIn X.K (.ref S) "__getattribute__" = some (some (.builtin "type.__getattribute__")))
    (rd : PySem.W.readsIn X.K S (.type "type") = true)
    (vV : PySem.W.findCls X.K (.ref S) (.type "type") "__init__" = some (.val (.builtin "ValueError.__init__")))
    (ha : PA X (e :: es) ta) (hdb : (x == ("__debug__" : Str)) = false := by decide)
    (hc : eval (.Call (.Attribute (.Name x p1) "__init__" p2) (e :: es) [] pos) X.env = (eval (.Name x p1) X.env >>= fun ov =>
      standAt p2.atName >>= fun _ => holding [ov] (getMethod ov "__init__" pl) >>= fun fx =>
      callWith pos fx.1 fx.2 (backTo pos (starEach (e :: es) X.env)) (backToKw pos (keywordEach [] X.env))) := by rfl)
    (he : starEach (e :: es) X.env = (false, eval e X.env) :: starEach es X.env := by rfl)
    (hpl : (backTo pos (starEach es X.env)).any (·.1) = false := by rfl) :
    PE X (.Call (.Attribute (.Name x p1) "__init__" p2) (e :: es) [] pos) (tVeI X.K ta) := by
  constructor
  intro pins s σ H Q I h
  refine PySem.W.methodCall_KW (ld_glob I hg hm ?_ hdb) hc
  refine PySem.W.method_cls I.kIn sg (PySem.W.cls_value (mc := .type "type") I.kIn rd vV (by decide +kernel) ?_)
  have z := ha.run pos pins _ σ H _ (I.tok (s.toks + 1)) h
  refine PyProof.Rows.callWith_method1 (first := []) (thn z ?_) he hpl
  rintro us s1 ⟨vs, H1, I1, r1, a, C, ws, ev, hl, T, ea, q⟩
  subst ev
  cases r1 with
  | @cons _ u0 _ ur ra rt =>
    obtain rfl : u0 = Value.ref a := ra
    have hlen : ur.length ≤ sizeLine := by
      have z := Paired.length rt
      have y := sizeLine_eq
      omega
    exact oinit_ok T I1 ea hlen fun s' J => ⟨.non, H1, J, rfl, q⟩

end
/-- the errors' common base -/
structure BaseT (K : PySem.W.Frag) (mg : Str → Option Value) (S : Addr) : Prop where
  g : mg "SampleError" = some (.ref S)
  sg : PySem.W.specialIn K (.ref S) "__getattribute__" = some (some (.builtin "type.__getattribute__"))
  rd : PySem.W.readsIn K S (.type "type") = true
  vV : PySem.W.findCls K (.ref S) (.type "type") "__init__" = some (.val (.builtin "ValueError.__init__"))
def spInit1 (C : Addr) (f : Str) : Sp := fun vs H Q _ => ∃ (a : Addr) (v : V), vs = [.ref a, v] ∧ H a = some (exo a C none) ∧ ∀ dx, H dx = none → dx ≠ a → Q .non (upd (upd H dx (exd dx [(f, v)])) a (exo a C (some dx)))
/-- an error class with the field f, ready to be raised -/
structure Err1 (P : Program) (w : World) (K : PySem.W.Frag) (mg : Str → Option Value) (base : Heap) (x : Str) (C : Addr) (f : Str) : Prop where
  g : mg x = some (.ref C)
  cls : ErrC K C
  fld : PySem.W.findIn K (.ref C) f = some none
  ini : ∃ (fI : Addr) (fd : FuncData), PySem.W.findIn K (.ref C) "__init__" = some (some (.ref fI)) ∧ PySem.W.typeIn K (.ref fI) = some (.type "function") ∧ FnOk P w K mg base CX0 1 fI fd ["self", f] (spInit1 C f) ∧ Binds K fd ["self", f] []
theorem field_only {H : Hp} {a d : Addr} {C : Addr} {f : Str} {v : V} (na : H a = none) (da : d ≠ a) : upd (del (upd (upd (upd H a (exo a C none)) d (exd d [(f, v)])) a (exo a C (some d))) a) d (.xd [(f, v)]) = upd H d (.xd [(f, v)]) := by
  funext b
  by_cases hd : b = d
  · subst hd
    rw [upd_same, upd_same]
  · rw [upd_ne hd, upd_ne hd]
    by_cases ha : b = a
    · subst ha
      exact del_same.trans na.symm
    · rw [del_ne ha, upd_ne ha, upd_ne hd, upd_ne ha]
section
variable {X : Cx} {x : Str} {C : Addr} {f : Str} {e : Expr} {te : TE} {W : WX} {p pos pos' : Pos}
/-- raise C(e): the exception's own dict d holds the field -/
theorem ps_raise1 (R : Err1 X.prog X.w X.K X.mg X.base x C f) (hc : X.calm = true) (hr : Room 2 X.A) (hg : Gl X x) (tk : Takes X W) (he : PE X e te) (hdb : (x == ("__debug__" : Str)) = false := by decide)
    (h1 : starEach [e] X.env = (false, eval e X.env) :: starEach [] X.env := by rfl) : PS X (.Raise (some (.Call (.Name x p) [e] [] pos)) none pos') (fun _ σ H => tMkO C (spInit1 C f) [] (tCons te tNil) σ H fun cls d H' => W cls d σ H') := by
  obtain ⟨fI, fd, iC, tI, F, b⟩ := R.ini
  exact ps_raise hc tk (pmk_oex (pos := pos) (p := p) R.cls.ox iC tI F hr b .nil pass0 hg R.g (pa_cons he pa_nil h1) hdb h1 rfl)
theorem raise1_go {H : Hp} {v : V} {Q : XK} (q : ∀ d, H d = none → Q (.ref C) (some d) (upd H d (.xd [(f, v)]))) : [v].length ≤ 1000 ∧ ∀ a, H a = none → spInit1 C f (.ref a :: ([v] ++ [])) (upd H a (exo a C none))
    (fun u H2 => u = .non ∧ ∃ (d : Addr) (fs : List (Str × V)), H2 a = some (exo a C (some d)) ∧ H2 d = some (exd d fs) ∧ H d = none ∧ Q (.ref C) (some d) (upd (del H2 a) d (.xd fs))) (fun _ _ _ => False) := by
  refine ⟨(by show 1 ≤ 1000; decide), fun a na => ⟨a, v, rfl, upd_same, fun d nd da => ⟨rfl, d, [(f, v)], upd_same, ?_, ?_, ?_⟩⟩⟩
  · rw [upd_ne da]
    exact upd_same
  · rw [upd_ne da] at nd
    exact nd
  · rw [field_only na da]
    rw [upd_ne da] at nd
    exact q d nd
end
end Ev

/-! ## raise C(), C an error class whose __init__ takes self alone -/
namespace Ev
open PySem PySem.Spec PyProof.Rows L2
def spInit0 (C : Addr) : Sp := fun vs H Q _ => ∃ a : Addr, vs = [.ref a] ∧ H a = some (exo a C none) ∧ Q .non H
/-- such a class, ready to be raised -/
structure Err0 (P : Program) (w : World) (K : PySem.W.Frag) (mg : Str → Option Value) (base : Heap) (x : Str) (C : Addr) : Prop where
  g : mg x = some (.ref C)
  cls : ErrC K C
  ini : ∃ (fI : Addr) (fd : FuncData), PySem.W.findIn K (.ref C) "__init__" = some (some (.ref fI)) ∧ PySem.W.typeIn K (.ref fI) = some (.type "function") ∧ FnOk P w K mg base CX0 1 fI fd ["self"] (spInit0 C) ∧ Binds K fd ["self"] []
section
variable {X : Cx} {x : Str} {C : Addr} {W : WX} {p pos pos' : Pos}
/-- C(): a new error, held as a value -/
theorem pe_err0 (R : Err0 X.prog X.w X.K X.mg X.base x C) (hr : Room 2 X.A) (hg : Gl X x) (hdb : (x == ("__debug__" : Str)) = false := by decide) :
    PE X (.Call (.Name x p) [] [] pos) (fun _ H Q => ∀ a, H a = none → Q (.ref a) (upd H a (exo a C none))) := by
  constructor
  intro pins s σ H Q I q
  obtain ⟨fI, fd, iC, tI, F1, hb⟩ := R.ini
  have T := R.cls.ox
  obtain ⟨nm, qn, N, bs, bm, sn, sub, ab, col, dd, k0, k1, k2, k3, k5, hC, hbm⟩ := T.cls
  refine wpAny_Call_Name_kw (ld_glob I hg R.g (PySem.W.callWith_K0 I.kIn T.kC ?_) hdb)
  obtain ⟨hp, g, dr, tk, os⟩ := s
  have hsz : hp.objs.size ≤ hp.objs.size + 1 := Nat.le_succ _
  have hn : H (hp.objs.size + 1) = none := I.hok.fresh hsz
  have there : ((hp.push (PySem.W.kdv_tup [])).push (PySem.HandSPX.excO C hp.objs.size)).get? (hp.objs.size + 1) = some (PySem.HandSPX.excO C hp.objs.size) := by heap_get
  have old : ∀ b o, hp.get? b = some o → ((hp.push (PySem.W.kdv_tup [])).push (PySem.HandSPX.excO C hp.objs.size)).get? b = some o := fun b o e => Heap.get?_push_of_some _ (Heap.get?_push_of_some _ e)
  have J : Inv X pins σ (upd H (hp.objs.size + 1) (exo (hp.objs.size + 1) C none)) ⟨_, g, dr, tk, os⟩ := I.laid (t' := tk) old hsz (exo_ok there)
  have bt := hb _ [Value.ref (hp.objs.size + 1)] J.kIn rfl
  have run := F1.run _ X.stack _ _ ⟨[Value.ref (hp.objs.size + 1)], []⟩ [Value.ref (hp.objs.size + 1)] [V.ref (hp.objs.size + 1)] (fun v H2 => v = .non ∧ Q (.ref (hp.objs.size + 1)) H2) E0 (hr.make C [] []) (J.env0.make C [] []) bt (.cons rfl .nil)
    ⟨_, rfl, upd_same, rfl, q _ hn⟩
  refine wpAny_call (PySem.HandSPX.call_own F.excBase_ValueError (fun Y => PySem.HandSPX.refsVE_contains Y bm hbm) (I.kIn _ _ hC) (PySem.W.looks_findIn I.kIn iC) (fun self => PySem.W.bind_fn I.kIn self tI) (Nat.zero_le _) (codeAny_mono run fun r s' z => ?_))
  match r, z with
  | .error er, z => exact pass0 pins σ _ _ er s' J z
  | .ok .next, z => exact False.elim z
  | .ok .brk, z => exact False.elim z
  | .ok .cont, z => exact False.elim z
  | .ok (.ret u), z =>
    obtain ⟨v, H2, J2, rv, ev, q2⟩ := (J.after z : EP X pins σ _ u s')
    subst ev
    obtain rfl : u = Value.none := rv
    exact ⟨rfl, .ref _, H2, J2, rfl, q2⟩
/-- raise C() -/
theorem ps_raise0 (R : Err0 X.prog X.w X.K X.mg X.base x C) (hc : X.calm = true) (hx : X.ex = []) (hr : Room 2 X.A) (hg : Gl X x) (tk : Takes X W) (hdb : (x == ("__debug__" : Str)) = false := by decide) :
    PS X (.Raise (some (.Call (.Name x p) [] [] pos)) none pos') (fun _ σ H => ∀ a, H a = none → Fr0 X.H_0 a ∧ W (.ref C) none σ H) := by
  refine ps_raise (t := fun σ H Q => ∀ a, H a = none → Fr0 X.H_0 a ∧ Q (.ref C) none H) hc tk fun pins s σ H Q I h => ?_
  refine wpAny_mono ((pe_err0 R hr hg hdb).run pins s σ H (fun v H1 => ∃ a, v = .ref a ∧ H a = none ∧ H1 = upd H a (exo a C none)) I fun a na => ⟨a, rfl, na, rfl⟩) (fun u s1 hu => ?_) fun _ _ z => z
  obtain ⟨v, H1, J, rv, a, rfl, na, rfl⟩ := hu
  obtain rfl : u = Value.ref a := rv
  obtain ⟨fr, q⟩ := h a na
  obtain ⟨t1, ho⟩ := exo_at J.hok (upd_same (H := H) (a := a) (o := exo a C none))
  obtain ⟨G, g1, g2, J'⟩ := J.untrack upd_same fr hx
  rw [delH_new na] at J'
  exact ⟨a, _, _, { s1 with heap := G }, H, .ref C, none, rfl, J', g1, g2, ho, ⟨rfl, rfl⟩, rfl, rfl, na, rfl, J.bare, raises_own R.cls.ox.exC R.cls.ox.tyC, q⟩
end
end Ev

/-! ## A law whose defs make lambdas: the tables of their code objects are known from the start -/
namespace Ev
open PySem PySem.Spec PyProof.Rows L2
open LamX (TabB)
/-- the script is read only: it stands whatever else changes -/
def Scr (K : PySem.W.Frag) (H : Hp) (a : Addr) (xs : List V) : Prop := (∃ o, H a = some (.frz o (.lst xs))) ∨ ∀ H', SqL K H' a xs
/-- what the ledger holds when a law begins: the script (if no written object is the script), empty tables -/
structure Begun (K : PySem.W.Frag) (a : Addr) (o : Obj) (xs : List V) (cs : List (Addr × Addr)) (H : Hp) : Prop where
  tab : ∀ p ∈ cs, H p.2 = some (.tbl #[])
  seq : Scr K H a xs
  all : ∀ b u, H b = some u → (∃ p ∈ cs, p.2 = b ∧ u = .tbl #[]) ∨ (b = a ∧ u = .frz o (.lst xs) ∧ K.lookup a = none)
theorem begun {K : PySem.W.Frag} {h : Heap} {a : Addr} {vs : List Value} {xs : List V} {cs : List (Addr × Addr)} (KX : K.In h) (ha : h.get? a = some { cls := .type "list", data := .seq vs.toArray })
    (hT : ∀ p ∈ cs, h.get? p.2 = some (PySem.W.tabObj #[])) (rv : Vals xs vs) (hl : xs.length ≤ sizeLine) : ∃ H, Begun K a { cls := .type "list", data := .seq vs.toArray } xs cs H := by
  have ne : ∀ p ∈ cs, p.2 ≠ a := fun p hp z => by
    have e := hT p hp
    rw [z, ha] at e
    cases e
  let T : Hp := fun b => if ∃ p ∈ cs, p.2 = b then some (.tbl #[]) else none
  have at1 : ∀ p ∈ cs, T p.2 = some (.tbl #[]) := fun p hp => if_pos ⟨p, hp, rfl⟩
  have inv1 : ∀ b u, T b = some u → ∃ p ∈ cs, p.2 = b ∧ u = .tbl #[] := fun b u e => by
    by_cases z : ∃ p ∈ cs, p.2 = b
    · have e2 : T b = some (.tbl #[]) := if_pos z
      obtain ⟨p, hp, hb⟩ := z
      exact ⟨p, hp, hb, Option.some.inj (e.symm.trans e2)⟩
    · exact nomatch (if_neg z : T b = none).symm.trans e
  cases hk : K.lookup a with
  | none =>
    refine ⟨upd T a (.frz { cls := .type "list", data := .seq vs.toArray } (.lst xs)), fun p hp => (upd_ne (ne p hp)).trans (at1 p hp), .inl ⟨_, upd_same⟩, fun b u e => ?_⟩
    by_cases z : b = a
    · subst z
      exact .inr ⟨rfl, Option.some.inj (e.symm.trans upd_same), hk⟩
    · exact .inl (inv1 b u ((upd_ne z).symm.trans e))
  | some ob =>
    have e := KX a ob hk
    rw [ha] at e
    cases e
    exact ⟨T, at1, .inr fun _ => .inr ⟨_, vs.toArray, _, hk, rfl, rfl, rfl, by rw [List.size_toArray, ← rv.length]; exact hl, by simpa using rv⟩, fun b u e => .inl (inv1 b u e)⟩
section
variable {P : Program} {w : World} {K : PySem.W.Frag} {mg mb : Str → Option Value} {h : Heap} {a : Addr} {vs : List Value} {xs : List V} {cs : List (Addr × Addr)} {H : Hp}
/-- what is neither the script nor a table is not in the ledger -/
theorem Begun.off (B : Begun K a { cls := .type "list", data := .seq vs.toArray } xs cs H) (ha : h.get? a = some { cls := .type "list", data := .seq vs.toArray }) (hT : ∀ p ∈ cs, h.get? p.2 = some (PySem.W.tabObj #[]))
    {b : Addr} {ob : Obj} (e : h.get? b = some ob) (n1 : ob.data ≠ .seq vs.toArray) (n2 : ob.data ≠ .fields #[]) : H b = none := by
  cases q : H b with
  | none => rfl
  | some u =>
    rcases B.all b u q with ⟨p, hp, rfl, _⟩ | ⟨rfl, _, _⟩
    · rw [hT p hp] at e
      cases e
      exact (n2 rfl).elim
    · rw [ha] at e
      cases e
      exact (n1 rfl).elim
theorem Begun.ns (B : Begun K a { cls := .type "list", data := .seq vs.toArray } xs cs H) (ha : h.get? a = some { cls := .type "list", data := .seq vs.toArray }) (hT : ∀ p ∈ cs, h.get? p.2 = some (PySem.W.tabObj #[]))
    {b : Addr} {m : Str → Option Value} : h.Ns b m → (hidT h H).Ns b m := fun ⟨ob, es, ep, e, d, r⟩ => ⟨ob, es, ep, hidT_get e (B.off ha hT e (by rw [d]; nofun) (by rw [d]; nofun)), d, r⟩
theorem Begun.kin (B : Begun K a { cls := .type "list", data := .seq vs.toArray } xs cs H) (KX : K.In h) (nT : ∀ p ∈ cs, K.lookup p.2 = none) : K.In (hidT h H) := fun b ob e => by
  refine hidT_get (KX b ob e) ?_
  cases q : H b with
  | none => rfl
  | some u =>
    rcases B.all b u q with ⟨p, hp, rfl, _⟩ | ⟨rfl, _, n⟩
    · exact nomatch (nT p hp).symm.trans e
    · exact nomatch n.symm.trans e
theorem Begun.hok (B : Begun K a { cls := .type "list", data := .seq vs.toArray } xs cs H) (ha : h.get? a = some { cls := .type "list", data := .seq vs.toArray }) (hT : ∀ p ∈ cs, h.get? p.2 = some (PySem.W.tabObj #[])) (rv : Vals xs vs) (hl : xs.length ≤ sizeLine) : HOk P w H h := fun b u e => by
  rcases B.all b u e with ⟨p, hp, rfl, rfl⟩ | ⟨rfl, rfl, _⟩
  · exact hT p hp
  · exact ⟨ha, hl, vs, _, rv, ha⟩
theorem Begun.tabB (B : Begun K a { cls := .type "list", data := .seq vs.toArray } xs cs H) (ha : h.get? a = some { cls := .type "list", data := .seq vs.toArray }) (hT : ∀ p ∈ cs, h.get? p.2 = some (PySem.W.tabObj #[])) (C : ∀ p ∈ cs, PySem.W.CodeHd h p.1 p.2) (hns : h.Ns mainGlobals mg)
    (hbm : ∃ bm ob, mg "__builtins__" = some (.ref bm) ∧ bm ≠ builtinsNs ∧ h.get? bm = some ob ∧ ob.cls = .type "module" ∧ ob.dict = some builtinsNs ∧ ob.data = .plain) {p : Addr × Addr} (hp : p ∈ cs) : TabB (hidT h H) mg p.1 p.2 where
  code := by
    obtain ⟨o, us, file, tf, flags, tg, inF, text, tt, e, r1, r2, r3, r⟩ := C p hp
    refine ⟨o, us, file, tf, flags, tg, inF, text, tt, hidT_get e (B.off ha hT e ?_ ?_), r1, r2, r3, r⟩
    · rw [r2]
      nofun
    · intro z
      rw [r2] at z
      cases z
      simp at r3
  bm := by
    obtain ⟨bm, ob, b1, b2, b3, b4, b5, b6⟩ := hbm
    refine ⟨bm, ob, b1, b2, fun z => ?_, fun z => ?_, hidT_get b3 (B.off ha hT b3 ?_ ?_), b4, b5, b6⟩
    · obtain ⟨o, es, ep, e, d, _⟩ := hns
      rw [z, e] at b3
      cases b3
      rw [d] at b6
      cases b6
    · rw [z, hT p hp] at b3
      cases b3
      cases b6
    · rw [b6]
      nofun
    · rw [b6]
      nofun
  gP := fun z => by
    obtain ⟨o, es, ep, e, d, _⟩ := hns
    rw [z, hT p hp] at e
    cases e
    cases d
/-- at the end all stands as it was, but for what the tables were told -/
theorem Begun.over {H' : Hp} {h' : Heap} (B : Begun K a { cls := .type "list", data := .seq vs.toArray } xs cs H) (ha : h.get? a = some { cls := .type "list", data := .seq vs.toArray }) (hT : ∀ p ∈ cs, h.get? p.2 = some (PySem.W.tabObj #[])) (C : ∀ p ∈ cs, PySem.W.CodeHd h p.1 p.2)
    (un : Un [] [] H H' h h') (ok : HOk P w H' h') : OldK h h' := by
  have one : ∀ b ob, h.get? b = some ob → asItWas h h' b ob ∧ ∃ o', h'.get? b = some o' := fun b ob e => by
    cases q : H b with
    | none =>
      have z := un.keep b ob e q (by simp) (by simp)
      exact ⟨.inl z, _, z⟩
    | some u =>
      rcases B.all b u q with ⟨p, hp, rfl, rfl⟩ | ⟨rfl, rfl, _⟩
      · obtain ⟨more, z⟩ := un.tbls _ _ q
        have z : h'.get? p.2 = some { cls := .none, data := .fields (#[] ++ more) } := ok _ _ z
        rw [hT p hp] at e
        cases e
        exact ⟨.inr (.inl ⟨((C p hp).tab (hT p hp)).isCodeTable, rfl, #[], more, rfl, z⟩), _, z⟩
      · obtain ⟨z, _⟩ := ok _ _ (un.frzs _ _ _ q)
        rw [ha] at e
        cases e
        exact ⟨.inl z, _, z⟩
  exact ⟨fun b ob e => (one b ob e).1, fun b ob e => (one b ob e).2⟩
end
/-- the law, called -/
theorem law_endT {P : Program} {w : World} {K : PySem.W.Frag} {mg mb : Str → Option Value} {CX : CXT} {k : Nat} {fa a : Addr} {fd : FuncData} {x : Str} {sp : Sp} {s₁ : Shared} {vs : List Value} {ns : List Int} {cs : List (Addr × Addr)}
    (KX : K.In s₁.heap) (hns : s₁.heap.Ns mainGlobals mg) (hb : s₁.heap.Ns builtinsNs mb) (hbb : ∀ x : Str, x ≠ "__name__" → mb x = bootBuiltins x) (hlim : s₁.heap.NoLimit) (hg : s₁.gens = #[])
    (hbm : ∃ bm ob, mg "__builtins__" = some (.ref bm) ∧ bm ≠ builtinsNs ∧ s₁.heap.get? bm = some ob ∧ ob.cls = .type "module" ∧ ob.dict = some builtinsNs ∧ ob.data = .plain)
    (hT : ∀ p ∈ cs, s₁.heap.get? p.2 = some (PySem.W.tabObj #[])) (nT : ∀ p ∈ cs, K.lookup p.2 = none) (C : ∀ p ∈ cs, PySem.W.CodeHd s₁.heap p.1 p.2)
    (ha : s₁.heap.get? a = some { cls := .type "list", data := .seq vs.toArray }) (hi : IntsAre vs ns) (hl : ns.length ≤ sizeLine) (hr : Room k callerA) (hsm : ∃ mm, s₁.heap.Ns sysModules mm)
    (F : ∀ base : Heap, K.In base → base.Ns mainGlobals mg → (∃ mm, base.Ns sysModules mm) → (∀ p ∈ cs, TabB base mg p.1 p.2) → FnG P w K mg base CX k fa fd [x] sp)
    (hbind : ∀ (s : Shared) (u : Value), BindsTo s fd ⟨[u], []⟩ [(x, u)])
    (hsp : ∀ H : Hp, (∀ p ∈ cs, H p.2 = some (.tbl #[])) → Scr K H a (ns.map V.int) → sp [.ref a] H (fun v _ => v = .bl true) fun _ _ _ => False)
    (hCX : ∀ H e s', CX [] H s₁ (fun _ _ _ => False) e s' → False) :
    codeAny (model P w) callerA (.call (.ref fa) ⟨[.ref a], []⟩) (fun r s' => r = .ok (.ret (.bool true)) ∧ OldK s₁.heap s'.heap ∧ s'.os = s₁.os ∧ AllBare s'.gens) s₁ := by
  have rv := vals_ints hi
  have hl' : (ns.map V.int).length ≤ sizeLine := by rw [List.length_map]; exact hl
  obtain ⟨H, B⟩ := begun KX ha hT rv hl'
  have kin := B.kin KX nT
  have seen : ∀ {b m}, s₁.heap.Ns b m → (hidT s₁.heap H).Ns b m := B.ns ha hT
  obtain ⟨mc, m1, m2⟩ := hlim
  obtain ⟨mm, hmm⟩ := hsm
  have e0 : Env0 P w K mg (hidT s₁.heap H) callerA [] s₁ H :=
    { frames := rfl, mod := ⟨kin, seen hns, ⟨mb, seen hb, hbb⟩, ⟨mc, seen m1, m2⟩⟩, bs := fun _ _ => of_hidT, bsz := Nat.le_of_eq (hidT_size _ _), funs := trivial, frf := nofun, hok := B.hok ha hT rv hl', bare := .of_eq hg }
  refine codeAny_mono ((F _ kin (seen hns) ⟨mm, seen hmm⟩ fun p hp => B.tabB ha hT C hns hbm hp).go callerA [] s₁ H ⟨[.ref a], []⟩ [.ref a] [.ref a] _ _ hr rfl e0 (hbind s₁ (.ref a)) (.cons rfl .nil) (hsp H B.tab B.seq)) fun r s' out => ?_
  match r, out with
  | .error e, out => exact (hCX H e s' out).elim
  | .ok (.ret u), ⟨v, H', os, bare, un, ok, rel, q⟩ =>
    have q : v = .bl true := q
    subst q
    cases (show u = Value.bool true from rel)
    exact ⟨rfl, B.over ha hT C un ok, os, bare⟩
/-- the code objects and tables of these defs -/
def TabF (h : Heap) (mg : Str → Option Value) (x : Str) (p : Addr × Addr) : Prop := ∃ (f : Addr) (o : Obj) (fd : FuncData), mg x = some (.ref f) ∧ h.get? f = some o ∧ o.data = .func fd ∧ fd.code = .ref p.1
theorem walkT (xs : List Str) {l : PySem.W.OpenLaw} {n k : Nat} {q : Program} {loose : List Str} {XP : (Str → Option Value) → Heap → Prop} {YP : World → Heap → Prop} {d : DefRec} {K : Params → PySem.W.Frag} {CX : CXT} {sp : PySem.W.Frag → List Addr → Sp} {x : Str}
    (hq : importsNone q = true) (hxs : (xs.all fun y => (recsOf q).any fun e => e.name == y) = true) (hK : ∀ w : World, PySem.W.noTabs (K w.params) = true) (hn : l.most = some n) (hn2 : n ≤ sizeLine) (hdf : d.params.defaults = []) (hr : Room k callerA) (hY : ∀ (w : World) (h : Heap), YP w h → (K w.params).In h)
    (F : ∀ (w : World) (mg : Str → Option Value) (fa : Addr) (h : Heap), (K w.params).In h → h.Ns mainGlobals mg → mg d.name = some (.ref fa) → ∀ cs : List (Addr × Addr), Paired (TabF h mg) xs cs →
      ∃ fd : FuncData, (∀ (s : Shared) (u : Value), BindsTo s fd ⟨[u], []⟩ [(x, u)]) ∧ ∀ base : Heap, (K w.params).In base → base.Ns mainGlobals mg → (∃ mm, base.Ns sysModules mm) → (∀ p ∈ cs, TabB base mg p.1 p.2) → FnG l.prog w (K w.params) mg base CX k fa fd [x] (sp (K w.params) (cs.map (·.2))))
    (hsp : ∀ (K : PySem.W.Frag) (H : Hp) (a : Addr) (ns : List Int) (ps : List Addr), ns.length ≤ n → (∀ P ∈ ps, H P = some (.tbl #[])) → Scr K H a (ns.map V.int) → sp K ps [.ref a] H (fun v _ => v = .bl true) fun _ _ _ => False)
    (hCX : ∀ (H : Hp) (s : Shared) (e : Value) (s' : Shared), CX [] H s (fun _ _ _ => False) e s' → False) : PySem.W.WalkO q loose XP YP l.row.toRowW d [] (fun f vs => PySem.call f vs) := by
  refine Att.attach_call hn hdf fun w s₀ s₁ mg mb fa o pm cd doc a vs ns G Y ho hd hcd hmg hobj hints hlen hg => ?_
  have KX := hY w _ Y
  obtain ⟨mm, hmm, _⟩ := (G.T.seer hq).mods
  obtain ⟨cs, hcs, tabs⟩ : ∃ cs, Paired (TabF s₁.heap mg) xs cs ∧ ∀ p ∈ cs, PySem.W.CodeHd s₁.heap p.1 p.2 ∧ s₁.heap.get? p.2 = some (PySem.W.tabObj #[]) := by
    have all := List.all_eq_true.mp hxs
    clear hxs F
    induction xs with
    | nil => exact ⟨[], .nil, nofun⟩
    | cons y ys ih =>
      obtain ⟨cs, c1, c2⟩ := ih fun z hz => all z (List.mem_cons_of_mem _ hz)
      obtain ⟨e, he, hy⟩ := List.any_eq_true.mp (all y (List.mem_cons_self ..))
      obtain ⟨f, ob, fd, c, P, h1, h2, h3, h4, h5, h6⟩ := G.T.tab e he
      rw [beq_iff_eq.mp hy] at h1
      refine ⟨(c, P) :: cs, .cons ⟨f, ob, fd, h1, h2, h3, h4⟩ c1, fun p hp => ?_⟩
      rcases List.mem_cons.mp hp with rfl | hp
      · exact ⟨.of h5 h6, h6.2⟩
      · exact c2 p hp
  have nT : ∀ p ∈ cs, (K w.params).lookup p.2 = none := fun p hp => by
    cases e : (K w.params).lookup p.2 with
    | none => rfl
    | some ob =>
      have z := KX _ _ e
      rw [(tabs p hp).2] at z
      cases z
      have y := List.all_eq_true.mp (hK w) _ (PySem.W.mem_of_lookupK e)
      exact absurd (show false = true from y) Bool.false_ne_true
  obtain ⟨fd, hb, hF⟩ := F w mg fa _ KX G.T.g hmg cs hcs
  refine law_endT KX G.T.g G.T.b G.T.builtins G.T.nolimit hg G.T.bmain (fun p hp => (tabs p hp).2) nT (fun p hp => (tabs p hp).1) hobj hints (Nat.le_trans hlen hn2) hr ⟨mm, hmm⟩ hF hb (fun H hH hS => hsp _ H a ns _ hlen (fun P hP => ?_) hS) fun H e s' => hCX H s₁ e s'
  obtain ⟨p, hp, rfl⟩ := List.mem_map.mp hP
  exact hH p hp
end Ev

/-! ## Methods that may raise; lambdas; what a table's growth leaves -/
namespace Ev
open PySem PySem.Spec PyProof.Rows L2
open LamX (CodeO TabS Tabs ExtN TabB LamS lamCx lamEnv GivesTo tLam)
/-! ### promises for any stack -/
/-- a def that keeps a promise whatever stands around it, ready to be called (CX: what it lets out) -/
structure CalN (CX : CXT) (P : Program) (w : World) (K : PySem.W.Frag) (mg : Str → Option Value) (base : Heap) (k : Nat) (x : Str) (ps : List Str) (sp : Sp) : Prop where
  ex : ∃ (f : Addr) (fd : FuncData), FnOk P w K mg base CX k f fd ps sp ∧ Binds K fd ps [] ∧ mg x = some (.ref f) ∧ PySem.W.keepIn K (.ref f) = true
/-- a method that keeps a promise or raises -/
structure MCalX (P : Program) (w : World) (K : PySem.W.Frag) (mg : Str → Option Value) (base : Heap) (k : Nat) (C : Addr) (m : Str) (ps : List Str) (sp : Sp) : Prop where
  ex : ∃ (f : Addr) (fd : FuncData), FnOk P w K mg base (L2.CX P w) k f fd ps sp ∧ Binds K fd ps [] ∧ Meth K C m f
/-- a class whose __init__ keeps a promise or raises -/
structure KCalX (P : Program) (w : World) (K : PySem.W.Frag) (mg : Str → Option Value) (base : Heap) (k : Nat) (C : Addr) (x : Str) (ps : List Str) (sp : Sp) : Prop where
  ex : ∃ (f : Addr) (fd : FuncData), FnOk P w K mg base (L2.CX P w) k f fd ps sp ∧ Binds K fd ps [] ∧ Mk K C f ∧ mg x = some (.ref C)
section
variable {P : Program} {w : World} {K : PySem.W.Frag} {mg : Str → Option Value} {base : Heap} {x q : Str} {st : Stmt} {ps N : List Str} {sp : Sp} {k j : Nat} {C : Addr}
theorem CalN.cal (c : CalN CX0 P w K mg base k x ps sp) : Cal P w K mg base k x ps sp := by
  obtain ⟨f, fd, F, b, m, v⟩ := c.ex
  exact ⟨f, fd, .of F, b, m, v⟩
theorem fun_okX {f : Addr} {fd : FuncData} (F : Fun K x q st f fd) (S : FnScope N ps (defScope st)) (len : ∀ vs H Q E, sp vs H Q E → vs.length = ps.length)
    (walk : ∀ (cdv : Value) (A : Around) (outer : List Env) (s : Shared) (H : Hp) (vs : List V) (Q : VK) (E : XK), Room k (A.deeper (envOfC q (defScope st) s.heap.objs.size f cdv)) → sp vs H Q E →
      ∃ t, PSs (cxOf (L2.CX P w) P w K mg base N q (defScope st) f cdv A outer s H E) (defBody st) t ∧ t { nx := fun _ H' => Q .non H', rt := Q } (start N vs) H) : FnOk P w K mg base (L2.CX P w) (k + 1) f fd ps sp := by
  obtain ⟨oc, od, kV, doc, pm, an, cdv, ct, osl, e, lk, hcd⟩ := F.ex
  cases e
  exact fn_of lk hcd S len fun A outer s H vs Q E hr h => walk cdv A outer s H vs Q E hr h
theorem Def.okN (D : Def K mg x st ps) (S : FnScope N ps (defScope st)) (len : ∀ vs H Q E, sp vs H Q E → vs.length = ps.length)
    (walk : ∀ (f : Addr) (cdv : Value) (A : Around) (outer : List Env) (s : Shared) (H : Hp) (vs : List V) (Q : VK) (E : XK), Room k (A.deeper (envOfC x (defScope st) s.heap.objs.size f cdv)) → sp vs H Q E →
      ∃ t, PSs (cxOf (L2.CX P w) P w K mg base N x (defScope st) f cdv A outer s H E) (defBody st) t ∧ t { nx := fun _ H' => Q .non H', rt := Q } (start N vs) H) : CalN (L2.CX P w) P w K mg base (k + 1) x ps sp := by
  obtain ⟨f, fd, F, b, m⟩ := D.ex
  exact ⟨f, fd, fun_okX F S len (walk f), b, m, F.kp⟩
theorem MDef.okX (D : MDef K C x q st ps) (S : FnScope N ps (defScope st)) (len : ∀ vs H Q E, sp vs H Q E → vs.length = ps.length)
    (walk : ∀ (f : Addr) (cdv : Value) (A : Around) (outer : List Env) (s : Shared) (H : Hp) (vs : List V) (Q : VK) (E : XK), Room k (A.deeper (envOfC q (defScope st) s.heap.objs.size f cdv)) → sp vs H Q E →
      ∃ t, PSs (cxOf (L2.CX P w) P w K mg base N q (defScope st) f cdv A outer s H E) (defBody st) t ∧ t { nx := fun _ H' => Q .non H', rt := Q } (start N vs) H) : MCalX P w K mg base (k + 1) C x ps sp := by
  obtain ⟨f, fd, F, b, m⟩ := D.ex
  exact ⟨f, fd, fun_okX F S len (walk f), b, m⟩
end
section
variable {X : Cx} {k : Nat} {C : Addr} {ps : List Str} {sp : Sp} {m x : Str} {p pos apos : Pos} {e o : Expr} {es : List Expr} {ta : TE} {t : TA} {W : WX} {E : XK}
/-- f(e, ..) -/
theorem pcallN (c : CalN (L2.CX X.prog X.w) X.prog X.w X.K X.mg X.base k x ps sp) (hr : Room k X.A) (hg : Gl X x) (tk : Takes X W) (hW : ∀ cls d σ H, E cls d H → W cls d σ H) (ha : PA X (e :: es) t)
    (hdb : (x == ("__debug__" : Str)) = false := by decide) (he : starEach (e :: es) X.env = (false, eval e X.env) :: starEach es X.env := by rfl) (hpl : (backTo pos (starEach es X.env)).any (·.1) = false := by rfl) : PE X (.Call (.Name x p) (e :: es) [] pos) (tCall sp [] E t) := by
  obtain ⟨f, fd, F, b, hm, v⟩ := c.ex
  exact pe_call F hr hg hm v b .nil (passes_call tk hW) ha hdb he hpl
theorem pcallO (c : CalN CX0 X.prog X.w X.K X.mg X.base k x ps sp) (hr : Room k X.A) (hg : Gl X x) (ha : PA X (e :: es) t)
    (hdb : (x == ("__debug__" : Str)) = false := by decide) (he : starEach (e :: es) X.env = (false, eval e X.env) :: starEach es X.env := by rfl) (hpl : (backTo pos (starEach es X.env)).any (·.1) = false := by rfl) : PE X (.Call (.Name x p) (e :: es) [] pos) (tCall sp [] E0 t) := by
  obtain ⟨f, fd, F, b, hm, v⟩ := c.ex
  exact pe_call F hr hg hm v b .nil pass0 ha hdb he hpl
theorem pmethX {pl : Sem Bool} (M : MCalX X.prog X.w X.K X.mg X.base k C m ps sp) (c : Cls X.K C) (hr : Room k X.A) (tk : Takes X W) (hW : ∀ cls d σ H, E cls d H → W cls d σ H) (ho : PE X o ta) (ha : PA X (e :: es) t)
    (h1 : starEach (e :: es) X.env = (false, eval e X.env) :: starEach es X.env := by rfl) (h2 : (backTo pos (starEach es X.env)).any (·.1) = false := by rfl)
    (h3 : eval (.Call (.Attribute o m apos) (e :: es) [] pos) X.env = (do
      let v ← eval o X.env
      standAt apos.atName
      let (f, first) ← holding [v] (getMethod v m pl)
      callWith pos f first (backTo pos (starEach (e :: es) X.env)) (backToKw pos (keywordEach [] X.env))) := by rfl) : PE X (.Call (.Attribute o m apos) (e :: es) [] pos) (tMeth C m sp [] E ta t) := by
  obtain ⟨f, fd, F, hb, hm⟩ := M.ex
  exact pe_meth (pl := pl) ho c hm F hr hb .nil (passes_call tk hW) ha h1 h2 h3
theorem pmethX0 {pl : Sem Bool} (M : MCalX X.prog X.w X.K X.mg X.base k C m ps sp) (c : Cls X.K C) (hr : Room k X.A) (tk : Takes X W) (hW : ∀ cls d σ H, E cls d H → W cls d σ H) (ho : PE X o ta)
    (h3 : eval (.Call (.Attribute o m apos) [] [] pos) X.env = (do
      let v ← eval o X.env
      standAt apos.atName
      let (f, first) ← holding [v] (getMethod v m pl)
      callWith pos f first (backTo pos (starEach [] X.env)) (backToKw pos (keywordEach [] X.env))) := by rfl) : PE X (.Call (.Attribute o m apos) [] [] pos) (tMeth C m sp [] E ta tNil) := by
  obtain ⟨f, fd, F, hb, hm⟩ := M.ex
  exact pe_meth0 (pl := pl) ho c hm F hr hb .nil (passes_call tk hW) h3
theorem pmakeX (M : KCalX X.prog X.w X.K X.mg X.base k C x ps sp) (hr : Room (k + 1) X.A) (hg : Gl X x) (tk : Takes X W) (hW : ∀ cls d σ H, E cls d H → W cls d σ H) (ha : PA X (e :: es) t)
    (h0 : (x == ("__debug__" : Str)) = false := by decide) (h1 : starEach (e :: es) X.env = (false, eval e X.env) :: starEach es X.env := by rfl) (h2 : (backTo pos (starEach es X.env)).any (·.1) = false := by rfl) : PE X (.Call (.Name x p) (e :: es) [] pos) (tMake C sp [] E t) := by
  obtain ⟨f, fd, F, hb, mk, hm⟩ := M.ex
  exact pe_make mk F hr hg hm hb .nil (passes_call tk hW) ha h0 h1 h2
end
/-- what is taken need be taken from as many slots as there are alone -/
theorem takes_len {X : Cx} {W W' : WX} (t : Takes X W) (h : ∀ c d σ H, σ.length = X.N.length → W' c d σ H → W c d σ H) : Takes X W' := fun u s' ⟨a, B, sI, pins, σ, H, cls, d, e, I, r1, r2, r3, r4, r5, r6, w⟩ =>
  t u s' ⟨a, B, sI, pins, σ, H, cls, d, e, I, r1, r2, r3, r4, r5, r6, h _ _ _ _ I.len w⟩
/-! ### list.count of plain values -/
def rCntF (K : PySem.W.Frag) : V → List V → Hp → VK → Prop := fun x xs H Q => ∃ (p : Addr) (ys : List V) (y : V), x = .ref p ∧ xs = [y] ∧ SqL K H p ys ∧ flatV y = true ∧ ys.all flatV = true ∧ Q (.int (ys.countP fun z => eqV z y : Nat)) H
theorem countP_rel {y : V} : ∀ {us : List Value} {ys : List V}, Vals ys us → ys.all flatV = true → us.countP (eqU y) = ys.countP fun z => eqV z y
  | _, _, .nil, _ => rfl
  | _, _, .cons r t, f => by
    rw [List.all_cons, Bool.and_eq_true] at f
    rw [List.countP_cons, List.countP_cons, countP_rel t f.2, eqU_of r f.1]
theorem mt_lcountF {X : Cx} : MtR X "list.count" (rCntF X.K) := by
  intro pins s σ H x xs v us Q I rx rxs h
  obtain ⟨p, ys, y, rfl, rfl, hs, fy, fys, q⟩ := h
  cases rx
  obtain ⟨u, rfl, ru⟩ := rxs.one
  obtain ⟨its, rv, ⟨⟨cls, dd, data, sl⟩, n, ho, hc, hdn, hd⟩, hlen⟩ := I.list hs
  cases (show cls = _ from hc)
  cases (show data = _ from hd)
  refine call_meets PySem.F.slot_list_count ⟨_, ho, rfl⟩ PySem.F.entry_list_count (PySem.F.args_list_count_2 _ _)
    (SeqAt.list_countAt p its.toArray n dd sl u (eqU y)) ⟨ho, fun z hz => mem_eqAt ru fy rv fys z (by simpa using hz), ?_⟩
  refine ⟨.int (ys.countP fun z => eqV z y : Nat), H, I.tok _, ⟨s.toks, ?_⟩, q⟩
  show Value.int ((its.toArray.toList.countP (eqU y) : Nat) : Int) s.toks = _
  rw [show its.toArray.toList = its from rfl, countP_rel rv fys]
/-! ### a lambda handed to a def of the module -/
def tLam1 (Pt : Addr) (q : Str) (TT : (XK → Hp → VK → Prop) → Hp → VK → Prop) (t : XK → TE) : TE := fun σ H Q => TabS H Pt q ∧ ∀ H1, ExtN H H1 → TabS H1 Pt q → TT (fun E H' Q' => t E σ H' Q') H1 Q
/-- x(lambda: body), x a def of one parameter -/
theorem pe_lamD {X : Cx} {TT : (XK → Hp → VK → Prop) → Hp → VK → Prop} {x a q : Str} {st : Stmt} {c Pt : Addr} {k : Nat} {Ng : List Str} {params : Arguments} {body : Expr} {scope : Scope} {t : XK → TE} {p lpos pos : Pos} (D : Def X.K X.mg x st [a]) (hg : Gl X x) (Sg : FnScope Ng [a] (defScope st)) (hNg : Ng[0]? = some a) (hva : Vis (defScope st) a)
    (hG : ∀ g cdg, GivesTo X Ng x (defScope st) g cdg (defBody st) a q TT) (TB : TabB X.base X.mg c Pt) (hcode : X.env.code = .ref c) (hr : Room (k + 2) X.A) (L : LamS X.env.scope scope) (hq : X.env.qual ++ "<lambda>" = q) (hdef : defaultsOf params X.env = ([], []))
    (hbind : ∀ (q : Str) (cl : List (Str × Addr)) (pm cv ctv : Value), bindArgs (PySem.W.kla_fn "<lambda>" q params body scope cl pm cv ctv) ⟨[], []⟩ = pure [])
    (hbody : ∀ (A : Around) (outer : List Env) (s : Shared) (H : Hp) (E : XK) (f c' : Addr), Room k (A.deeper (lamEnv X scope s.heap.objs.size f c')) → PE (lamCx X A outer s H E scope f c') body (t E))
    (hdb : (x == ("__debug__" : Str)) = false := by decide) (hd : (a == ("__debug__" : Str)) = false := by decide) (hcd : (a == ("__classdict__" : Str)) = false := by decide) : PE X (.Call (.Name x p) [.Lambda params body scope lpos] [] pos) (tLam1 Pt q TT t) := by
  obtain ⟨g, fd, F, b, m⟩ := D.ex
  obtain ⟨oc, od, kV, doc, pm, an, cdv, ct, osl, e, lk, hcdv⟩ := id F.ex
  cases e
  subst hq
  have z : PE X (.Call (.Name x p) [.Lambda params body scope lpos] [] pos) (tLam [(Pt, X.env.qual ++ "<lambda>")] TT t) :=
    LamX.pe_lamcall hg m F.kp lk hcdv b Sg hNg hva (hG g cdv) TB hcode (List.mem_singleton.mpr rfl) (fun r hr _ => by rw [List.mem_singleton.mp hr]) hr L hdef hbind hbody hdb hd hcd
  refine ⟨fun pins s σ H Q I h => z.run pins s σ H Q I ⟨fun r hr => ?_, fun H1 e1 t1 => h.2 H1 e1 (t1 _ (List.mem_singleton.mpr rfl))⟩⟩
  rw [List.mem_singleton.mp hr]
  exact h.1
end Ev

/-! ## Bench, with what it raises -/
namespace Ev
open PySem PySem.Spec PyProof.Rows L2
/-- an error of class C with such a value, and nothing else -/
def RzD (K : PySem.W.Frag) (C : Addr) (d : PyData) (H : Hp) (E : XK) : Prop := ∀ H' dd v, Same H H' → H' dd = some (.xd [("value", v)]) → Da K H' v d → E (.ref C) (some dd) H'
/-- an error of class C without a value -/
def Rz0 (C : Addr) (H : Hp) (E : XK) : Prop := ∀ H', Same H H' → E (.ref C) none H'
theorem RzD.same {K : PySem.W.Frag} {C : Addr} {d : PyData} {H H1 : Hp} {E : XK} (h : RzD K C d H E) (s : Same H H1) : RzD K C d H1 E := fun H' dd v s' => h H' dd v (s.trans s')
theorem Rz0.same {C : Addr} {H H1 : Hp} {E : XK} (h : Rz0 C H E) (s : Same H H1) : Rz0 C H1 E := fun H' s' => h H' (s.trans s')
theorem RzD.go {K : PySem.W.Frag} {C : Addr} {d : PyData} {H : Hp} {E : XK} {v : V} (h : RzD K C d H E) (hv : Da K H v d) : [v].length ≤ 1000 ∧ ∀ a, H a = none → spInit1 C "value" (.ref a :: ([v] ++ [])) (upd H a (exo a C none))
    (fun u H2 => u = .non ∧ ∃ (d : Addr) (fs : List (Str × V)), H2 a = some (exo a C (some d)) ∧ H2 d = some (exd d fs) ∧ H d = none ∧ E (.ref C) (some d) (upd (del H2 a) d (.xd fs))) (fun _ _ _ => False) :=
  raise1_go fun dd nd => h _ dd v (same_put nd) upd_same (hv.mono (same_put nd))
def putD (is : List It) (a b : Nat) (d : PyData) : PyData := .tuple ((is.map It.d).take a ++ [d] ++ (is.map It.d).drop b)
def spCiX (K : PySem.W.Frag) (cI : Addr) : Sp := fun vs H Q E => ∃ (x : V) (d : PyData) (lo hi : Int), vs = [x, .int lo, .int hi] ∧ Da K H x d ∧ (intD lo hi d = true → ∀ H', Same H H' → Q .non H') ∧ (intD lo hi d = false → RzD K cI d H E)
/-- what putting leads to -/
structure PutG (K : PySem.W.Frag) (C cT : Addr) (p e : Addr) (is : List It) (hs : List (List It)) (a b : Nat) (d : PyData) (H : Hp) (Q : VK) (E : XK) : Prop where
  yes : ∀ js, putD is a b d = pgD js → Vp js → ∀ H', Bu2 p e H H' → BnAt K C H' p e js (hs ++ [is]) → Q .non H'
  no : (itemsR 5 (putD is a b d) 60).isSome = false → RzD K cT d H E
theorem PutG.same {K : PySem.W.Frag} {C cT : Addr} {p e : Addr} {is : List It} {hs : List (List It)} {a b : Nat} {d : PyData} {H H1 : Hp} {Q : VK} {E : XK} (h : PutG K C cT p e is hs a b d H Q E) (s : Same H H1) : PutG K C cT p e is hs a b d H1 Q E :=
  ⟨fun js e1 v H' u => h.yes js e1 v H' ((Bu2.of s).trans u), fun e1 => (h.no e1).same s⟩
theorem PutG.non {K : PySem.W.Frag} {C cT : Addr} {p e : Addr} {is : List It} {hs : List (List It)} {a b : Nat} {d : PyData} {H : Hp} {Q : VK} {E : XK} (h : PutG K C cT p e is hs a b d H Q E) : PutG K C cT p e is hs a b d H (fun _ H' => Q .non H') E := ⟨h.yes, h.no⟩
def spBUX (K : PySem.W.Frag) (C cT : Addr) : Sp := fun vs H Q E => ∃ (p e : Addr) (is : List It) (hs : List (List It)) (a b : Nat) (x : V) (d : PyData), vs = [.ref p, .int (a : Nat), .int (b : Nat), x] ∧ BnAt K C H p e is hs ∧ hs.length ≤ 100000 ∧ Da K H x d ∧ okS d = true ∧ PutG K C cT p e is hs a b d H Q E
def spBInX (K : PySem.W.Frag) (C cI cT : Addr) : Sp := fun vs H Q E => ∃ (p e : Addr) (is : List It) (hs : List (List It)) (xi x : V) (di d : PyData), vs = [.ref p, xi, x] ∧ BnAt K C H p e is hs ∧ hs.length ≤ 100000 ∧ Da K H xi di ∧ Da K H x d ∧ okS d = true ∧
  (intD 0 (is.length : Nat) di = false → RzD K cI di H E) ∧ ∀ a : Nat, di = .int (a : Nat) → a ≤ is.length → PutG K C cT p e is hs a a d H Q E
def spBReX (K : PySem.W.Frag) (C cI cT : Addr) : Sp := fun vs H Q E => ∃ (p e : Addr) (is : List It) (hs : List (List It)) (xi x : V) (di d : PyData), vs = [.ref p, xi, x] ∧ BnAt K C H p e is hs ∧ hs.length ≤ 100000 ∧ Da K H xi di ∧ Da K H x d ∧ okS d = true ∧
  (intD 0 ((is.length : Nat) - 1) di = false → RzD K cI di H E) ∧ ∀ a : Nat, di = .int (a : Nat) → a < is.length → PutG K C cT p e is hs a (a + 1) d H Q E
def spBDX (K : PySem.W.Frag) (C cI cL : Addr) : Sp := fun vs H Q E => ∃ (p e : Addr) (is : List It) (hs : List (List It)) (xi : V) (di : PyData), vs = [.ref p, xi] ∧ BnAt K C H p e is hs ∧ hs.length ≤ 100000 ∧ Da K H xi di ∧
  (intD 0 ((is.length : Nat) - 1) di = false → RzD K cI di H E) ∧ ∀ a : Nat, di = .int (a : Nat) → a < is.length → (is.length = 1 → Rz0 cL H E) ∧ ∀ it, is[a]? = some it → 2 ≤ is.length → ∀ H' u, Bu2 p e H H' → BnAt K C H' p e (is.eraseIdx a) (hs ++ [is]) → Da K H' u (It.d it) → Q u H'
def lpD (r : PyData) (ds : List PyData) : PyData := .tuple [.str "loop", r, .tuple ds]
def spBWX (K : PySem.W.Frag) (C cI cT : Addr) : Sp := fun vs H Q E => ∃ (p e : Addr) (is : List It) (hs : List (List It)) (xa xb xr : V) (da db dr : PyData), vs = [.ref p, xa, xb, xr] ∧ BnAt K C H p e is hs ∧ hs.length ≤ 100000 ∧ Da K H xa da ∧ Da K H xb db ∧ Da K H xr dr ∧ okS dr = true ∧
  (intD 0 ((is.length : Nat) - 1) da = false → RzD K cI da H E) ∧ ∀ a : Nat, da = .int (a : Nat) → a < is.length →
    (intD ((a : Nat) + 1) (is.length : Nat) db = false → RzD K cI db H E) ∧ ∀ b : Nat, db = .int (b : Nat) → a < b → b ≤ is.length → PutG K C cT p e is hs a b (lpD dr (((is.map It.d).drop a).take (b - a))) H Q E
def spBUn (K : PySem.W.Frag) (C cU : Addr) : Sp := fun vs H Q E => ∃ (p e : Addr) (is : List It) (hs : List (List It)), vs = [.ref p] ∧ BnAt K C H p e is hs ∧ (hs = [] → Rz0 cU H E) ∧
  ∀ gs js, hs = gs ++ [js] → Vp js ∧ ∀ H', Bu2 p e H H' → BnAt K C H' p e js gs → Q .non H'
def spBIX (K : PySem.W.Frag) (C cP : Addr) : Sp := fun vs H Q E => ∃ (p dx : Addr) (x : V) (d : PyData), vs = [.ref p, x] ∧ H p = some (.ins C dx []) ∧ Da K H x d ∧ okS d = true ∧
  (∀ is, d = pgD is → Vp is → ∀ e H', H e = none → BnAt K C H' p e is [] → Bu p H H' → Q .non H') ∧ ((itemsR 5 d 60).isSome = false → RzD K cP d H E)
theorem scBUn : FnScope ["self"] ["self"] (defScope (sB 9)) := ⟨rfl, rfl, rfl, by decide +kernel, rfl, by decide +kernel, by decide +kernel⟩
theorem tupd_of_put {is js : List It} {a b : Nat} {d : PyData} (h : putD is a b d = pgD js) : tupD d = true := by
  have z : d ∈ js.map It.d := by
    injection h with h
    rw [← h]
    simp
  obtain ⟨j, _, rfl⟩ := List.mem_map.mp z
  exact It.tupd j
theorem okSs_of {l : List PyData} (k : ∀ x ∈ l, okS x = true) : okSs l = true := by
  induction l with
  | nil => rw [okSs]
  | cons x l ih =>
    rw [okSs, k x (List.mem_cons_self ..), ih fun y hy => k y (List.mem_cons_of_mem _ hy)]
    rfl
theorem okS_put {is : List It} {a b : Nat} {d : PyData} (h : Vp is) (hd : okS d = true) : okS (putD is a b d) = true := by
  have z : okSs (is.map It.d) = true := h.okS
  show okSs _ = true
  refine okSs_of fun x hx => ?_
  rcases List.mem_append.mp hx with hx | hx
  · rcases List.mem_append.mp hx with hx | hx
    · exact okSs_mem z x (List.mem_of_mem_take hx)
    · rw [List.mem_singleton.mp hx]
      exact hd
  · exact okSs_mem z x (List.mem_of_mem_drop hx)
section
variable {P : Program} {w : World} {K : PySem.W.Frag} {mg : Str → Option Value} {base : Heap} {C cP cI cT cL cU : Addr}
theorem ok_bIX {f fP : Addr} {fd fdP : FuncData} (T : BTx K mg C) (F : Fun K "__init__" "Bench.__init__" (sB 0) f fd) (GP : FnOk P w K mg base CX0 15 fP fdP ["value"] (spProg K)) (bP : Binds K fdP ["value"] []) (mP : mg "is_program" = some (.ref fP)) (vP : PySem.W.keepIn K (.ref fP) = true) (R : Err1 P w K mg base "BadProgram" cP "value") :
    FnOk P w K mg base (L2.CX P w) 16 f fd ["self", "program"] (spBIX K C cP) := by
  refine fun_okX F scBI (fun vs H Q E h => ?_) (fun cdv A outer s H vs Q E hr h => ?_)
  · obtain ⟨p, dx, x, d, rfl, _⟩ := h
    rfl
  · obtain ⟨p, dx, x, d, rfl, hp, hd, ho, q1, q2⟩ := h
    refine ⟨_, pss_cons (ps_if (pt_not (pt_val (pe_call GP hr (by rfl) mP vP bP .nil pass0 (pa_cons (pv 1) pa_nil)))) (pss_one (ps_raise1 R rfl (hr.mono (by omega)) (by rfl) (takes_of rfl rfl rfl rfl) (pv 1))) pss_nil)
      (pss_cons (ps_fld (pv 0) (pv 1) rfl) (pss_one (ps_fld (pv 0) (pe_lst pa_nil) rfl))), ?_⟩
    refine ⟨_, rfl, x, d, rfl, hd, ho, fun H1 s1 => ⟨_, rfl, ?_⟩⟩
    rcases prog_cases d with ⟨is, rfl, hv, e⟩ | e
    · rw [e]
      refine iteF ?_
      have hp1 := s1 _ _ hp
      refine ⟨_, rfl, _, rfl, p, C, dx, [], rfl, hp1, T.cl, T.nC, (by show 0 < 1000; decide), (by show 0 ≤ sizeLine; exact Nat.zero_le _), fun e ne => ?_⟩
      have npe : p ≠ e := fun z => by
        rw [← z, upd_same] at ne
        cases ne
      have n1 : H1 e = none := by
        rw [upd_ne npe.symm] at ne
        exact ne
      refine ⟨_, rfl, p, C, dx, _, rfl, by rw [upd_ne npe, upd_same], T.cl, T.nE, (by show 1 < 1000; decide), ?_⟩
      rw [flB_mk]
      have k1 : Kj H1 (upd H1 p (.ins C dx (putF "current" x []))) := Kj.putI hp1
      have k2 := (k1.trans (Kj.of (same_put (o := .lst []) ne))).trans (Kj.putI (o := .ins C dx (flB x e)) (show (upd (upd H1 p (.ins C dx (putF "current" x []))) e (.lst [])) p = some (.ins C dx (putF "current" x [])) by rw [upd_ne npe, upd_same]))
      refine q1 is rfl hv e _ (none_of' s1 n1) ⟨⟨dx, x, upd_same, (hd.mono s1).kj k2 (prog_tup _)⟩, ⟨[], by rw [upd_ne npe.symm, upd_same], .nil⟩, hv⟩ fun b o n h => ?_
      rw [upd_ne n, upd_ne (ne_of_none (s1 _ _ h) n1), upd_ne n]
      exact s1 _ _ h
    · rw [e]
      exact iteT ⟨x, rfl, ((q2 e).same s1).go (hd.mono s1)⟩
end
end Ev

/-! ## A program without one of its items -/
namespace Ev
open PySem PySem.Spec PyProof.Rows L2
theorem erase_eq {α : Type} (l : List α) (a : Nat) : l.take a ++ l.drop (a + 1) = l.eraseIdx a := (List.eraseIdx_eq_take_drop_succ l a).symm
theorem map_er {is : List It} {a : Nat} : (is.map It.d).eraseIdx a = (is.eraseIdx a).map It.d := by
  rw [← erase_eq, ← erase_eq, List.map_append, List.map_take, List.map_drop]
theorem Vp.erase {is : List It} {a : Nat} (h : Vp is) (h2 : 2 ≤ is.length) (ha : a < is.length) : Vp (is.eraseIdx a) where
  ne := by
    rw [List.length_eraseIdx_of_lt ha]
    omega
  le := by
    have := h.le
    rw [List.length_eraseIdx_of_lt ha]
    omega
  vi := fun i hi => h.vi i (List.mem_of_mem_eraseIdx hi)
  ni := by
    have e : is = is.take a ++ is.drop a := (List.take_append_drop a is).symm
    have z := congrArg Its.ni e
    rw [List.drop_eq_getElem_cons ha, ni_app, Its.ni] at z
    rw [← erase_eq, ni_app]
    have := h.ni
    omega
end Ev

/-! ## Bench.copy -/
namespace Ev
open PySem PySem.Spec PyProof.Rows L2
def spBY (K : PySem.W.Frag) (C : Addr) : Sp := fun vs H Q _ => ∃ (p e : Addr) (is : List It) (hs : List (List It)), vs = [.ref p] ∧ BnAt K C H p e is hs ∧ ∀ H' b e', Same H H' → H b = none → H e' = none → BnAt K C H' b e' is hs → Q (.ref b) H'
theorem scBY : FnScope ["self", "twin"] ["self"] (defScope (sB 13)) := ⟨rfl, rfl, rfl, by decide +kernel, rfl, by decide +kernel, by decide +kernel⟩
section
variable {P : Program} {w : World} {K : PySem.W.Frag} {mg : Str → Option Value} {base : Heap} {C : Addr}
theorem ok_bY (T : BTx K mg C) (nb : NB mg) (K_Bench : KCal P w K mg base 16 C "Bench" ["self", "program"] (spBI K C)) (D : MDef K C "copy" "Bench.copy" (sB 13) ["self"]) : MCal P w K mg base 18 C "copy" ["self"] (spBY K C) := by
  refine D.ok scBY (fun vs H Q E h => ?_) (fun f cdv A outer s H vs Q E hr h => ?_)
  · obtain ⟨p, e, is, hs, rfl, _⟩ := h
    rfl
  · obtain ⟨p, e, is, hs, rfl, hb, q⟩ := h
    obtain ⟨dx, cur, h1, h2⟩ := hb.ob
    obtain ⟨us, h3, h4⟩ := hb.er
    refine ⟨_, pss_cons (ps_set (i := 1) scBY.nd rfl (.inl rfl) (pmake K_Bench hr (by rfl) (pa_cons (pe_fld (pv 0) rfl) pa_nil)))
      (pss_cons (ps_fld (pv 1) (pe_callTy call_list_of (by rfl) nb.at (by decide +kernel) (pa_cons (pe_fld (pv 0) rfl) pa_nil)) rfl) (pss_one (ps_ret (pv 1)))), ?_⟩
    refine ⟨_, rfl, p, C, dx, _, _, rfl, h1, T.cl, T.nC, flB_cur _ _, fun b db nb0 ndb ne => ?_⟩
    have s5 := same_put (o := .own b) ndb
    have nb5 : upd H db (.own b) b = none := by
      rw [upd_ne ne.symm]
      exact nb0
    have s6 := same_put (o := .ins C db []) nb5
    refine ⟨b, db, cur, is, rfl, upd_same, h2.mono (s5.trans s6), hb.vp, fun e0 H1 nE bn bu => ⟨rfl, ?_⟩⟩
    have s1 : Same H H1 := fun z o e2 => bu z o (ne_of_none e2 nb0) (s6 _ _ (s5 _ _ e2))
    obtain ⟨db1, cur1, b1, b2⟩ := bn.ob
    dsimp only [gName]
    refine ⟨_, rfl, p, C, dx, _, _, rfl, s1 _ _ h1, T.cl, T.nE, flB_ear _ _, e, us, rfl, .inl (.inl (.inl (s1 _ _ h3))), fun l nl => ?_⟩
    have sl := same_put (o := .lst us) nl
    refine ⟨_, rfl, b, C, db1, _, rfl, sl _ _ b1, T.cl, T.nE, (by show 2 < 1000; decide), ?_⟩
    rw [show putF "earlier" (V.ref l) (flB cur1 e0) = flB cur1 l from rfl]
    have nbl : b ≠ l := fun z => by
      rw [← z, b1] at nl
      cases nl
    have k2 : Kj H1 (upd (upd H1 l (.lst us)) b (.ins C db1 (flB cur1 l))) := (Kj.of sl).trans (Kj.putI (sl _ _ b1))
    refine ⟨_, rfl, q _ b l (fun z o h => ?_) nb0 (none_of' s1 nl) ⟨⟨db1, cur1, upd_same, b2.kj k2 (prog_tup _)⟩, ⟨us, by rw [upd_ne nbl.symm, upd_same], (h4.mono s1).kj k2 (hist_tup _)⟩, hb.vp⟩⟩
    rw [upd_ne (ne_of_none h nb0)]
    exact sl _ _ (s1 _ _ h)
end
end Ev

/-! ## Bench: the scopes of what edits -/
namespace Ev
open PySem PySem.Spec PyProof.Rows L2
theorem scBRe : FnScope ["self", "index", "item"] ["self", "index", "item"] (defScope (sB 6)) := ⟨rfl, rfl, rfl, by decide +kernel, rfl, by decide +kernel, by decide +kernel⟩
theorem scBD : FnScope ["self", "index", "item"] ["self", "index"] (defScope (sB 7)) := ⟨rfl, rfl, rfl, by decide +kernel, rfl, by decide +kernel, by decide +kernel⟩
theorem scBU : FnScope ["self", "first", "stop", "item", "program"] ["self", "first", "stop", "item"] (defScope (sB 14)) := ⟨rfl, rfl, rfl, by decide +kernel, rfl, by decide +kernel, by decide +kernel⟩
theorem scCi : FnScope ["value", "least", "most"] ["value", "least", "most"] (defScope (topS 31)) := ⟨rfl, rfl, rfl, by decide +kernel, rfl, by decide +kernel, by decide +kernel⟩
end Ev

/-! ## == and != where an own class has its own __eq__ -/
namespace Ev
open PySem PySem.Spec PyProof.Rows PySem.SeqAt L2
section
variable {prog : Program} {w : World} {A : Around} {E : Value → Shared → Prop} {s : Shared} {K : PySem.W.Frag} {x dx C l : Addr}
/-- a tuple is not equal to what is no tuple -/
theorem tup_declines {o : Obj} (X : K.In s.heap) (hx : s.heap.get? x = some (PySem.W.instObj C dx)) (ho : s.heap.get? l = some o) (hc : o.cls = .type "tuple") (hn : PySem.W.subIn K (.ref C) (.type "tuple") = some false) :
    wpAny (model prog w) A (tryCompare (.ref l) "__eq__" (.ref x)) (fun r s' => r = none ∧ s' = s) E s := by
  refine wpAny_tryCompare_declines (T := "tuple") ⟨o, ho, hc⟩ F.slot_tuple_eq (wpAny_call_entry F.slot_tuple_eq ⟨o, ho, hc⟩ F.entry_tuple_eq ?_ (F.args_tuple_eq_2 _ _))
  have sub : ∀ {A : Around} {Q : Bool → Shared → Prop} {E : Value → Shared → Prop}, Q false s → wpAny (model prog w) A (isSubtype (.ref C) (.type "tuple")) Q E s := fun q => (PySem.W.looks_subIn X hn).here q
  obtain ⟨pc, pdi, pda, psl⟩ := o
  dsimp only at hc
  subst hc
  unfold PySem.W.instObj at hx
  wp_walk using wpAny_loadPart' hx, wpAny_loadPart' ho, sub
  exact ⟨_, rfl, rfl, rfl, rfl⟩
theorem str_declines (z : Str) (tk : Tok) (hx : s.heap.get? x = some (PySem.W.instObj C dx)) :
    wpAny (model prog w) A (tryCompare (.str z tk) "__eq__" (.ref x)) (fun r s' => r = none ∧ s' = s) E s := by
  refine wpAny_tryCompare_declines (T := "str") (show s.TypeIs (.str z tk) "str" from rfl) F.slot_str_eq (wpAny_call_entry F.slot_str_eq (show s.TypeIs (.str z tk) "str" from rfl) F.entry_str_eq ?_ (F.args_str_eq_2 _ _))
  unfold PySem.W.instObj at hx
  wp_walk using wpAny_loadPart' hx
  exact ⟨_, rfl, rfl, rfl, rfl⟩
theorem int_declines (z : Int) (tk : Tok) (hx : s.heap.get? x = some (PySem.W.instObj C dx)) :
    wpAny (model prog w) A (tryCompare (.int z tk) "__eq__" (.ref x)) (fun r s' => r = none ∧ s' = s) E s := by
  refine wpAny_tryCompare_declines (T := "int") (typeIs_int s z tk) slot_int_eq (wpAny_call_entry slot_int_eq (typeIs_int s z tk) entry_int_eq ?_ (F.args_int_eq_2 _ _))
  unfold PySem.W.instObj at hx
  wp_walk using wpAny_loadPart' hx
  exact ⟨_, rfl, rfl, rfl, rfl⟩
theorem non_declines : wpAny (model prog w) A (tryCompare .none "__eq__" (.ref x)) (fun r s' => r = none ∧ s' = s) E s :=
  wpAny_tryCompare_declines (show s.TypeIs .none "NoneType" from rfl) F.slot_NoneType_eq_refl (call_gives F.slot_NoneType_eq_refl rfl F.entry_NoneType_eq (F.args_NoneType_eq_2 _ _) (NoneType___eq___none_ref_0 x) ⟨rfl, rfl, rfl⟩)
/-- what another thing declines, the own __eq__ answers -/
theorem rc_refl {b : Value} {T : String} {ox : Obj} {od : Option Obj} {f : Addr} {Q : Value → Shared → Prop} (hu : A.units < cLine) (X : K.In s.heap) (I : PySem.W.InstAt s.heap x ox C od) (hone : oneThing? .Eq b (.ref x) = none) (hb : PySem.W.Looks (model prog w) s.heap (typeOf b) (.type T))
    (hn : PySem.W.subIn K (.ref C) (.type T) = some false) (hd : wpAny (model prog w) A (tryCompare b "__eq__" (.ref x)) (fun r s' => r = none ∧ s' = s) E s) (hs : PySem.W.findIn K (.ref C) "__eq__" = some (some (.ref f))) (hf : PySem.W.isFn K (.ref f) = true)
    (h : wpAny (model prog w) A (call (.ref f) [.ref x, b]) (PySem.W.CmpBack Q) E s) : wpAny (model prog w) A (richCompare .Eq b (.ref x)) Q E s := by
  have own : wpAny (model prog w) A (tryCompare (.ref x) "__eq__" b) (fun r s' => ∃ v, r = some v ∧ Q v s') E s := by
    unfold tryCompare
    refine wpAny_bind (PySem.W.ifBound_K X I hs hf (wpAny_mono h (fun v _ hv => ?_) fun _ _ z => z))
    cases v
    all_goals first | exact False.elim hv | exact wpAny_pure ⟨_, rfl, hv⟩
  simp only [richCompare, cmpInfo_Eq, hone]
  refine wpAny_holding (wpAny_bind (wpAny_cRoomFor hu (wpAny_bind (hb.here (wpAny_bind (I.type.here ?_))))))
  rw [show (Value.type T != Value.ref C) = true from by simp]
  simp only [if_true]
  refine wpAny_bind ((PySem.W.looks_subIn X hn).here ?_)
  simp only [Bool.false_eq_true, if_false, Bool.not_false, if_true]
  refine wpAny_bind (wpAny_mono hd (fun r s1 ⟨z1, z2⟩ => ?_) fun _ _ z => z)
  subst z1 z2
  refine wpAny_bind (wpAny_mono own (fun r s1 ⟨v, z1, z2⟩ => ?_) fun _ _ z => z)
  subst z1
  exact wpAny_pure z2
/-- != is the opposite of the own __eq__ -/
theorem rc_ne {y f : Addr} {ox : Obj} {od : Option Obj} {Q : Value → Shared → Prop} (hu : A.units + 8 < cLine) (X : K.In s.heap) (I : PySem.W.InstAt s.heap x ox C od) (hb : PySem.W.Looks (model prog w) s.heap (typeOf (.ref y)) (.ref C)) (hm : PySem.W.mroIn K C (.type "object") = some true)
    (hne : PySem.W.findIn K (.ref C) "__ne__" = some (some (.builtin "object.__ne__"))) (hs : PySem.W.findIn K (.ref C) "__eq__" = some (some (.ref f))) (hf : PySem.W.isFn K (.ref f) = true)
    (h : wpAny (model prog w) A.in1 (call (.ref f) [.ref x, .ref y]) (fun v s' => ∃ c, v = .bool c ∧ Q (.bool (!c)) s') E s) : wpAny (model prog w) A (richCompare .NotEq (.ref x) (.ref y)) Q E s := by
  have inn : wpAny (model prog w) A.in1 (Builtin.«object.__ne__» ⟨[.ref x, .ref y], []⟩) (fun r s' => ∃ c, r = Fin.done (.ret (.bool (!c))) ∧ Q (.bool (!c)) s') E s := by
    have eqc : ∀ {Q' : Option Value → Shared → Prop}, (∀ c s', Q (.bool (!c)) s' → Q' (some (.bool c)) s') → wpAny (model prog w) A.in1 (callSpecialIfBound? (.ref x) "__eq__" [.ref y]) Q' E s := fun k =>
      PySem.W.ifBound_K X I hs hf (wpAny_mono h (fun v s' ⟨c, e, q⟩ => by subst e; exact k c s' q) fun _ _ z => z)
    have hu1 : A.in1.units < cLine := by show A.units + 1 < cLine; omega
    unfold Builtin.«object.__ne__»
    wp_walk using eqc, wpAny_cRoomFor hu1
    intro c s' q
    wp_walk
    exact ⟨c, rfl, q⟩
  have ty := I.type (M := model prog w)
  simp only [richCompare, cmpInfo_NotEq, oneThing_ref]
  refine wpAny_holding (wpAny_bind (wpAny_cRoomFor (by omega) (wpAny_bind (ty.here (wpAny_bind (hb.here ?_))))))
  rw [show (Value.ref C != Value.ref C) = false from by simp]
  simp only [Bool.false_eq_true, if_false]
  refine wpAny_bind (wpAny_pure ?_)
  simp only [Bool.false_eq_true, if_false]
  have one : wpAny (model prog w) A (tryCompare (.ref x) "__ne__" (.ref y)) (fun r s' => ∃ c, r = some (.bool (!c)) ∧ Q (.bool (!c)) s') E s := by
    have tyh : ∀ {A : Around} {Q : Value → Shared → Prop} {E : Value → Shared → Prop}, Q (.ref C) s → wpAny (model prog w) A (typeOf (.ref x)) Q E s := fun q => ty.here q
    have fnh : ∀ {A : Around} {Q : Option Value → Shared → Prop} {E : Value → Shared → Prop}, Q (some (.builtin "object.__ne__")) s → wpAny (model prog w) A (typeLookup (.ref C) "__ne__") Q E s := fun q => (PySem.W.looks_findIn X hne).here q
    have cal : ∀ {Q' : Value → Shared → Prop}, (∀ c s', Q (.bool (!c)) s' → Q' (.bool (!c)) s') → wpAny (model prog w) A (call (.builtin "object.__ne__") [.ref x, .ref y]) Q' E s := fun k =>
      wpAny_call (codeAny_call_builtin F.cmp_object.ne.plain F.cmpEntry_ne (PySem.W.check_slot F.cmpKind_ne F.cmpSplit_ne (ty.andThen (PySem.W.looks_mroIn X hm)) (F.cmpArgs_ne _ _) (wpAny_mono inn (fun r s' ⟨c, e, q⟩ => by subst e; exact k c s' q) fun _ _ z => z)))
    unfold tryCompare callSpecialIfBound? bindSpecialIfBound?
    wp_walk using tyh, fnh, cal
    simp only [F.cmp_object.ne.bind]
    refine wpAny_askSetting ?_
    refine wpAny_ite_split (fun _ => ?_) (fun _ => ?_)
    · refine wpAny_bind (wpAny_pure (wpAny_pure (wpAny_bind (cal fun c s' q => wpAny_pure (wpAny_pure ⟨c, rfl, q⟩)))))
    · refine wpAny_tryCatch (wpAny_bind (wpAny_pure (wpAny_pure (wpAny_bind (cal fun c s' q => wpAny_pure (wpAny_pure ⟨c, rfl, q⟩))))))
  refine wpAny_bind (wpAny_mono one (fun r s1 ⟨v, z1, z2⟩ => ?_) fun _ _ z => z)
  subst z1
  exact wpAny_pure z2
end
end Ev

/-! ## == and != of instances, as rules -/
namespace Ev
open PySem PySem.Spec PyProof.Rows PySem.SeqAt L2
theorem sub_own {C : Addr} (d : PyData) (K : PySem.W.Frag) : PySem.W.subIn K (.type (tyD d)) (.ref C) = some false := by
  have go : ∀ {T : String} {l : List Value}, fastBuiltinMro T = some l → l.contains (.ref C) = false → PySem.W.subIn K (.type T) (.ref C) = some false := fun {T l} e h => by
    show (fastBuiltinMro T).map (·.contains (.ref C)) = some false
    rw [e, Option.map_some, h]
  cases d
  · exact go (T := "NoneType") (l := [.type "NoneType", .type "object"]) (by decide +kernel) (by simp)
  · exact go (T := "bool") (l := [.type "bool", .type "int", .type "object"]) (by decide +kernel) (by simp)
  · exact go (T := "int") (l := [.type "int", .type "object"]) (by decide +kernel) (by simp)
  · exact go (T := "str") (l := [.type "str", .type "object"]) (by decide +kernel) (by simp)
  · exact go (T := "list") (l := [.type "list", .type "object"]) (by decide +kernel) (by simp)
  · exact go (T := "tuple") (l := [.type "tuple", .type "object"]) (by decide +kernel) (by simp)
  · exact go (T := "dict") (l := [.type "dict", .type "object"]) (by decide +kernel) (by simp)
/-- another thing: a datum, or an instance of the same class -/
def Tob (K : PySem.W.Frag) (C : Addr) (H : Hp) (y : V) : Prop := (∃ d, Da K H y d) ∨ ∃ b dy gs, y = .ref b ∧ H b = some (.ins C dy gs)
def rEqO (K : PySem.W.Frag) (C : Addr) (sp : Sp) : R2 := fun x y H Q => ∃ a dx fs, x = .ref a ∧ H a = some (.ins C dx fs) ∧ Tob K C H y ∧ sp [x, y] H (fun v H' => (∃ c, v = .bl c) ∧ Q v H') E0
def rNeO (C : Addr) (sp : Sp) : R2 := fun x y H Q => ∃ a dx fs b dy gs, x = .ref a ∧ H a = some (.ins C dx fs) ∧ y = .ref b ∧ H b = some (.ins C dy gs) ∧ sp [x, y] H (fun v H' => ∃ c, v = .bl c ∧ Q (.bl (!c)) H') E0
/-- the instance stands on the right -/
def rEqR (K : PySem.W.Frag) (C : Addr) (sp : Sp) : R2 := fun x y H Q => ∃ a dx fs, y = .ref a ∧ H a = some (.ins C dx fs) ∧ (x = .non ∨ (∃ i, x = .int i) ∨ (∃ z, x = .str z) ∨ ∃ l xs, x = .ref l ∧ SqT K H l xs) ∧ sp [y, x] H (fun v H' => (∃ c, v = .bl c) ∧ Q v H') E0
section
variable {X : Cx} {k : Nat} {C : Addr} {ps : List Str} {sp : Sp}
/-- one level down -/
theorem run_in1 {f : Addr} {fd : FuncData} {pins : List (Addr × Obj)} {σ : L2.St} {H : Hp} {s : Shared} {Q : VK} {us : List Value} {vs : List V} (F : FnOk X.prog X.w X.K X.mg X.base CX0 k f fd ps sp) (hr : Room (k + 1) X.A) (hb : Binds X.K fd ps [])
    (I : Inv X pins σ H s) (r : Vals vs us) (h : sp vs H Q E0) : wpAny (model X.prog X.w) X.A.in1 (call (.ref f) us) (EP X pins σ Q) X.xe s := by
  have hl : us.length = ps.length := r.length ▸ F.len _ _ _ _ h
  have e0 := I.env0
  have bt := hb s us I.kIn (by simpa using hl)
  rw [List.append_nil] at bt
  have go := F.run X.A.in1 X.stack s H ⟨us, []⟩ us vs Q E0 (hr.in1) ⟨e0.frames, e0.mod, e0.bs, e0.bsz, e0.funs, e0.frf, e0.hok, e0.bare⟩ bt r h
  refine wpAny_call (codeAny_mono go fun a s' hq => ?_)
  match a, hq with
  | .error e, hq => exact pass0 pins σ H s e s' I hq
  | .ok (.ret u), hq => exact I.after hq
theorem obj_of {H : Hp} {a dx : Addr} {fs : List (Str × V)} {pins : List (Addr × Obj)} {σ : L2.St} {s : Shared} (I : Inv X pins σ H s) (ha : H a = some (.ins C dx fs)) : s.heap.get? a = some (PySem.W.instObj C dx) ∧ ∃ od, PySem.W.InstAt s.heap a (PySem.W.instObj C dx) C od := by
  obtain ⟨mA, J, _⟩ := ins_get I.hok ha
  obtain ⟨od, J', _⟩ := J.look
  exact ⟨J.1, _, J'⟩
theorem back_bool {op : CmpOp} {pins : List (Addr × Obj)} {σ : L2.St} {Q : VK} {v : Value} {s' : Shared} (h : EP X pins σ (fun v H' => (∃ c, v = .bl c) ∧ Q v H') v s') : PySem.W.CmpBack (EP X pins σ Q) v s' := by
  obtain ⟨z, H', I', rz, ⟨c, rfl⟩, q⟩ := h
  cases (show v = Value.bool c from rz)
  exact ⟨.bl c, H', I', rfl, q⟩
theorem op_eqO (M : MCal X.prog X.w X.K X.mg X.base k C "__eq__" ps sp) (hr : Room k X.A) : OpR X (compareOp .Eq) (rEqO X.K C sp) := by
  rintro pins s σ H x y v u Q I rx ry ⟨a, dx, fs, rfl, ha, hy, hq⟩
  obtain ⟨f, fd, F, hb, hm⟩ := M.ex
  cases rx
  obtain ⟨_, od, J⟩ := obj_of I ha
  obtain ⟨m, hF⟩ := I.fr
  show wpAny (model X.prog X.w) X.A (richCompare .Eq (.ref a) u) (EP X pins σ Q) X.xe s
  have run := run_fn F hr hb .nil pass0 I (show Vals [V.ref a, y] [Value.ref a, u] from .cons rfl (.cons ry .nil)) hq
  have fin := wpAny_mono run (fun _ _ z => back_bool (op := .Eq) z) fun _ _ z => z
  rcases hy with ⟨d, hd⟩ | ⟨b, dy, gs, rfl, hbO⟩
  · obtain ⟨P, Z, p, _⟩ := kit_of I ry hd.ty
    exact PySem.W.cmp_K (op := .Eq) hr.units0 hF I.ok.mod.kin J (Z.ty _ _ I.kIn p) (Bool.or_eq_true_iff.mpr (.inr (beq_iff_eq.mpr (sub_own d X.K)))) hm.at_ hm.fn fin
  · cases ry
    obtain ⟨_, od', J'⟩ := obj_of I hbO
    exact PySem.W.cmp_K (op := .Eq) hr.units0 hF I.ok.mod.kin J J'.type (Bool.or_eq_true_iff.mpr (.inl (beq_self_eq_true _))) hm.at_ hm.fn fin
theorem op_neO (M : MCal X.prog X.w X.K X.mg X.base k C "__eq__" ps sp) (hr : Room (k + 1) X.A) (ho : PySem.W.mroIn X.K C (.type "object") = some true) (hne : PySem.W.findIn X.K (.ref C) "__ne__" = some (some (.builtin "object.__ne__"))) : OpR X (compareOp .NotEq) (rNeO C sp) := by
  rintro pins s σ H x y v u Q I rx ry ⟨a, dx, fs, b, dy, gs, rfl, ha, rfl, hbO, hq⟩
  obtain ⟨f, fd, F, hb, hm⟩ := M.ex
  cases rx
  cases ry
  obtain ⟨_, od, J⟩ := obj_of I ha
  obtain ⟨_, od', J'⟩ := obj_of I hbO
  have hu := hr.units
  have run := run_in1 F hr hb I (show Vals [V.ref a, V.ref b] [Value.ref a, Value.ref b] from .cons rfl (.cons rfl .nil)) hq
  show wpAny (model X.prog X.w) X.A (richCompare .NotEq (.ref a) (.ref b)) (EP X pins σ Q) X.xe s
  refine rc_ne (by omega) I.kIn J J'.type ho hne hm.at_ hm.fn (wpAny_mono run (fun v s' z => ?_) fun _ _ z => z)
  obtain ⟨z, H', I', rz, c, rfl, q⟩ := z
  exact ⟨c, rz, .bl (!c), H', I', rfl, q⟩
theorem op_eqRf (M : MCal X.prog X.w X.K X.mg X.base k C "__eq__" ps sp) (hr : Room k X.A) (hn : ∀ T ∈ ["tuple", "NoneType", "int", "str"], PySem.W.subIn X.K (.ref C) (.type T) = some false) : OpR X (compareOp .Eq) (rEqR X.K C sp) := by
  rintro pins s σ H x y v u Q I rx ry ⟨a, dx, fs, rfl, ha, hx, hq⟩
  obtain ⟨f, fd, F, hb, hm⟩ := M.ex
  cases ry
  obtain ⟨hob, od, J⟩ := obj_of I ha
  have run := run_fn F hr hb .nil pass0 I (show Vals [V.ref a, x] [Value.ref a, v] from .cons rfl (.cons rx .nil)) hq
  have fin := wpAny_mono run (fun _ _ z => back_bool (op := .Eq) z) fun _ _ z => z
  rcases hx with rfl | ⟨i, rfl⟩ | ⟨z, rfl⟩ | ⟨l, xs, rfl, hl⟩
  · cases (show v = Value.none from rx)
    exact rc_refl (T := "NoneType") hr.units0 I.kIn J rfl (.of_pure rfl) (hn _ (by simp)) non_declines hm.at_ hm.fn fin
  · obtain ⟨t, e⟩ := (show ∃ t, v = Value.int i t from rx)
    subst e
    exact rc_refl (T := "int") hr.units0 I.kIn J rfl (.of_pure rfl) (hn _ (by simp)) (int_declines i t hob) hm.at_ hm.fn fin
  · obtain ⟨t, e⟩ := (show ∃ t, v = Value.str z t from rx)
    subst e
    exact rc_refl (T := "str") hr.units0 I.kIn J rfl (.of_pure rfl) (hn _ (by simp)) (str_declines z t hob) hm.at_ hm.fn fin
  · cases (show v = Value.ref l from rx)
    obtain ⟨its, _, ⟨o, ho, hc, _⟩, _⟩ := I.tuple hl
    exact rc_refl (T := "tuple") hr.units0 I.kIn J rfl (hc ▸ (PySem.W.Looks.ld ho).andThen .now) (hn _ (by simp)) (tup_declines I.kIn hob ho hc (hn _ (by simp))) hm.at_ hm.fn fin
end
end Ev

/-! ## How long a text of data is, element by element -/
namespace Ev
open PySem PySem.Spec PyProof.Rows L2
structure SzL (e w : Nat) (ds : List PyData) : Prop where
  sh : PyData.showableAll ds = true
  ls : PyData.leavesShortAll 1000 ds = true
  dp : PyData.depthAll ds ≤ e
  wt : PyData.weightAll ds ≤ w
theorem szl_nil {e w : Nat} : SzL e w [] := ⟨by rw [PyData.showableAll], by rw [PyData.leavesShortAll], by rw [PyData.depthAll]; exact Nat.zero_le _, by rw [PyData.weightAll]; exact Nat.zero_le _⟩
theorem szl_cons {e w v : Nat} {d : PyData} {ds : List PyData} (h : Sz e v d) (t : SzL e w ds) : SzL e (v + 1 + w) (d :: ds) := by
  refine ⟨by rw [PyData.showableAll, h.sh, t.sh]; rfl, by rw [PyData.leavesShortAll, h.ls, t.ls]; rfl, ?_, ?_⟩
  · rw [PyData.depthAll]
    exact Nat.max_le.mpr ⟨h.dp, t.dp⟩
  · rw [PyData.weightAll]
    have := h.wt
    have := t.wt
    omega
theorem SzL.up {e w e' w' : Nat} {ds : List PyData} (h : SzL e w ds) (he : e ≤ e') (hw : w ≤ w') : SzL e' w' ds := ⟨h.sh, h.ls, Nat.le_trans h.dp he, Nat.le_trans h.wt hw⟩
theorem SzL.tup {e w : Nat} {ds : List PyData} (h : SzL e w ds) : Sz (e + 1) w (.tuple ds) := by
  refine ⟨by rw [PyData.showable]; exact h.sh, by rw [PyData.leavesShort]; exact h.ls, ?_, by rw [PyData.weight]; exact h.wt⟩
  rw [PyData.depth]
  have := h.dp
  omega
theorem SzL.lst {e w : Nat} {ds : List PyData} (h : SzL e w ds) : Sz (e + 1) w (.list ds) := by
  refine ⟨by rw [PyData.showable]; exact h.sh, by rw [PyData.leavesShort]; exact h.ls, ?_, by rw [PyData.weight]; exact h.wt⟩
  rw [PyData.depth]
  have := h.dp
  omega
theorem sz_nat {e w n : Nat} (h : n < 2 ^ 64) (hw : 64 ≤ w) : Sz e w (.int (n : Nat)) := (sz_int (k := 64) (by omega) (by decide) (by decide)).up (Nat.zero_le _) hw
theorem sz_i64 {e w : Nat} {i : Int} (h : i.natAbs < 2 ^ 64) (hw : 64 ≤ w) : Sz e w (.int i) := (sz_int (k := 64) h (by decide) (by decide)).up (Nat.zero_le _) hw
theorem sz_non {e w : Nat} : Sz e w .none := ⟨by rw [PyData.showable], by rw [PyData.leavesShort], by rw [PyData.depth]; exact Nat.zero_le _, by rw [PyData.weight]; exact Nat.zero_le _⟩
theorem sz_bl {e w : Nat} {b : Bool} : Sz e w (.bool b) := ⟨by rw [PyData.showable], by rw [PyData.leavesShort], by rw [PyData.depth]; exact Nat.zero_le _, by rw [PyData.weight]; exact Nat.zero_le _⟩
theorem sz_s8 {e w : Nat} {x : Str} (h : nmB x = true) (hw : 8 ≤ w) : Sz e w (.str x) := (nm_sz h).up (Nat.zero_le _) hw
theorem szl_its {n B : Nat} {is : List It} (h : ∀ i ∈ is, Okp B n i) (hm : Its.nm is) : SzL (2 * n + 1) (165 * Its.ni is) (is.map It.d) := by
  obtain ⟨h1, h2, h3, h4⟩ := Its.szd n B is h hm
  exact ⟨h1, h2, h3, h4⟩
end Ev

/-! ## How long the text of a program is -/
namespace Ev
open PySem PySem.Spec PyProof.Rows L2
theorem nameD_nm {x : Str} (h : nameD (.str x) = true) : nmB x = true := by
  have h : (decide (1 ≤ x.length) && (decide (x.length ≤ 8) && x.cps.toList.all fun c => decide (97 ≤ c) && decide (c ≤ 122))) = true := h
  rw [Bool.and_eq_true, Bool.and_eq_true, decide_eq_true_eq, decide_eq_true_eq, List.all_eq_true] at h
  obtain ⟨_, h2, h3⟩ := h
  have h4 : ∀ c ∈ x.cps.toList, c ≤ 122 := fun c hc => by
    have := h3 c hc
    rw [Bool.and_eq_true, decide_eq_true_eq, decide_eq_true_eq] at this
    exact this.2
  unfold nmB
  rw [Bool.and_eq_true, Bool.and_eq_true]
  refine ⟨⟨decide_eq_true h2, List.all_eq_true.mpr fun c hc => decide_eq_true ?_⟩, ?_⟩
  · have := h4 c hc
    have e : (16 : Nat) ^ 8 = 4294967296 := by decide
    omega
  · unfold PyData.strOk
    rw [← Array.all_toList]
    exact List.all_eq_true.mpr fun c hc => decide_eq_true (by have := h4 c hc; omega)
mutual
theorem vi_nm : ∀ (n : Nat) (i : It), Vi n i → It.nm i
  | n, .line x t, h => by
    have h := vi_line.mp h
    rw [It.nm]
    have e : (2 : Nat) ^ 128 = 340282366920938463463374607431768211456 := by decide +kernel
    exact ⟨nameD_nm h.1, by omega⟩
  | 0, .loop r is, h => h.elim
  | n + 1, .loop r is, h => by
    obtain ⟨h1, h2, _, _, h5⟩ : 1 ≤ r ∧ r ≤ 1000000000000000000 ∧ 1 ≤ is.length ∧ is.length ≤ 20 ∧ ∀ i ∈ is, Vi n i := h
    rw [It.nm]
    have e : (2 : Nat) ^ 128 = 340282366920938463463374607431768211456 := by decide +kernel
    exact ⟨by omega, vis_nm n is h5⟩
theorem vis_nm : ∀ (n : Nat) (is : List It), (∀ i ∈ is, Vi n i) → Its.nm is
  | _, [], _ => by
    rw [Its.nm]
    trivial
  | n, i :: is, h => by
    rw [Its.nm]
    exact ⟨vi_nm n i (h i (List.mem_cons_self ..)), vis_nm n is fun j hj => h j (List.mem_cons_of_mem _ hj)⟩
end
theorem ni_sub_take (is : List It) (k : Nat) : Its.ni (is.take k) ≤ Its.ni is := by
  have z := congrArg Its.ni (List.take_append_drop k is)
  rw [ni_app] at z
  omega
theorem ni_sub_drop (is : List It) (k : Nat) : Its.ni (is.drop k) ≤ Its.ni is := by
  have z := congrArg Its.ni (List.take_append_drop k is)
  rw [ni_app] at z
  omega
theorem Vp.szl {is : List It} (h : Vp is) : SzL 11 9900 (is.map It.d) := (szl_its (n := 5) (fun i hi => vi_okp 5 i (h.vi i hi)) (vis_nm 5 is h.vi)).up (by decide) (by have := h.ni; omega)
theorem Vp.sz {is : List It} (h : Vp is) : Sz 12 9900 (.tuple (is.map It.d)) := h.szl.tup
theorem Vp.szl_part {is : List It} (h : Vp is) (a b : Nat) : SzL 11 9900 (((is.map It.d).drop a).take b) := by
  rw [← List.map_drop, ← List.map_take]
  have hm : ∀ i ∈ (is.drop a).take b, i ∈ is := fun i hi => List.mem_of_mem_drop (List.mem_of_mem_take hi)
  refine (szl_its (n := 5) (fun i hi => vi_okp 5 i (h.vi i (hm i hi))) (vis_nm 5 _ fun i hi => h.vi i (hm i hi))).up (by decide) ?_
  have := h.ni
  have := ni_sub_take (is.drop a) b
  have := ni_sub_drop is a
  omega
end Ev
namespace Ev
open PySem PySem.Spec PyProof.Rows L2
mutual
theorem It.lay0 : ∀ i : It, It.nm i → PyData.canLay0 (It.d i) = true
  | .line x t, h => by
    rw [It.nm] at h
    rw [It.d, PyData.canLay0, PyData.canLayAll0, PyData.canLayAll0, PyData.canLayAll0, PyData.canLayAll0, PyData.canLay0, PyData.canLay0, PyData.canLay0, nm_ok h.1]
    decide +kernel
  | .loop r is, h => by
    rw [It.nm] at h
    rw [It.d, PyData.canLay0, PyData.canLayAll0, PyData.canLayAll0, PyData.canLayAll0, PyData.canLayAll0, PyData.canLay0, PyData.canLay0, PyData.canLay0, Its.lay0 is h.2]
    decide +kernel
theorem Its.lay0 : ∀ is : List It, Its.nm is → PyData.canLayAll0 (Its.d is) = true
  | [], _ => by rw [Its.d, PyData.canLayAll0]
  | i :: is, h => by
    rw [Its.nm] at h
    rw [Its.d, PyData.canLayAll0, It.lay0 i h.1, Its.lay0 is h.2]
    rfl
end
theorem Vp.shaped {is : List It} (h : Vp is) : SeqAt.shaped (.tuple (is.map It.d)) = true := by
  have z := Its.lay0 is (vis_nm 5 is h.vi)
  have d := h.szl.dp
  unfold SeqAt.shaped
  rw [PyData.canLay0, ← Its.d_map, z, PyData.depth, Its.d_map, Bool.true_and]
  exact decide_eq_true (by omega)
end Ev

/-! ## Data of tuples, to be compared -/
namespace Ev
open PySem PySem.Spec PyProof.Rows L2
mutual
theorem da_dp2 {K : PySem.W.Frag} {H : Hp} : ∀ {v : V} {d : PyData}, tupD d = true → Da K H v d → Dp K H v d
  | _, .none, _, h => by
    cases h
    exact .non
  | _, .bool b, _, h => by
    cases h
    exact .bl b
  | _, .int i, _, h => by
    cases h
    exact .int i
  | _, .str x, _, h => by
    cases h
    exact .str x
  | _, .list ds, t, _ => by
    rw [tupD] at t
    cases t
  | _, .tuple ds, t, h => by
    rw [tupD] at t
    cases h with
    | tup hs ha => exact .tup hs (daAll_dp2 t ha)
  | _, .dict _, t, _ => by
    rw [tupD] at t
    cases t
theorem daAll_dp2 {K : PySem.W.Frag} {H : Hp} : ∀ {vs : List V} {ds : List PyData}, tupDs ds = true → DaAll K H vs ds → DpAll K H vs ds
  | _, [], _, h => by
    cases h
    exact .nil
  | _, d :: ds, t, h => by
    rw [tupDs, Bool.and_eq_true] at t
    cases h with
    | cons h1 h2 => exact .cons (da_dp2 t.1 h1) (daAll_dp2 t.2 h2)
end
end Ev

/-! ## Bench.__eq__ -/
namespace Ev
open PySem PySem.Spec PyProof.Rows L2
/-- what is written of the class itself -/
structure BEq (K : PySem.W.Frag) (mg : Str → Option Value) (C : Addr) : Prop where
  g : mg "Bench" = some (.ref C)
  ha : PySem.W.findIn K (.ref C) "__class__" = some (some (.builtin "object.__class__"))
  hn : PySem.W.specialIn K (.builtin "object.__class__") "__get__" = some (some (.builtin "getset_descriptor.__get__"))
  htk : PySem.W.takesIn K (.builtin "object.__class__") = some true
  hm : PySem.W.mroIn K C (.type "object") = some true
  k1 : PySem.W.kitOne K (.ref C) (.ref C) = some true
  k0 : ∀ T ∈ ["tuple", "NoneType", "int", "str"], PySem.W.kitOne K (.type T) (.ref C) = some false
  sb : ∀ T ∈ ["tuple", "NoneType", "int", "str"], PySem.W.subIn K (.ref C) (.type T) = some false
  ne : PySem.W.findIn K (.ref C) "__ne__" = some (some (.builtin "object.__ne__"))
def beqB (K : PySem.W.Frag) (C : Addr) : Bool :=
  (PySem.W.findIn K (.ref C) "__class__" == some (some (.builtin "object.__class__"))) && ((PySem.W.specialIn K (.builtin "object.__class__") "__get__" == some (some (.builtin "getset_descriptor.__get__"))) && ((PySem.W.takesIn K (.builtin "object.__class__") == some true) &&
  ((PySem.W.mroIn K C (.type "object") == some true) && ((PySem.W.kitOne K (.ref C) (.ref C) == some true) && ((["tuple", "NoneType", "int", "str"].all fun T => PySem.W.kitOne K (.type T) (.ref C) == some false) &&
  ((["tuple", "NoneType", "int", "str"].all fun T => PySem.W.subIn K (.ref C) (.type T) == some false) && (PySem.W.findIn K (.ref C) "__ne__" == some (some (.builtin "object.__ne__")))))))))
theorem beqB_ok {K : PySem.W.Frag} {mg : Str → Option Value} {C : Addr} (h : beqB K C = true) (g : mg "Bench" = some (.ref C)) : BEq K mg C := by
  unfold beqB at h
  rw [Bool.and_eq_true, Bool.and_eq_true, Bool.and_eq_true, Bool.and_eq_true, Bool.and_eq_true, Bool.and_eq_true, Bool.and_eq_true] at h
  obtain ⟨h1, h2, h3, h4, h5, h6, h7, h8⟩ := h
  exact ⟨g, beq_iff_eq.mp h1, beq_iff_eq.mp h2, beq_iff_eq.mp h3, beq_iff_eq.mp h4, beq_iff_eq.mp h5, fun T hT => beq_iff_eq.mp (List.all_eq_true.mp h6 T hT), fun T hT => beq_iff_eq.mp (List.all_eq_true.mp h7 T hT), beq_iff_eq.mp h8⟩
/-- the two compared are programs, or the other is no bench -/
def spBE (K : PySem.W.Frag) (C : Addr) : Sp := fun vs H Q _ => ∃ (p e : Addr) (is : List It) (hs : List (List It)) (y : V), vs = [.ref p, y] ∧ BnAt K C H p e is hs ∧
  ((∃ d, Da K H y d ∧ tyD d ∈ ["tuple", "NoneType", "int", "str"] ∧ ∀ H', Same H H' → Q (.bl false) H') ∨ ∃ (p2 e2 : Addr) (js : List It) (gs : List (List It)), y = .ref p2 ∧ BnAt K C H p2 e2 js gs ∧ ∀ H', Same H H' → Q (.bl (PyData.eqv (pgD is) (pgD js))) H')
theorem scBE : FnScope ["self", "other"] ["self", "other"] (defScope (sB 1)) := ⟨rfl, rfl, rfl, by decide +kernel, rfl, by decide +kernel, by decide +kernel⟩
section
variable {P : Program} {w : World} {K : PySem.W.Frag} {mg : Str → Option Value} {base : Heap} {C : Addr}
theorem ok_bE (T : BTx K mg C) (B : BEq K mg C) (nb : NB mg) (D : MDef K C "__eq__" "Bench.__eq__" (sB 1) ["self", "other"]) : MCal P w K mg base 1 C "__eq__" ["self", "other"] (spBE K C) := by
  refine D.ok scBE (fun vs H Q E h => ?_) (fun f cdv A outer s H vs Q E hr h => ?_)
  · obtain ⟨p, e, is, hs, y, rfl, _⟩ := h
    rfl
  · obtain ⟨p, e, is, hs, y, rfl, hb, h⟩ := h
    obtain ⟨dx, cur, h1, h2⟩ := hb.ob
    refine ⟨_, pss_one (ps_ret (pe_and (pe_callB call_isi (by rfl) nb.at (by decide +kernel) (pa_cons (pv 1) (pa_cons (pe_glob (v := .ref C) rfl B.g rfl) pa_nil))) (pe_one (pe_cmpR (op_eqD hr.units) (pe_fld (pv 0) rfl) (pe_fld (pv 1) rfl) (nomark _))))), ?_⟩
    rcases h with ⟨d, hd, hT, q⟩ | ⟨p2, e2, js, gs, rfl, hb2, q⟩
    · refine ⟨_, rfl, _, .ref C, .type (tyD d), .ref C, false, rfl, .own C, hd.ty, B.k0 _ hT, _, rfl, ?_⟩
      exact iteF (q H Same.rfl')
    · obtain ⟨dx2, cur2, g1, g2⟩ := hb2.ob
      refine ⟨_, rfl, _, .ref C, .ref C, .ref C, true, rfl, .own C, .base (.ins g1 T.cl B.ha B.hn B.htk B.hm), B.k1, _, rfl, ?_⟩
      exact iteT ⟨_, rfl, p, C, dx, _, _, rfl, h1, T.cl, T.nC, flB_cur _ _, _, rfl, p2, C, dx2, _, _, rfl, g1, T.cl, T.nC, flB_cur _ _, _, _, da_dp2 (prog_tup is) h2, da_dp2 (prog_tup js) g2, hb.vp.shaped, hb2.vp.shaped, q H Same.rfl'⟩
end
end Ev

/-! ## Bench.changes -/
namespace Ev
open PySem PySem.Spec PyProof.Rows L2
section
variable {P : Program} {w : World} {K : PySem.W.Frag} {mg : Str → Option Value} {base : Heap} {C : Addr}
theorem ok_bN (T : BTx K mg C) (nb : NB mg) (D : MDef K C "changes" "Bench.changes" (sB 10) ["self"]) : MCal P w K mg base 1 C "changes" ["self"] (spBN K C) := by
  refine D.ok scBN (fun vs H Q E h => ?_) (fun f cdv A outer s H vs Q E hr h => ?_)
  · obtain ⟨p, e, is, hs, rfl, _⟩ := h
    rfl
  · obtain ⟨p, e, is, hs, rfl, hb, q⟩ := h
    obtain ⟨dx, cur, h1, h2⟩ := hb.ob
    obtain ⟨us, h3, h4⟩ := hb.er
    have hl := daAll_len h4
    rw [List.length_map] at hl
    refine ⟨_, pss_one (ps_ret (pe_callB call_len_seq (by rfl) nb.at PySem.boot_len (pa_cons (pe_fld (pv 0) rfl) pa_nil))), ?_⟩
    refine ⟨_, rfl, p, C, dx, _, _, rfl, h1, T.cl, T.nE, flB_ear _ _, e, us, rfl, .inl (.inl (.inl h3)), ?_⟩
    rw [hl]
    exact q
end
end Ev

/-! ## spent, length, lines_of -/
namespace Ev
open PySem PySem.Spec PyProof.Rows L2
def spSpent (K : PySem.W.Frag) (B dep : Nat) : Sp := fun vs H Q _ => ∃ (x : V) (is : List It) (r : Int) (R : Nat), vs = [x, .int r] ∧ Da K H x (.tuple (is.map It.d)) ∧ (∀ i ∈ is, Okp B dep i) ∧ r.natAbs < 2 ^ R ∧ 0 < R ∧ 0 < B ∧
  R + (dep + 1) * B ≤ 900000 ∧ Its.nl is ≤ 100000 ∧ ∀ H' u, Same H H' → (gPl K (Its.sp r is)).p H' u → Q u H'
theorem scSp : FnScope ["items", "rounds", "pairs", "kind", "first", "second"] ["items", "rounds"] (defScope (topS 27)) := ⟨rfl, rfl, rfl, by decide +kernel, rfl, by decide +kernel, by decide +kernel⟩
section
variable {P : Program} {w : World} {K : PySem.W.Frag} {mg : Str → Option Value} {base : Heap} {f fS : Addr} {fd fdS : FuncData}
theorem sp_step {k B dep : Nat} {spR : Sp} (F : Fun K "spent" "spent" (topS 27) f fd) (b : Binds K fd ["items", "rounds"] []) (m : mg "spent" = some (.ref f)) (v : PySem.W.keepIn K (.ref f) = true)
    (GR : FnOk P w K mg base CX0 k f fd ["items", "rounds"] spR) (hR : dep = 0 ∨ ∃ d, dep = d + 1 ∧ spR = spSpent K B d) : FnOk P w K mg base CX0 (k + 1) f fd ["items", "rounds"] (spSpent K B dep) := by
  refine F.ok scSp (fun vs H Q E h => ?_) (fun cdv A outer s H vs Q E hr h => ?_)
  · obtain ⟨x, is, r, R, rfl, _⟩ := h
    rfl
  · obtain ⟨x, is, r, R, rfl, hd, hok, hr0, R0, B0, hb, hnl, q⟩ := h
    refine ⟨_, pss_cons (ps_set (i := 2) scSp.nd rfl (.inl rfl) (pe_lst pa_nil))
      (pss_cons (ps_for PassesOwn.never rfl (pi_tup (pv 0)) (pg_tup rfl (pgs_cons (pg_name (i := 3) scSp.nd rfl (.inl rfl)) (pgs_cons (pg_name (i := 4) scSp.nd rfl (.inl rfl)) (pgs_cons (pg_name (i := 5) scSp.nd rfl (.inl rfl)) pgs_nil))))
        (pss_one (ps_if (pt_cmpR op_eq (pv 3) pe_str (nomark _))
          (pss_one (ps_expr (pe_bm PySem.F.plainAttrs_list PySem.F.slot_list_append PySem.F.type_list_append mt_append (pv 2) (pa_cons (pe_tup (pa_cons (pv 4) (pa_cons (pe_op op_mulW (pv 1) (pv 5)) pa_nil))) pa_nil))))
          (pss_one (ps_expr (pe_bm PySem.F.plainAttrs_list PySem.F.slot_list_extend PySem.F.type_list_extend mt_extend (pv 2) (pa_cons (pe_call GR hr (by rfl) m v b .nil pass0 (pa_cons (pv 5) (pa_cons (pe_op op_mulW (pv 1) (pv 4)) pa_nil))) pa_nil)))))))
      (pss_one (ps_ret (pv 2)))), ?_⟩
    have y := sizeLine_eq
    obtain ⟨a, xs, rfl, hs, ha⟩ := da_prog hd
    refine ⟨(by show 0 ≤ sizeLine; exact Nat.zero_le _), fun l nl => ?_⟩
    have s0 : Same H (upd H l (.lst [])) := same_put nl
    refine ⟨_, rfl, a, rfl, ⟨xs, seqT_mono s0 hs⟩, for_tup (K := K) (a := a) (xs := xs) (fun i σ' H' => ∃ (us : List V) (y3 y4 y5 : Option V), σ' = [some (.ref a), some (.int r), some (.ref l), y3, y4, y5] ∧ Same H H' ∧ H' l = some (.lst us) ∧
      DaAll K H' us ((Its.sp r (is.take i)).map pairD)) ⟨[], none, none, none, rfl, s0, upd_same, .nil⟩ (fun i σ' H' _ ⟨_, _, _, _, _, s', _⟩ => seqT_mono s' hs) ?_ ?_⟩
    · rintro i x' σ' H' hi ⟨us, y3, y4, y5, rfl, s', hl', hda⟩
      obtain ⟨d, hd', hx'⟩ := daAll_at (ha.mono s') hi
      rw [List.getElem?_map] at hd'
      obtain ⟨it, hit, rfl⟩ := Option.map_eq_some_iff.mp hd'
      have hmem := List.mem_of_getElem? hit
      have hnt := nl_take hit
      have hul : us.length = Its.nl (is.take i) := by
        have z := daAll_len hda
        rw [List.length_map, Its.sp_len] at z
        exact z
      have hBd : B ≤ (dep + 1) * B := Nat.le_mul_of_pos_left _ (Nat.succ_pos _)
      cases it with
      | line x t =>
        have hokt := okp_line.mp (hok _ hmem)
        obtain ⟨b', rfl, hb'⟩ := da_line hx'
        have hn1 : It.nl (.line x t) = 1 := by rw [It.nl]
        refine ⟨b', _, rfl, hb', rfl, _, _, rfl, _, _, rfl, _, _, rfl, rfl, ?_⟩
        refine ⟨_, rfl, rfl, _, rfl, ?_⟩
        rw [dec_str]
        refine iteT ?_
        refine ⟨_, rfl, .inl ⟨rfl, _, .inl (.inl hl')⟩, _, rfl, _, rfl, _, rfl, _, _, rfl, rfl, wide_mul hr0 (abs_lt hokt.1 hokt.2) R0 B0 (by omega), (by show 2 ≤ sizeLine; decide), fun t' nt => ?_⟩
        have nlt : l ≠ t' := ne_of_none hl' nt
        refine ⟨l, us, .ref t', rfl, rfl, by rw [upd_ne nlt]; exact hl', by omega, ?_⟩
        refine ⟨us ++ [.ref t'], _, _, _, rfl, fun b o e => ?_, upd_same, ?_⟩
        · rw [upd_ne (ne_of_none e nl), upd_ne (ne_of_none (s' _ _ e) nt)]
          exact s' _ _ e
        · rw [sp_take hit, It.sp, List.map_append]
          have kt : Kt (upd H' t' (.tup [.str x, .int (r * t)])) (upd (upd H' t' (.tup [.str x, .int (r * t)])) l (.lst (us ++ [.ref t']))) := Kt.put (by rw [upd_ne nlt]; exact hl')
          refine da_app (DaAll.kt ((Kt.of (same_put nt)).trans kt) (tup_pairs _) hda) (.cons (.tup (xs := [.str x, .int (r * t)]) (.inl (.inl ?_)) (.cons (.str _) (.cons (.int _) .nil))) .nil)
          rw [upd_ne nlt.symm, upd_same]
      | loop k' js =>
        obtain ⟨d', rfl, hsp⟩ : ∃ d', dep = d' + 1 ∧ spR = spSpent K B d' := by
          rcases hR with h | h
          · subst h
            exact (hok _ hmem).elim
          · exact h
        subst hsp
        obtain ⟨k0, k1, hokj⟩ : 0 ≤ k' ∧ k' < (2 ^ B : Nat) ∧ ∀ i ∈ js, Okp B d' i := hok _ hmem
        obtain ⟨b', v5, rfl, hb', hv5⟩ := da_loop hx'
        have hn1 : It.nl (.loop k' js) = Its.nl js := by rw [It.nl]
        have e1 : (d' + 1 + 1) * B = (d' + 1) * B + B := Nat.succ_mul _ _
        refine ⟨b', _, rfl, hb', rfl, _, _, rfl, _, _, rfl, _, _, rfl, rfl, ?_⟩
        refine ⟨_, rfl, rfl, _, rfl, ?_⟩
        rw [dec_ll]
        refine iteF ?_
        refine ⟨_, rfl, .inl ⟨rfl, _, .inl (.inl hl')⟩, _, rfl, _, rfl, _, rfl, _, _, rfl, rfl, wide_mul hr0 (abs_lt k0 k1) R0 B0 (by omega), v5, js, r * k', R + B, rfl, hv5, hokj, wide_lt hr0 (abs_lt k0 k1), by omega, B0, by omega, by omega, fun H2 u s2 g2 => ?_⟩
        obtain ⟨l2, us2, rfl, hl2, hda2⟩ := g2
        have hul2 : us2.length = Its.nl js := by
          have z := daAll_len hda2
          rw [List.length_map, Its.sp_len] at z
          exact z
        refine ⟨l, l2, us, us2, rfl, rfl, s2 _ _ hl', hl2, by omega, ?_⟩
        refine ⟨us ++ us2, _, _, _, rfl, fun b o e => ?_, upd_same, ?_⟩
        · rw [upd_ne (ne_of_none e nl)]
          exact s2 _ _ (s' _ _ e)
        · rw [sp_take hit, It.sp, List.map_append]
          have kt : Kt H2 (upd H2 l (.lst (us ++ us2))) := Kt.put (s2 _ _ hl')
          exact da_app (DaAll.kt ((Kt.of s2).trans kt) (tup_pairs _) hda) (DaAll.kt kt (tup_pairs _) hda2)
    · rintro σ' H' ⟨us, y3, y4, y5, rfl, s', hl', hda⟩
      have hx : xs.length = is.length := by
        have z := daAll_len ha
        rw [List.length_map] at z
        exact z
      rw [hx, List.take_length] at hda
      exact ⟨_, rfl, q H' _ s' ⟨l, us, rfl, hl', hda⟩⟩
theorem ok_spent {B : Nat} (F : Fun K "spent" "spent" (topS 27) f fd) (b : Binds K fd ["items", "rounds"] []) (m : mg "spent" = some (.ref f)) :
    ∀ dep : Nat, FnOk P w K mg base CX0 (dep + 1) f fd ["items", "rounds"] (spSpent K B dep)
  | 0 => sp_step F b m F.kp no_fn (.inl rfl)
  | n + 1 => sp_step F b m F.kp (ok_spent F b m n) (.inr ⟨n, rfl, rfl⟩)
/-! ### length -/
def spLen (K : PySem.W.Frag) (B dep : Nat) : Sp := fun vs H Q _ => ∃ (x : V) (is : List It), vs = [x] ∧ Prg K B dep H x is ∧ ∀ H', Same H H' → Q (.int (lenI is)) H'
theorem scLe : FnScope ["program", "name", "ticks"] ["program"] (defScope (topS 22)) := ⟨rfl, rfl, rfl, by decide +kernel, rfl, by decide +kernel, by decide +kernel⟩
/-- spent(x, 1), as the head of a comprehension -/
theorem hi_spent {B dep : Nat} {H0 : Hp} {σ : L2.St} {i : Nat} {x : V} {is : List It} (hB : Room2 B dep) (hv : σ[i]? = some (some x)) (hp : Prg K B dep H0 x is) :
    ∀ (H : Hp) (Q : VK), Same H0 H → (∀ H' l us, Same H H' → SqL K H' l us → DaAll K H' us ((Its.sp 1 is).map pairD) → Q (.ref l) H') → tCall (spSpent K B dep) [] E0 (tCons (tVar i) (tCons (tC (.int 1)) tNil)) σ H Q := fun H Q s q =>
  ⟨_, hv, x, is, 1, 64, rfl, hp.da.mono s, hp.ok, by decide, by decide, hB.1, hB.2, hp.few, fun H' u s' ⟨l, us, e, hl, ha⟩ => by
    subst e
    exact q H' l us s' (.inl (.inl hl)) ha⟩
theorem ok_len {B dep : Nat} (hB : Room2 B dep) (F : Fun K "length" "length" (topS 22) f fd) (GS : FnOk P w K mg base CX0 (dep + 1) fS fdS ["items", "rounds"] (spSpent K B dep)) (bS : Binds K fdS ["items", "rounds"] []) (mS : mg "spent" = some (.ref fS)) (vS : PySem.W.keepIn K (.ref fS) = true)
    (mu : mg "sum" = none) : FnOk P w K mg base CX0 (dep + 2) f fd ["program"] (spLen K B dep) := by
  refine F.ok scLe (fun vs H Q E h => ?_) (fun cdv A outer s H vs Q E hr h => ?_)
  · obtain ⟨x, is, rfl, _⟩ := h
    rfl
  · obtain ⟨x, is, rfl, hp, q⟩ := h
    refine ⟨_, pss_one (ps_ret (pe_callB (cr_sum rfl) (by rfl) mu (by decide +kernel) (pa_cons (pe_lc (own := [("name", 1), ("ticks", 2)]) (g := gTup K 2 (gCons (gName 1) (gCons (gName 2) gNil))) (tt := tYes) (te := tVar 2) rfl scLe.nd
      (pi_list (pe_call GS hr (by rfl) mS vS bS .nil pass0 (pa_cons (pv 0) (pa_cons pe_int pa_nil)))) (blkOk_by (N := ["program", "name", "ticks"]) (sc := defScope (topS 22)) (by decide +kernel))
      (fun _ _ _ _ _ => pg_tup rfl (pgs_cons (pg_name (i := 1) scLe.nd rfl (Or.inl rfl)) (pgs_cons (pg_name (i := 2) scLe.nd rfl (Or.inl rfl)) pgs_nil))) (fun _ _ _ _ _ => pts_nil) (fun _ _ _ _ _ => pv 2)) pa_nil))), ?_⟩
    have y := sizeLine_eq
    have hlen : ((Its.sp 1 is).map pairD).length = Its.nl is := by rw [List.length_map, Its.sp_len]
    have few := hp.few
    have key := g_lcF (K := K) (H0 := H) (σ := [some x, none, none]) (te := tVar 2) (tt := tYes) (ds := (Its.sp 1 is).map pairD) (f := fun _ => true) (y := fun j => (((Its.sp 1 is)[j]?).map fun p => V.int p.2).getD .non)
      (g := gTup K 2 (gCons (gName 1) (gCons (gName 2) gNil))) (vs := [1, 2]) (hi_spent (i := 0) hB rfl hp) (by omega) fun j x' d hd HH R N sH hx hR hN => by
        rw [List.getElem?_map] at hd
        obtain ⟨p, hp', rfl⟩ := Option.map_eq_some_iff.mp hd
        obtain ⟨a, rfl, ha⟩ := da_pair hx
        have z := hR rfl HH Same.rfl'
        rw [hp'] at z
        exact ⟨a, _, rfl, ha, rfl, _, _, rfl, _, _, rfl, rfl, rfl, _, rfl, z⟩
    have e : ((List.range ((Its.sp 1 is).map pairD).length).filter fun _ => true).map (fun j => (((Its.sp 1 is)[j]?).map fun p => V.int p.2).getD .non) = ((Its.sp 1 is).map (·.2)).map V.int := by
      rw [List.filter_eq_self.mpr (fun _ _ => rfl), List.length_map, range_map, List.map_map]
      rfl
    rw [e] at key
    refine s_ret (g_sum (K := K) key) fun H' u s' e' => ?_
    have e' : u = _ := e'
    subst e'
    exact q H' s'
/-! ### lines_of -/
def spLines (K : PySem.W.Frag) (B dep : Nat) : Sp := fun vs H Q _ => ∃ (x : V) (is : List It), vs = [x] ∧ Prg K B dep H x is ∧ Its.nl is < 64 ∧ ∀ H' a, Same H H' → H' a = some (.tup ((linesI is).map V.str)) → Q (.ref a) H'
def spLinesG (K : PySem.W.Frag) (B dep : Nat) : Sp := fun vs H Q _ => ∃ (x : V) (is : List It), vs = [x] ∧ Prg K B dep H x is ∧ Its.nl is < 4000 ∧ (uniq [] ((Its.sp 1 is).map (·.1))).length < 64 ∧ ∀ H' a, Same H H' → H' a = some (.tup ((linesI is).map V.str)) → Q (.ref a) H'
theorem scLo : FnScope ["program", "name", "ticks"] ["program"] (defScope (topS 24)) := ⟨rfl, rfl, rfl, by decide +kernel, rfl, by decide +kernel, by decide +kernel⟩
/-- {text for .. in a list}, a text from each item -/
theorem sc_F {ti : TE} {H0 : Hp} {σ : L2.St} {ds : List PyData} {zs : List Str} {g : TG} {te : TE} {vs : List Nat} {Q : VK} (hi : ∀ (H : Hp) (Q : VK), Same H0 H → (∀ H' l us, Same H H' → SqL K H' l us → DaAll K H' us ds → Q (.ref l) H') → ti σ H Q) (hz : ds.length < 4000) (hl : zs.length = ds.length)
    (he : ∀ (j : Nat) (x : V) (d : PyData) (z : Str), ds[j]? = some d → zs[j]? = some z → ∀ (H : Hp) (R : VK), Same H0 H → Da K H x d → R (.str z) H → g x (wipe σ vs) H fun σ2 H2 => wipe σ2 vs = wipe σ vs ∧ te σ2 H2 R)
    (q : ∀ H' D, Same H0 H' → H' D = some (SetSO w D (uniq [] zs)) → Q (.ref D) H') : tScS w (iList K ti) g tYes te vs σ H0 Q := by
  refine hi H0 _ Same.rfl' fun H1 l us s1 hl1 ha => ⟨l, rfl, ⟨us, hl1⟩, fun D nD => ?_⟩
  have hlen := daAll_len ha
  have hb : scanBound = 4096 := rfl
  refine ⟨fun i m H => m = us.length - i ∧ i ≤ us.length ∧ Same H1 H ∧ H D = some (SetSO w D (uniq [] (zs.take i))), ⟨us.length, by simp, Nat.zero_le _, same_put nD, upd_same⟩, ?_⟩
  rintro i m H' ⟨rfl, hi', s', eD⟩
  have hl' := s'.seq hl1
  by_cases lt : i < us.length
  · refine .inr ⟨⟨us, us[i], hl', by simp [lt]⟩, fun H'' => Same H1 H'' ∧ H'' D = some (SetSO w D (uniq [] (zs.take (i + 1)))), fun H'' p' => ⟨us.length - (i + 1), by omega, rfl, lt, p'.1, p'.2⟩, fun x H'' yv => ?_⟩
    obtain ⟨e, yv⟩ := yv
    subst e
    have hk := yv us hl'
    obtain ⟨d, hd, hx⟩ := daAll_at ha hk
    have hz1 : i < zs.length := by
      have := (List.getElem?_eq_some_iff.mp hd).1
      omega
    have hzi := List.getElem?_eq_getElem hz1
    have room : (uniq [] (zs.take i)).length + 1 < scanBound := by
      have z := uniq_len (zs.take i) []
      rw [List.length_take] at z
      have z0 : ([] : List Str).length = 0 := rfl
      omega
    refine cast ?_ (he i x d zs[i] hd hzi _ (fun y H4 => ∃ (c : Str) (ks : List Str), y = .str c ∧ H4 D = some (SetSO w D ks) ∧ ks.length + 1 < scanBound ∧ (Same H1 (upd H4 D (SetSO w D (addN ks c))) ∧ upd H4 D (SetSO w D (addN ks c)) D = some (SetSO w D (uniq [] (zs.take (i + 1))))))
      (s1.trans s') (hx.mono s') ⟨zs[i], _, rfl, eD, room, fun b o e => ?_, ?_⟩)
    · rfl
    · rw [upd_ne (ne_of_none e nD)]
      exact s' _ _ e
    · rw [upd_same, ← uniq_snoc, List.take_add_one, hzi]
      rfl
  · have e : i = us.length := by omega
    subst e
    rw [hlen, ← hl, List.take_length] at eD
    exact .inl ⟨⟨us, hl', Nat.le_refl _⟩, q H' D (s1.trans s') eD⟩
theorem ok_linesG {B dep : Nat} (hB : Room2 B dep) (F : Fun K "lines_of" "lines_of" (topS 24) f fd) (GS : FnOk P w K mg base CX0 (dep + 1) fS fdS ["items", "rounds"] (spSpent K B dep)) (bS : Binds K fdS ["items", "rounds"] []) (mS : mg "spent" = some (.ref fS)) (vS : PySem.W.keepIn K (.ref fS) = true)
    (mt : mg "tuple" = none) (mo : mg "sorted" = none) : FnOk P w K mg base CX0 (dep + 2) f fd ["program"] (spLinesG K B dep) := by
  refine F.ok scLo (fun vs H Q E h => ?_) (fun cdv A outer s H vs Q E hr h => ?_)
  · obtain ⟨x, is, rfl, _⟩ := h
    rfl
  · obtain ⟨x, is, rfl, hp, h64, hks, q⟩ := h
    refine ⟨_, pss_one (ps_ret (pe_callTy call_tuple_of (by rfl) mt (by decide +kernel) (pa_cons (pe_callB (cr_sortSS rfl) (by rfl) mo (by decide +kernel) (pa_cons (pe_scS (own := [("name", 1), ("ticks", 2)]) (g := gTup K 2 (gCons (gName 1) (gCons (gName 2) gNil))) (tt := tYes) (te := tVar 1) rfl scLo.nd
      (pi_list (pe_call GS hr (by rfl) mS vS bS .nil pass0 (pa_cons (pv 0) (pa_cons pe_int pa_nil)))) (blkOk_by (N := ["program", "name", "ticks"]) (sc := defScope (topS 24)) (by decide +kernel))
      (fun _ _ _ _ _ => pg_tup rfl (pgs_cons (pg_name (i := 1) scLo.nd rfl (Or.inl rfl)) (pgs_cons (pg_name (i := 2) scLo.nd rfl (Or.inl rfl)) pgs_nil))) (fun _ _ _ _ _ => pts_nil) (fun _ _ _ _ _ => pv 1)) pa_nil)) pa_nil))), ?_⟩
    have hlen : ((Its.sp 1 is).map pairD).length = Its.nl is := by rw [List.length_map, Its.sp_len]
    have key : ∀ Q' : VK, (∀ H' D, Same H H' → H' D = some (SetSO w D (uniq [] ((Its.sp 1 is).map (·.1)))) → Q' (.ref D) H') → tScS w (iList K (tCall (spSpent K B dep) [] E0 (tCons (tVar 0) (tCons (tC (.int 1)) tNil)))) (gTup K 2 (gCons (gName 1) (gCons (gName 2) gNil))) tYes (tVar 1) [1, 2] [some x, none, none] H Q' := fun Q' k =>
      sc_F (hi_spent (i := 0) hB rfl hp) (by omega) (by rw [List.length_map, List.length_map]) (fun j x' d z hd hz' HH R sH hx hR => by
        rw [List.getElem?_map] at hd hz'
        obtain ⟨p, hp', rfl⟩ := Option.map_eq_some_iff.mp hd
        rw [hp'] at hz'
        cases hz'
        obtain ⟨a, rfl, ha⟩ := da_pair hx
        exact ⟨a, _, rfl, ha, rfl, _, _, rfl, _, _, rfl, rfl, rfl, _, rfl, hR⟩) k
    refine s_ret2 (key _ fun H1 D s1 eD => ?_)
    refine ⟨D, _, rfl, eD, hks, fun ys p pm hs np => ?_⟩
    have e : ys = linesI is := srt_is pm hs
    subst e
    refine ⟨p, _, rfl, .inl ⟨.inl (.inl upd_same), fun a na => ?_⟩⟩
    exact q _ a (s1.trans ((same_put np).trans (same_put na))) upd_same
theorem ok_lines {B dep : Nat} (hB : Room2 B dep) (F : Fun K "lines_of" "lines_of" (topS 24) f fd) (GS : FnOk P w K mg base CX0 (dep + 1) fS fdS ["items", "rounds"] (spSpent K B dep)) (bS : Binds K fdS ["items", "rounds"] []) (mS : mg "spent" = some (.ref fS)) (vS : PySem.W.keepIn K (.ref fS) = true)
    (mt : mg "tuple" = none) (mo : mg "sorted" = none) : FnOk P w K mg base CX0 (dep + 2) f fd ["program"] (spLines K B dep) :=
  (ok_linesG hB F GS bS mS vS mt mo).imp fun vs H Q E ⟨x, is, e, hp, h64, q⟩ => ⟨x, is, e, hp, by omega, by
    have z := uniq_len ((Its.sp 1 is).map (·.1)) []
    rw [List.length_map, Its.sp_len] at z
    have z0 : ([] : List Str).length = 0 := rfl
    omega, q⟩
end
end Ev

/-! ## added_up, totals -/
namespace Ev
open PySem PySem.Spec PyProof.Rows L2
section
variable {K : PySem.W.Frag} {H0 : Hp} {σ : L2.St} {te ti : TE}
/-- tuple(list) -/
theorem g_tupOf {es : List PyData} (h : Gives H0 te (gLd K es) σ) : Gives H0 (tCB (fun xs H Q => ∃ p ys, xs = [.ref p] ∧ (SqL K H p ys ∧ (∀ q, H q = none → Q (.ref q) (upd H q (.tup ys))) ∨ SqT K H p ys ∧ Q (.ref p) H)) (tCons te tNil)) ⟨fun H u => Da K H u (.tuple es), fun s h => h.mono s⟩ σ := fun H Q s q =>
  h H _ s fun H1 u s1 ⟨l, us, e, hl, ha⟩ => by
    subst e
    refine ⟨l, us, rfl, .inl ⟨.inl (.inl hl), fun p np => q _ _ (s1.trans (same_put np)) (.tup (.inl (.inl upd_same)) (ha.mono (same_put np)))⟩⟩
end
/-! ### a dict of counts -/
def spAdd (K : PySem.W.Frag) (B dep : Nat) : Sp := fun vs H Q _ => ∃ (x y : V) (is : List It) (ps : List (Str × Int)), vs = [x, y] ∧ Prg K B dep H x is ∧ Its.nl is < 64 ∧ (∃ l us, y = .ref l ∧ SqL K H l us ∧ DaAll K H us (ps.map pairD)) ∧ ps.length ≤ 100000 ∧
  (∀ p ∈ ps, p.1 ∈ linesI is) ∧ ∀ H' u, Same H H' → Da K H' u (totD is (sumN ps)) → Q u H'
theorem scAu : FnScope ["program", "pairs", "names", "name", "sums", "ticks"] ["program", "pairs"] (defScope (topS 28)) := ⟨rfl, rfl, rfl, by decide +kernel, rfl, by decide +kernel, by decide +kernel⟩
section
variable {P : Program} {w : World} {K : PySem.W.Frag} {mg : Str → Option Value} {base : Heap} {f fL : Addr} {fd fdL : FuncData}
theorem ok_added {B dep : Nat} (F : Fun K "added_up" "added_up" (topS 28) f fd) (GL : FnOk P w K mg base CX0 (dep + 2) fL fdL ["program"] (spLines K B dep)) (bL : Binds K fdL ["program"] []) (mL : mg "lines_of" = some (.ref fL)) (vL : PySem.W.keepIn K (.ref fL) = true)
    (mt : mg "tuple" = none) : FnOk P w K mg base CX0 (dep + 3) f fd ["program", "pairs"] (spAdd K B dep) := by
  refine F.ok scAu (fun vs H Q E h => ?_) (fun cdv A outer s H vs Q E hr h => ?_)
  · obtain ⟨x, y, is, ps, rfl, _⟩ := h
    rfl
  · obtain ⟨x, y, is, ps, rfl, hp, h64, ⟨lp, us, rfl, hlp, hda⟩, hpl, hin, q⟩ := h
    have hu : (A.deeper (envOfC "added_up" (defScope (topS 28)) s.heap.objs.size f cdv)).units + 1 < cLine := by
      have := hr.un
      omega
    refine ⟨_, pss_cons (ps_set (i := 2) scAu.nd rfl (.inl rfl) (pe_call GL hr (by rfl) mL vL bL .nil pass0 (pa_cons (pv 0) pa_nil)))
      (pss_cons (ps_set (i := 4) scAu.nd rfl (.inr rfl) (pe_dc (own := [("name", 3)]) (g := gName 3) (tt := tYes) (tk := tVar 3) (tv := tC (.int 0)) rfl scAu.nd (pi_tup (pv 2)) (blkOk_by (N := ["program", "pairs", "names", "name", "sums", "ticks"]) (sc := defScope (topS 28)) (by decide +kernel))
        (fun _ _ _ _ _ => pg_name (i := 3) scAu.nd rfl (Or.inl rfl)) (fun _ _ _ _ _ => pts_nil) (fun _ _ _ _ _ => pv 3) (fun _ _ _ _ _ => pe_int)))
      (pss_cons (ps_for PassesOwn.never rfl (pi_list (pv 1)) (pg_tup rfl (pgs_cons (pg_name (i := 3) scAu.nd rfl (.inl rfl)) (pgs_cons (pg_name (i := 5) scAu.nd rfl (.inl rfl)) pgs_nil)))
        (pss_one (ps_daug hu (pv 4) (pv 3) (pv 5) iop_add (fun _ _ _ => rfl))))
      (pss_one (ps_ret (pe_callTy call_tuple_of (by rfl) mt (by decide +kernel) (pa_cons (pe_lc (own := [("name", 3)]) (g := gName 3) (tt := tYes) (te := tTup (tCons (tVar 3) (tCons (tDGet (tVar 4) (tVar 3)) tNil))) rfl scAu.nd (pi_tup (pv 2))
        (blkOk_by (N := ["program", "pairs", "names", "name", "sums", "ticks"]) (sc := defScope (topS 28)) (by decide +kernel)) (fun _ _ _ _ _ => pg_name (i := 3) scAu.nd rfl (Or.inl rfl)) (fun _ _ _ _ _ => pts_nil)
        (fun _ _ _ _ _ => pe_tup (pa_cons (pv 3) (pa_cons (pe_dget hu (pv 4) (pv 3) (fun _ _ => rfl)) pa_nil)))) pa_nil)))))), ?_⟩
    have sl := sizeLine_eq
    have hll := lines_len (is := is)
    refine ⟨_, rfl, x, is, rfl, hp, h64, fun H1 a s1 ha => ?_⟩
    let names := linesI is
    have hnn : names.length < 64 := Nat.lt_of_le_of_lt hll h64
    -- the dict
    refine ⟨_, rfl, a, rfl, ⟨_, .inl (.inl ha)⟩, fun D nD => dc_tup (K := K) (a := a) (xs := names.map V.str) (fun i H' => Same H1 H' ∧ H' D = some (.dK (cntD (names.take i) fun _ => 0))) ⟨same_put nD, upd_same⟩ (fun i H' _ ⟨s', _⟩ => .inl (.inl (s' _ _ ha))) ?_ ?_⟩
    · rintro i x' H' hi ⟨s', eD⟩
      rw [List.getElem?_map] at hi
      obtain ⟨z, hz, rfl⟩ := Option.map_eq_some_iff.mp hi
      have hil := (List.getElem?_eq_some_iff.mp hz).1
      refine ⟨rfl, _, rfl, _, .inr z, rfl, eD, ?_, fun b o e => ?_, ?_⟩
      · unfold cntD
        rw [List.length_map, List.length_take]
        omega
      · rw [upd_ne (ne_of_none e nD)]
        exact s' _ _ e
      · have nin : z ∉ names.take i := fun c => by
          have nd := lines_nd is
          have e2 : names.take (i + 1) = names.take i ++ [z] := by
            rw [List.take_add_one, hz]
            rfl
          have nd2 : (names.take (i + 1)).Nodup := (List.take_sublist _ _).nodup nd
          rw [e2, List.nodup_append] at nd2
          exact nd2.2.2 z c z (List.mem_singleton.mpr rfl) rfl
        rw [upd_same, cnt_new nin, List.take_add_one, hz]
        unfold cntD
        rw [List.map_append]
        rfl
    rintro H2 ⟨s2, eD⟩
    rw [List.length_map, List.take_length] at eD
    -- the sums
    have hlp2 : SqL K H2 lp us := (s1.trans s2).seq hlp
    have dneL : ∀ b o, H1 b = some o → b ≠ D := fun b o e => ne_of_none e nD
    have hul := daAll_len hda
    rw [List.length_map] at hul
    refine ⟨_, rfl, lp, rfl, ⟨us, hlp2⟩, for_list (K := K) (a := lp) (xs := us) (fun i σ' H' => ∃ y3 y5 : Option V, σ' = [some x, some (.ref lp), some (.ref a), y3, some (.ref D), y5] ∧ Same H1 H' ∧ H' D = some (.dK (cntD names (sumN (ps.take i)))))
      ⟨none, none, rfl, s2, eD⟩ (fun i σ' H' _ ⟨_, _, _, s', _⟩ => (s1.trans s').seq hlp) ?_ ?_⟩
    · rintro i x' σ' H' hi ⟨y3, y5, rfl, s', eD'⟩
      obtain ⟨d, hd, hx'⟩ := daAll_at (hda.mono (s1.trans s')) hi
      rw [List.getElem?_map] at hd
      obtain ⟨pr, hpr, rfl⟩ := Option.map_eq_some_iff.mp hd
      obtain ⟨b, rfl, hb⟩ := da_pair hx'
      have hmem := hin pr (List.mem_of_getElem? hpr)
      refine ⟨b, _, rfl, hb, rfl, _, _, rfl, _, _, rfl, rfl, ?_⟩
      refine ⟨_, rfl, _, rfl, D, _, rfl, .inl ⟨_, .inr pr.1, .inl eD', rfl, (cnt_val hmem).symm⟩, _, rfl, _, _, rfl, rfl, _, .inl ⟨_, .inr pr.1, eD', rfl, ?_, rfl⟩, ?_⟩
      · unfold cntD
        rw [List.length_map]
        show (linesI is).length < _
        omega
      · refine ⟨_, _, rfl, fun b o e => ?_, ?_⟩
        · rw [upd_ne (dneL b o e)]
          exact s' _ _ e
        · rw [upd_same]
          congr 2
          show putK (cntD names (sumN (ps.take i))) (.inr pr.1) (.int (sumN (ps.take i) pr.1 + pr.2)) = _
          rw [cnt_put hmem, List.take_add_one, hpr]
          unfold cntD
          refine List.map_congr_left fun n _ => ?_
          show ((.inr n, .int (if n = pr.1 then sumN (ps.take i) pr.1 + pr.2 else sumN (ps.take i) n)) : Key × V) = ((.inr n, .int (sumN (ps.take i ++ [pr]) n)) : Key × V)
          rw [sumN_snoc]
          by_cases e : n = pr.1
          · rw [if_pos e, if_pos e, e]
          · rw [if_neg e, if_neg e]
    · rintro σ' H3 ⟨y3, y5, rfl, s3, eD3⟩
      rw [hul, List.take_length] at eD3
      have ht : tupDs (names.map fun n => pairD (n, sumN ps n)) = true := by
        have z := tup_pairs (names.map fun n => (n, sumN ps n))
        rw [List.map_map] at z
        exact z
      have key := g_lcDT (K := K) (H0 := H3) (σ := [some x, some (.ref lp), some (.ref a), y3, some (.ref D), y5]) (te := tTup (tCons (tVar 3) (tCons (tDGet (tVar 4) (tVar 3)) tNil))) (a := a) (xs := names.map V.str) (es := names.map fun n => pairD (n, sumN ps n)) (g := gName 3) (vs := [3]) (i := 2) rfl
        (.inl (.inl (s3 _ _ ha))) (by rw [List.length_map]; show (linesI is).length ≤ _; omega) ht (by rw [List.length_map, List.length_map]) fun j x' e hx' he HH R sH hR => by
          rw [List.getElem?_map] at hx' he
          obtain ⟨z, hz, rfl⟩ := Option.map_eq_some_iff.mp hx'
          rw [hz] at he
          cases he
          have hmem := List.mem_of_getElem? hz
          refine ⟨rfl, _, rfl, _, rfl, _, rfl, D, _, rfl, .inl ⟨_, .inr z, .inl (sH _ _ eD3), rfl, (cnt_val hmem).symm⟩, (by show 2 ≤ sizeLine; decide), fun t nt => hR _ _ (same_put nt) (.tup (xs := [.str z, .int (sumN ps z)]) (.inl (.inl upd_same)) (.cons (.str _) (.cons (.int _) .nil)))⟩
      refine s_ret (g_tupOf key) fun H4 u s4 hu4 => ?_
      exact q H4 u ((s1.trans s3).trans s4) hu4
end
end Ev

/-! ## totals -/
namespace Ev
open PySem PySem.Spec PyProof.Rows L2
theorem tot_congr {is : List It} {c d : Str → Int} (h : ∀ n, c n = d n) : totD is c = totD is d := by
  unfold totD
  congr 1
  refine List.map_congr_left fun n _ => ?_
  rw [h n]
def spTot (K : PySem.W.Frag) (B dep : Nat) : Sp := fun vs H Q _ => ∃ (x : V) (is : List It), vs = [x] ∧ Prg K B dep H x is ∧ Its.nn is ∧ Its.nl is < 64 ∧ ∀ H' u, Same H H' → Da K H' u (totD is fun n => ((Its.w is).count n : Nat)) → Q u H'
theorem scTo : FnScope ["program"] ["program"] (defScope (topS 25)) := ⟨rfl, rfl, rfl, by decide +kernel, rfl, by decide +kernel, by decide +kernel⟩
section
variable {P : Program} {w : World} {K : PySem.W.Frag} {mg : Str → Option Value} {base : Heap} {f fS fA : Addr} {fd fdS fdA : FuncData}
theorem ok_tot {B dep : Nat} (hB : Room2 B dep) (F : Fun K "totals" "totals" (topS 25) f fd)
    (GS : FnOk P w K mg base CX0 (dep + 1) fS fdS ["items", "rounds"] (spSpent K B dep)) (bS : Binds K fdS ["items", "rounds"] []) (mS : mg "spent" = some (.ref fS)) (vS : PySem.W.keepIn K (.ref fS) = true)
    (GA : FnOk P w K mg base CX0 (dep + 3) fA fdA ["program", "pairs"] (spAdd K B dep)) (bA : Binds K fdA ["program", "pairs"] []) (mA : mg "added_up" = some (.ref fA)) (vA : PySem.W.keepIn K (.ref fA) = true) :
    FnOk P w K mg base CX0 (dep + 4) f fd ["program"] (spTot K B dep) := by
  refine F.ok scTo (fun vs H Q E h => ?_) (fun cdv A outer s H vs Q E hr h => ?_)
  · obtain ⟨x, is, rfl, _⟩ := h
    rfl
  · obtain ⟨x, is, rfl, hp, hnn, h64, q⟩ := h
    have hrS : Room (dep + 1) _ := hr.mono (show dep + 1 ≤ dep + 3 by omega)
    refine ⟨_, pss_one (ps_ret (pe_call GA hr (by rfl) mA vA bA .nil pass0 (pa_cons (pv 0) (pa_cons (pe_call GS hrS (by rfl) mS vS bS .nil pass0 (pa_cons (pv 0) (pa_cons pe_int pa_nil))) pa_nil)))), ?_⟩
    refine ⟨_, rfl, _, rfl, x, is, 1, 64, rfl, hp.da, hp.ok, by decide, by decide, hB.1, hB.2, hp.few, fun H1 u1 s1 g1 => ?_⟩
    obtain ⟨l, us, rfl, hl, ha⟩ := g1
    refine ⟨x, .ref l, is, Its.sp 1 is, rfl, hp.same s1, h64, ⟨l, us, rfl, .inl (.inl hl), ha⟩, by rw [Its.sp_len]; omega, fun p hp' => lines_mem.mpr (List.mem_map.mpr ⟨p, hp', rfl⟩), fun H2 u2 s2 h2 => q H2 u2 (s1.trans s2) ?_⟩
    rw [tot_congr (d := sumN (Its.sp 1 is)) fun n => by rw [Its.sp_count n 1 is hnn, Int.one_mul]]
    exact h2
end
end Ev

/-! ## Bench, as long as all goes well -/
namespace Ev
open PySem PySem.Spec PyProof.Rows L2
def spBL (K : PySem.W.Frag) (C : Addr) : Sp := fun vs H Q _ => ∃ (p e : Addr) (is : List It) (hs : List (List It)), vs = [.ref p] ∧ BnAt K C H p e is hs ∧ ∀ H', Same H H' → Q (.int ((Its.w is).length : Nat)) H'
def spBT (K : PySem.W.Frag) (C : Addr) : Sp := fun vs H Q _ => ∃ (p e : Addr) (is : List It) (hs : List (List It)), vs = [.ref p] ∧ BnAt K C H p e is hs ∧ ∀ H' u, Same H H' → Da K H' u (totD is fun n => ((Its.w is).count n : Nat)) → Q u H'
theorem scBL : FnScope ["self"] ["self"] (defScope (sB 3)) := ⟨rfl, rfl, rfl, by decide +kernel, rfl, by decide +kernel, by decide +kernel⟩
theorem scBT : FnScope ["self"] ["self"] (defScope (sB 4)) := ⟨rfl, rfl, rfl, by decide +kernel, rfl, by decide +kernel, by decide +kernel⟩
section
variable {P : Program} {w : World} {K : PySem.W.Frag} {mg : Str → Option Value} {base : Heap} {C : Addr}
theorem Vp.prg {H : Hp} {x : V} {is : List It} (h : Vp is) (hd : Da K H x (pgD is)) : Prg K 64 5 H x is := ⟨hd, fun i hi => vi_okp 5 i (h.vi i hi), by
  have a := Its.nl_ni is
  have b := h.ni
  omega⟩
theorem Vp.ps {is : List It} (h : Vp is) : Its.ps is := ps_of fun i hi => vi_ps 5 i (h.vi i hi)
theorem Vp.nl {is : List It} (h : Vp is) : Its.nl is < 64 := by
  have a := Its.nl_ni is
  have b := h.ni
  omega
theorem ok_bL {fL : Addr} {fdL : FuncData} (T : BTx K mg C) (GL : FnOk P w K mg base CX0 7 fL fdL ["program"] (spLen K 64 5)) (bL : Binds K fdL ["program"] []) (mL : mg "length_programs" = some (.ref fL)) (vL : PySem.W.keepIn K (.ref fL) = true) (D : MDef K C "length" "Bench.length" (sB 3) ["self"]) :
    MCal P w K mg base 8 C "length" ["self"] (spBL K C) := by
  refine D.ok scBL (fun vs H Q E h => ?_) (fun f cdv A outer s H vs Q E hr h => ?_)
  · obtain ⟨p, e, is, hs, rfl, _⟩ := h
    rfl
  · obtain ⟨p, e, is, hs, rfl, hb, q⟩ := h
    obtain ⟨dx, cur, h1, h2⟩ := hb.ob
    refine ⟨_, pss_one (ps_ret (pe_call GL hr (by rfl) mL vL bL .nil pass0 (pa_cons (pe_fld (pv 0) rfl) pa_nil))), ?_⟩
    refine ⟨_, rfl, p, C, dx, _, _, rfl, h1, T.cl, T.nC, flB_cur _ _, cur, is, rfl, hb.vp.prg h2, fun H' s' => ?_⟩
    rw [len_w (Its.ps_nn is hb.vp.ps)]
    exact q H' s'
theorem ok_bT {fL : Addr} {fdL : FuncData} (T : BTx K mg C) (GL : FnOk P w K mg base CX0 9 fL fdL ["program"] (spTot K 64 5)) (bL : Binds K fdL ["program"] []) (mL : mg "totals_programs" = some (.ref fL)) (vL : PySem.W.keepIn K (.ref fL) = true) (D : MDef K C "totals" "Bench.totals" (sB 4) ["self"]) :
    MCal P w K mg base 10 C "totals" ["self"] (spBT K C) := by
  refine D.ok scBT (fun vs H Q E h => ?_) (fun f cdv A outer s H vs Q E hr h => ?_)
  · obtain ⟨p, e, is, hs, rfl, _⟩ := h
    rfl
  · obtain ⟨p, e, is, hs, rfl, hb, q⟩ := h
    obtain ⟨dx, cur, h1, h2⟩ := hb.ob
    refine ⟨_, pss_one (ps_ret (pe_call GL hr (by rfl) mL vL bL .nil pass0 (pa_cons (pe_fld (pv 0) rfl) pa_nil))), ?_⟩
    exact ⟨_, rfl, p, C, dx, _, _, rfl, h1, T.cl, T.nC, flB_cur _ _, cur, is, rfl, hb.vp.prg h2, Its.ps_nn is hb.vp.ps, hb.vp.nl, fun H' u s' hu => q H' u s' hu⟩
end
end Ev

/-! ## Bench: change, put -/
namespace Ev
open PySem PySem.Spec PyProof.Rows L2
section
variable {P : Program} {w : World} {K : PySem.W.Frag} {mg : Str → Option Value} {base : Heap} {C : Addr}
theorem ok_bC (T : BTx K mg C) (D : MDef K C "change" "Bench.change" (sB 15) ["self", "program"]) : MCal P w K mg base 1 C "change" ["self", "program"] (spBC K C) := by
  refine D.ok scBC (fun vs H Q E h => ?_) (fun f cdv A outer s H vs Q E hr h => ?_)
  · obtain ⟨p, e, is, js, hs, x, rfl, _⟩ := h
    rfl
  · obtain ⟨p, e, is, js, hs, x, rfl, hb, hl9, hd, hv, q⟩ := h
    obtain ⟨dx, cur, h1, h2⟩ := hb.ob
    obtain ⟨us, h3, h4⟩ := hb.er
    have y := sizeLine_eq
    have hl := daAll_len h4
    rw [List.length_map] at hl
    have npe := hb.ne
    refine ⟨_, pss_cons (ps_expr (pe_bm PySem.F.plainAttrs_list PySem.F.slot_list_append PySem.F.type_list_append mt_append (pe_fld (pv 0) rfl) (pa_cons (pe_fld (pv 0) rfl) pa_nil))) (pss_one (ps_fld (pv 0) (pv 1) rfl)), ?_⟩
    refine ⟨_, rfl, p, C, dx, _, _, rfl, h1, T.cl, T.nE, flB_ear _ _, .inl ⟨rfl, _, .inl (.inl h3)⟩, _, rfl, p, C, dx, _, _, rfl, h1, T.cl, T.nC, flB_cur _ _, e, us, cur, rfl, rfl, h3, by omega, ?_⟩
    have hp1 : upd H e (.lst (us ++ [cur])) p = some (.ins C dx (flB cur e)) := by
      rw [upd_ne npe]
      exact h1
    refine ⟨_, rfl, _, rfl, p, C, dx, _, rfl, hp1, T.cl, T.nC, (by show 2 < 1000; decide), ?_⟩
    rw [flB_put]
    have k1 : Kj H (upd H e (.lst (us ++ [cur]))) := Kj.putL h3
    have k2 : Kj H (upd (upd H e (.lst (us ++ [cur]))) p (.ins C dx (flB x e))) := k1.trans (Kj.putI hp1)
    refine q _ (Bu2.put2.trans Bu2.put1) ⟨⟨dx, x, upd_same, hd.kj k2 (prog_tup _)⟩, ⟨us ++ [cur], by rw [upd_ne npe.symm, upd_same], ?_⟩, hv⟩
    rw [List.map_append]
    exact da_app (h4.kj k2 (hist_tup _)) (.cons (h2.kj k2 (prog_tup _)) .nil)
theorem put_d (is : List It) (a b : Nat) (it : It) : (is.map It.d).take a ++ [It.d it] ++ (is.map It.d).drop b = (putI is a b it).map It.d := by
  unfold putI
  rw [List.map_append, List.map_append, List.map_take, List.map_drop]
  rfl
theorem ok_bU {fP : Addr} {fdP : FuncData} (T : BTx K mg C) (MC : MCal P w K mg base 1 C "change" ["self", "program"] (spBC K C)) (GP : FnOk P w K mg base CX0 15 fP fdP ["value"] (spProg K)) (bP : Binds K fdP ["value"] []) (mP : mg "is_program" = some (.ref fP)) (vP : PySem.W.keepIn K (.ref fP) = true)
    (D : MDef K C "put" "Bench.put" (sB 14) ["self", "first", "stop", "item"]) : MCal P w K mg base 16 C "put" ["self", "first", "stop", "item"] (spBU K C) := by
  refine D.ok scBU (fun vs H Q E h => ?_) (fun f cdv A outer s H vs Q E hr h => ?_)
  · obtain ⟨p, e, is, hs, a, b, x, it, rfl, _⟩ := h
    rfl
  · obtain ⟨p, e, is, hs, a, b, x, it, rfl, hb, hl9, hd, hv, q⟩ := h
    obtain ⟨dx, cur, h1, h2⟩ := hb.ob
    have y := sizeLine_eq
    have hle := hb.vp.le
    refine ⟨_, pss_cons (ps_set (i := 4) scBU.nd rfl (.inl rfl) (pe_op op_catA (pe_op op_catA (pe_slice sl_tupA (pe_fld (pv 0) rfl) po_none (po_some (pv 1))) (pe_tup (pa_cons (pv 3) pa_nil))) (pe_slice sl_tupA (pe_fld (pv 0) rfl) (po_some (pv 2)) po_none)))
      (pss_cons (ps_if (pt_not (pt_val (pe_call GP hr (by rfl) mP vP bP .nil pass0 (pa_cons (pv 4) pa_nil)))) pss_dead pss_nil)
      (pss_one (ps_expr (pmeth MC T.cl (hr.mono (by omega)) (pv 0) (pa_cons (pv 4) pa_nil))))), ?_⟩
    refine ⟨_, rfl, p, C, dx, _, _, rfl, h1, T.cl, T.nC, flB_cur _ _, _, rfl, _, rfl, sl_val (lo := none) (hi := some (a : Nat)) h2 fun H1 u1 s1 hu1 => ⟨_, rfl, (by show 1 ≤ sizeLine; decide), fun t nt => ?_⟩⟩
    rw [cut_to] at hu1
    have st := same_put (o := .tup [x]) nt
    refine cat_val (es := [It.d it]) (hu1.mono st) (.tup (xs := [x]) (.inl (.inl upd_same)) (.cons (hd.mono (s1.trans st)) .nil)) (by rw [List.length_take, List.length_map]; show _ + 1 ≤ _; omega) fun H2 u2 s2 hu2 => ?_
    have s12 := (s1.trans st).trans s2
    refine ⟨_, rfl, p, C, dx, _, _, rfl, s12 _ _ h1, T.cl, T.nC, flB_cur _ _, _, rfl, _, rfl, ?_⟩
    dsimp only [tNoPart]
    refine sl_val (lo := some (b : Nat)) (hi := none) (h2.mono s12) fun H3 u3 s3 hu3 => ?_
    rw [cut_from] at hu3
    refine cat_val (hu2.mono s3) hu3 (by rw [List.length_append, List.length_take, List.length_drop, List.length_map]; show _ + 1 + _ ≤ _; omega) fun H4 u4 s4 hu4 => ?_
    rw [put_d] at hu4
    have s14 := (s12.trans s3).trans s4
    refine ⟨_, rfl, u4, _, rfl, hu4, hv.okS, fun H5 s5 => ⟨_, rfl, ?_⟩⟩
    rw [hv.isP]
    refine iteF ?_
    have s15 := s14.trans s5
    refine ⟨_, rfl, p, dx, _, rfl, s15 _ _ h1, rfl, _, rfl, p, e, is, putI is a b it, hs, u4, rfl, hb.same s15, hl9, hu4.mono s5, hv, fun H6 bu6 hb6 => q H6 ((Bu2.of s15).trans bu6) hb6⟩
end
end Ev

/-! ## Bench: insert, replace, delete, as long as all goes well -/
namespace Ev
open PySem PySem.Spec PyProof.Rows L2
section
variable {P : Program} {w : World} {K : PySem.W.Frag} {mg : Str → Option Value} {base : Heap} {C : Addr}
theorem ok_ci {f fN : Addr} {fd fdN : FuncData} (F : Fun K "check_index" "check_index" (topS 31) f fd) (GN : FnOk P w K mg base CX0 2 fN fdN ["value", "least", "most"] (spIn K)) (bN : Binds K fdN ["value", "least", "most"] []) (mN : mg "is_integer_within" = some (.ref fN)) (vN : PySem.W.keepIn K (.ref fN) = true) :
    FnOk P w K mg base CX0 3 f fd ["value", "least", "most"] (spCi K) := by
  refine F.ok scCi (fun vs H Q E h => ?_) (fun cdv A outer s H vs Q E hr h => ?_)
  · obtain ⟨i, lo, hi, rfl, _⟩ := h
    rfl
  · obtain ⟨i, lo, hi, rfl, h1, h2, q⟩ := h
    refine ⟨_, pss_one (ps_if (pt_not (pt_val (pe_call GN hr (by rfl) mN vN bN .nil pass0 (pa_cons (pv 0) (pa_cons (pv 1) (pa_cons (pv 2) pa_nil)))))) pss_dead pss_nil), ?_⟩
    refine ⟨_, rfl, _, rfl, _, rfl, .int i, .int i, lo, hi, rfl, .int i, fun H' s' => ⟨_, rfl, ?_⟩⟩
    have e : intD lo hi (.int i) = true := by
      show (decide (lo ≤ i) && decide (i ≤ hi)) = true
      rw [decide_eq_true h1, decide_eq_true h2]
      rfl
    rw [e]
    exact iteF (q H' s')
theorem ok_bRe {fC : Addr} {fdC : FuncData} (T : BTx K mg C) (nb : NB mg) (MU : MCal P w K mg base 16 C "put" ["self", "first", "stop", "item"] (spBU K C)) (GC : FnOk P w K mg base CX0 3 fC fdC ["value", "least", "most"] (spCi K)) (bC : Binds K fdC ["value", "least", "most"] []) (mC : mg "check_index" = some (.ref fC)) (vC : PySem.W.keepIn K (.ref fC) = true)
    (D : MDef K C "replace" "Bench.replace" (sB 6) ["self", "index", "item"]) : MCal P w K mg base 17 C "replace" ["self", "index", "item"] (spBRe K C) := by
  refine D.ok scBRe (fun vs H Q E h => ?_) (fun f cdv A outer s H vs Q E hr h => ?_)
  · obtain ⟨p, e, is, hs, a, x, it, rfl, _⟩ := h
    rfl
  · obtain ⟨p, e, is, hs, a, x, it, rfl, hb, hl9, hal, hd, hv, q⟩ := h
    obtain ⟨dx, cur, h1, h2⟩ := hb.ob
    obtain ⟨c, xs, rfl, hc, hx⟩ := da_prog h2
    have hxl := daAll_len hx
    rw [List.length_map] at hxl
    refine ⟨_, pss_cons (ps_expr (pe_call GC (hr.mono (by omega)) (by rfl) mC vC bC .nil pass0 (pa_cons (pv 1) (pa_cons pe_int (pa_cons (pe_op op_sub (pe_callB call_len_seq (by rfl) nb.at PySem.boot_len (pa_cons (pe_fld (pv 0) rfl) pa_nil)) pe_int) pa_nil)))))
      (pss_one (ps_expr (pmeth MU T.cl hr (pv 0) (pa_cons (pv 1) (pa_cons (pe_op op_add (pv 1) pe_int) (pa_cons (pv 2) pa_nil)))))), ?_⟩
    refine ⟨_, rfl, _, rfl, p, C, dx, _, _, rfl, h1, T.cl, T.nC, flB_cur _ _, c, xs, rfl, .inr hc, _, _, rfl, rfl, (a : Nat), 0, _, rfl, by omega, by omega, fun H1 s1 => ?_⟩
    exact ⟨_, rfl, p, dx, _, rfl, s1 _ _ h1, rfl, _, rfl, _, rfl, _, _, rfl, rfl, _, rfl, p, e, is, hs, a, a + 1, x, it, rfl, hb.same s1, hl9, hd.mono s1, hv, fun H2 bu2 hb2 => q H2 ((Bu2.of s1).trans bu2) hb2⟩
theorem ok_bD {fC : Addr} {fdC : FuncData} (T : BTx K mg C) (nb : NB mg) (MC : MCal P w K mg base 1 C "change" ["self", "program"] (spBC K C)) (GC : FnOk P w K mg base CX0 3 fC fdC ["value", "least", "most"] (spCi K)) (bC : Binds K fdC ["value", "least", "most"] []) (mC : mg "check_index" = some (.ref fC)) (vC : PySem.W.keepIn K (.ref fC) = true)
    (D : MDef K C "delete" "Bench.delete" (sB 7) ["self", "index"]) : MCal P w K mg base 4 C "delete" ["self", "index"] (spBD K C) := by
  refine D.ok scBD (fun vs H Q E h => ?_) (fun f cdv A outer s H vs Q E hr h => ?_)
  · obtain ⟨p, e, is, hs, a, it, rfl, _⟩ := h
    rfl
  · obtain ⟨p, e, is, hs, a, it, rfl, hb, hl9, hit, hl2, q⟩ := h
    obtain ⟨dx, cur, h1, h2⟩ := hb.ob
    obtain ⟨c, xs, rfl, hc, hx⟩ := da_prog h2
    have hxl := daAll_len hx
    rw [List.length_map] at hxl
    have y := sizeLine_eq
    have hle := hb.vp.le
    have hal := (List.getElem?_eq_some_iff.mp hit).1
    have hax : a < xs.length := by omega
    have hxa := List.getElem?_eq_getElem hax
    obtain ⟨d, hd1, hd2⟩ := daAll_at hx hxa
    rw [List.getElem?_map, hit] at hd1
    cases hd1
    refine ⟨_, pss_cons (ps_expr (pe_call GC hr (by rfl) mC vC bC .nil pass0 (pa_cons (pv 1) (pa_cons pe_int (pa_cons (pe_op op_sub (pe_callB call_len_seq (by rfl) nb.at PySem.boot_len (pa_cons (pe_fld (pv 0) rfl) pa_nil)) pe_int) pa_nil)))))
      (pss_cons (ps_if (pt_cmpR op_eq (pe_callB call_len_seq (by rfl) nb.at PySem.boot_len (pa_cons (pe_fld (pv 0) rfl) pa_nil)) pe_int (nomark _)) pss_dead pss_nil)
      (pss_cons (ps_set (i := 2) scBD.nd rfl (.inl rfl) (pe_ix ix_tup (pe_fld (pv 0) rfl) (pv 1) (fun _ _ => rfl)))
      (pss_cons (ps_expr (pmeth MC T.cl (hr.mono (by omega)) (pv 0) (pa_cons (pe_op op_catA (pe_slice sl_tupA (pe_fld (pv 0) rfl) po_none (po_some (pv 1))) (pe_slice sl_tupA (pe_fld (pv 0) rfl) (po_some (pe_op op_add (pv 1) pe_int)) po_none)) pa_nil)))
      (pss_one (ps_ret (pv 2)))))), ?_⟩
    refine ⟨_, rfl, _, rfl, p, C, dx, _, _, rfl, h1, T.cl, T.nC, flB_cur _ _, c, xs, rfl, .inr hc, _, _, rfl, rfl, (a : Nat), 0, _, rfl, by omega, by omega, fun H1 s1 => ?_⟩
    refine ⟨_, rfl, p, C, dx, _, _, rfl, s1 _ _ h1, T.cl, T.nC, flB_cur _ _, c, xs, rfl, .inr (seqT_mono s1 hc), rfl, _, rfl, ?_⟩
    rw [show decide (V.int ((xs.length : Nat) : Int) = V.int 1) = false from decide_eq_false fun z => by have := V.int.inj z; omega]
    refine iteF ?_
    refine ⟨_, rfl, p, C, dx, _, _, rfl, s1 _ _ h1, T.cl, T.nC, flB_cur _ _, _, rfl, c, xs, _, _, rfl, rfl, seqT_mono s1 hc, atI_of hxa, ?_⟩
    refine ⟨_, rfl, p, dx, _, rfl, s1 _ _ h1, rfl, _, rfl, p, C, dx, _, _, rfl, s1 _ _ h1, T.cl, T.nC, flB_cur _ _, _, rfl, _, rfl, sl_val (lo := none) (hi := some (a : Nat)) (h2.mono s1) fun H2 u2 s2 hu2 => ?_⟩
    rw [cut_to] at hu2
    have s12 := s1.trans s2
    refine ⟨_, rfl, p, C, dx, _, _, rfl, s12 _ _ h1, T.cl, T.nC, flB_cur _ _, _, rfl, _, _, rfl, rfl, _, rfl, ?_⟩
    dsimp only [tNoPart]
    refine sl_val (lo := some ((a + 1 : Nat) : Int)) (hi := none) (h2.mono s12) fun H3 u3 s3 hu3 => ?_
    rw [cut_from] at hu3
    refine cat_val (hu2.mono s3) hu3 (by rw [List.length_take, List.length_drop, List.length_map]; omega) fun H4 u4 s4 hu4 => ?_
    rw [erase_eq, map_er] at hu4
    have s14 := (s12.trans s3).trans s4
    refine ⟨p, e, is, is.eraseIdx a, hs, u4, rfl, hb.same s14, hl9, hu4, hb.vp.erase hl2 hal, fun H5 bu5 hb5 => ⟨_, rfl, q H5 _ ((Bu2.of s14).trans bu5) hb5 ?_⟩⟩
    obtain ⟨dx4, cur4, e1, _⟩ := (hb.same s14).ob
    obtain ⟨us4, e2, _⟩ := (hb.same s14).er
    refine Da.kj (fun b o h n m => ?_) (It.tupd it) (hd2.mono s14)
    refine bu5 b o (fun z => ?_) (fun z => ?_) h
    · rw [z, e1] at h
      cases h
      exact m _ _ _ rfl
    · rw [z, e2] at h
      cases h
      exact n _ rfl
end
end Ev

/-! ## Defs whose code object is known; what stands while a table grows -/
namespace Ev
open PySem PySem.Spec PyProof.Rows L2
open LamX (CodeO TabS Tabs ExtN TabB)
section
variable {P : Program} {w : World} {K : PySem.W.Frag} {mg : Str → Option Value} {base : Heap} {x q : Str} {st : Stmt} {ps N : List Str} {sp : Sp} {k : Nat} {c : Addr}
/-- a def by its body, its code object at c -/
theorem okGc {f : Addr} {fd : FuncData} (F : Fun K x q st f fd) (hc : fd.code = .ref c) (S : FnScope N ps (defScope st)) (len : ∀ vs H Q E, sp vs H Q E → vs.length = ps.length)
    (walk : ∀ (A : Around) (outer : List Env) (s : Shared) (H : Hp) (vs : List V) (Q : VK) (E : XK), Room k (A.deeper (envOfC q (defScope st) s.heap.objs.size f (.ref c))) → A.guards = some [] → sp vs H Q E →
      ∃ t, PSs (cxOf CX0 P w K mg base N q (defScope st) f (.ref c) A outer s H E).nox (defBody st) t ∧ t { nx := fun _ H' => Q .non H', rt := Q } (start N vs) H) : FnG P w K mg base CX0 (k + 1) f fd ps sp := by
  obtain ⟨oc, od, kV, doc, pm, an, cdv, ct, osl, e, lk, hcd⟩ := F.ex
  cases e
  cases (show cdv = .ref c from hc)
  refine fnG_of lk hcd S len fun A outer s H vs Q E hr gd h => ?_
  obtain ⟨t, ht, hq⟩ := walk A outer s H vs Q E hr gd h
  exact ⟨t, ht.nox, hq⟩
/-- a def of the module whose code object is known -/
structure DefC (K : PySem.W.Frag) (mg : Str → Option Value) (x : Str) (st : Stmt) (ps : List Str) (c : Addr) : Prop where
  ex : ∃ (f : Addr) (fd : FuncData), Fun K x x st f fd ∧ Binds K fd ps [] ∧ mg x = some (.ref f) ∧ fd.code = .ref c
theorem DefC.ok (D : DefC K mg x st ps c) (S : FnScope N ps (defScope st)) (len : ∀ vs H Q E, sp vs H Q E → vs.length = ps.length)
    (walk : ∀ (f : Addr) (A : Around) (outer : List Env) (s : Shared) (H : Hp) (vs : List V) (Q : VK) (E : XK), Room k (A.deeper (envOfC x (defScope st) s.heap.objs.size f (.ref c))) → A.guards = some [] → sp vs H Q E →
      ∃ t, PSs (cxOf CX0 P w K mg base N x (defScope st) f (.ref c) A outer s H E).nox (defBody st) t ∧ t { nx := fun _ H' => Q .non H', rt := Q } (start N vs) H) : Cal P w K mg base (k + 1) x ps sp := by
  obtain ⟨f, fd, F, b, m, hc⟩ := D.ex
  exact ⟨f, fd, okGc F hc S len (walk f), b, m, F.kp⟩
/-- a def's table is that of what is written -/
theorem TabF.code {h : Heap} {p : Addr × Addr} {f : Addr} {fd : FuncData} (t : TabF h mg x p) (X : K.In h) (F : Fun K x q st f fd) (m : mg x = some (.ref f)) : fd.code = .ref p.1 := by
  obtain ⟨f', o, fd', h1, h2, h3, h4⟩ := t
  obtain ⟨oc, od, kV, doc, pm, an, cdv, ct, osl, e, lk, hcd⟩ := F.ex
  rw [m] at h1
  cases h1
  have z := X _ _ lk
  rw [h2] at z
  cases z
  cases h3
  exact h4
theorem paired1 {α β : Type} {R : α → β → Prop} {x : α} {cs : List β} (h : Paired R [x] cs) : ∃ p, cs = [p] ∧ R x p := by
  cases h with
  | cons h t =>
    cases t
    exact ⟨_, rfl, h⟩
theorem paired2 {α β : Type} {R : α → β → Prop} {x y : α} {cs : List β} (h : Paired R [x, y] cs) : ∃ p r, cs = [p, r] ∧ R x p ∧ R y r := by
  cases h with
  | cons h t =>
    cases t with
    | cons h2 t =>
      cases t
      exact ⟨_, _, rfl, h, h2⟩
end
/-! ### what stands -/
section
variable {K : PySem.W.Frag} {H H' : Hp} {Pt : Addr} {q : Str}
theorem TabS.kj (t : TabS H Pt q) (k : Kj H H') : TabS H' Pt q := by
  obtain ⟨ps, h1, h2, h3⟩ := t
  refine ⟨ps, k _ _ h1 nofun nofun, h2, fun pos cv hc => ?_⟩
  obtain ⟨c, e1, e2⟩ := h3 pos cv hc
  exact ⟨c, e1, k _ _ e2 nofun nofun⟩
theorem TabS.new (h : H Pt = some (.tbl #[])) : TabS H Pt q := LamX.TabS.nil h
mutual
theorem Da.ext (s : ExtN H H') : ∀ {v : V} {d : PyData}, Da K H v d → Da K H' v d
  | _, _, .non => .non
  | _, _, .bl b => .bl b
  | _, _, .int i => .int i
  | _, _, .str x => .str x
  | _, _, .lst h t => .lst (by
      rcases h with (e | ⟨o, e⟩) | e
      · exact .inl (.inl (s _ _ e nofun))
      · exact .inl (.inr ⟨o, s _ _ e nofun⟩)
      · exact .inr e) (DaAll.ext s t)
  | _, _, .tup h t => .tup (by
      rcases h with (e | ⟨o, e⟩) | e
      · exact .inl (.inl (s _ _ e nofun))
      · exact .inl (.inr ⟨o, s _ _ e nofun⟩)
      · exact .inr e) (DaAll.ext s t)
  | _, _, .dic h t => .dic (s _ _ h nofun) (DaKv.ext s t)
theorem DaAll.ext (s : ExtN H H') : ∀ {vs : List V} {ds : List PyData}, DaAll K H vs ds → DaAll K H' vs ds
  | _, _, .nil => .nil
  | _, _, .cons h t => .cons (Da.ext s h) (DaAll.ext s t)
theorem DaKv.ext (s : ExtN H H') : ∀ {vs : List (Key × V)} {ds : List (PyData × PyData)}, DaKv K H vs ds → DaKv K H' vs ds
  | _, _, .nil => .nil
  | _, _, .cons h t => .cons (Da.ext s h) (DaKv.ext s t)
end
theorem SqL.ext {a : Addr} {xs : List V} (s : ExtN H H') (h : SqL K H a xs) : SqL K H' a xs := by
  rcases h with (e | ⟨o, e⟩) | e
  · exact .inl (.inl (s _ _ e nofun))
  · exact .inl (.inr ⟨o, s _ _ e nofun⟩)
  · exact .inr e
theorem PotA.ext {p : Addr} {n : Nat} (h : PotA p n H) (s : ExtN H H') : PotA p n H' := by
  obtain ⟨xs, e, q⟩ := h
  exact ⟨xs, s _ _ e nofun, q⟩
theorem Scr.seq {a : Addr} {xs : List V} (h : Scr K H a xs) : SqL K H a xs := by
  rcases h with ⟨o, e⟩ | h
  · exact .inl (.inr ⟨o, e⟩)
  · exact h H
theorem Scr.kj {a : Addr} {xs : List V} (h : Scr K H a xs) (k : Kj H H') : Scr K H' a xs := by
  rcases h with ⟨o, e⟩ | h
  · exact .inl ⟨o, k _ _ e nofun nofun⟩
  · exact .inr h
theorem Scr.ext {a : Addr} {xs : List V} (h : Scr K H a xs) (s : ExtN H H') : Scr K H' a xs := by
  rcases h with ⟨o, e⟩ | h
  · exact .inl ⟨o, s _ _ e nofun⟩
  · exact .inr h
end
end Ev

/-! ## A bench, while tables grow -/
namespace Ev
open PySem PySem.Spec PyProof.Rows L2
open LamX (CodeO TabS Tabs ExtN TabB)
section
variable {K : PySem.W.Frag} {C p e : Addr} {H H' : Hp} {is : List It} {hs : List (List It)}
theorem BnAt.ext (h : BnAt K C H p e is hs) (s : ExtN H H') : BnAt K C H' p e is hs := by
  obtain ⟨⟨dx, cur, h1, h2⟩, ⟨us, h3, h4⟩, h5⟩ := h
  exact ⟨⟨dx, cur, s _ _ h1 nofun, h2.ext s⟩, ⟨us, s _ _ h3 nofun, h4.ext s⟩, h5⟩
theorem BnAt.kj2 (h : BnAt K C H p e is hs) (s : Bu2 p e H H') : Kj H H' := by
  obtain ⟨dx, cur, h1, _⟩ := h.ob
  obtain ⟨us, h2, _⟩ := h.er
  intro b o ho n m
  refine s b o (fun z => ?_) (fun z => ?_) ho
  · rw [z, h1] at ho
    cases ho
    exact m _ _ _ rfl
  · rw [z, h2] at ho
    cases ho
    exact n _ rfl
/-- the pot stands apart from a bench -/
theorem BnAt.potNe {r : Addr} {n : Nat} (h : BnAt K C H p e is hs) (hp : PotA r n H) (hn : ∀ x y z : Int, hs.map pgD ≠ [.int x, .int y, .int z]) : r ≠ p ∧ r ≠ e := by
  obtain ⟨dx, cur, h1, _⟩ := h.ob
  obtain ⟨us, h2, h3⟩ := h.er
  obtain ⟨xs, h4, x, y, z, rfl, _⟩ := hp
  refine ⟨fun q => ?_, fun q => ?_⟩
  · rw [q, h1] at h4
    cases h4
  · rw [q, h2] at h4
    cases h4
    cases hs with
    | nil => cases h3
    | cons a l =>
      cases h3 with
      | cons h3 _ => cases h3
theorem PotA.bu2 {r : Addr} {n : Nat} (hp : PotA r n H) (n1 : r ≠ p) (n2 : r ≠ e) (s : Bu2 p e H H') : PotA r n H' := by
  obtain ⟨xs, e1, q⟩ := hp
  exact ⟨xs, s _ _ n1 n2 e1, q⟩
end
end Ev

/-! ## What the script is drawn from -/
namespace Ev
open PySem PySem.Spec PyProof.Rows L2
theorem scSt : FnScope ["_law_script", "_law_k", "_law_cell", "_law_own"] ["_law_script", "_law_k"] (defScope (topS 33)) := ⟨rfl, rfl, rfl, by decide +kernel, rfl, by decide +kernel, by decide +kernel⟩
theorem scDr : FnScope ["_law_stream_here", "_law_many", "_law_digit", "_law_prime", "_law_mixed"] ["_law_stream_here", "_law_many"] (defScope (topS 34)) := ⟨rfl, rfl, rfl, by decide +kernel, rfl, by decide +kernel, by decide +kernel⟩
theorem scPk : FnScope ["_law_stream_here", "_law_some"] ["_law_stream_here", "_law_some"] (defScope (topS 35)) := ⟨rfl, rfl, rfl, by decide +kernel, rfl, by decide +kernel, by decide +kernel⟩
theorem bigS : (0 : Int) < (10 ^ (60 : Int).toNat) ^ (5 : Int).toNat := by decide +kernel
section
variable {P : Program} {w : World} {K : PySem.W.Frag} {mg : Str → Option Value} {base : Heap}
theorem ok_stream (D : Def K mg "_law_stream" (topS 33) ["_law_script", "_law_k"]) (nb : NB mg) : Cal P w K mg base 1 "_law_stream" ["_law_script", "_law_k"] (spPotS K) := by
  refine D.ok scSt (fun vs H Q E h => ?_) (fun f cdv A outer s H vs Q E hr gd h => ?_)
  · obtain ⟨a, ns, k, rfl, _⟩ := h
    rfl
  · obtain ⟨a, ns, k, rfl, hS, k0, k1, q⟩ := h
    refine ⟨_, (pss_cons (ps_set (i := 2) scSt.nd rfl (.inl rfl) (pe_ifExp (pt_cmpR op_lt (pv 1) (pe_callB call_len_seq (by rfl) nb.at PySem.boot_len (pa_cons (pv 0) pa_nil)) (nomark _)) (pe_ix ix_list (pv 0) (pv 1) (fun _ _ => rfl)) (pe_op op_add (pe_op op_mul pe_int (pv 1)) pe_int)))
      (pss_cons (ps_set (i := 3) scSt.nd rfl (.inl rfl) (pe_op op_mul (pe_op op_mod (pe_callB call_abs (by rfl) nb.at (by decide +kernel) (pa_cons (pv 2) pa_nil)) (pe_op op_powG (pe_op op_pow pe_int pe_int) pe_int)) (pe_callTy call_int1 (by rfl) nb.at (by decide +kernel) (pa_cons (pe_cmpR op_ge (pe_callB call_abs (by rfl) nb.at (by decide +kernel) (pa_cons (pv 2) pa_nil)) (pe_op op_pow pe_int pe_int) (nomark _)) pa_nil))))
      (pss_one (ps_ret (pe_lst (pa_cons (pv 3) (pa_cons (pe_op op_mod (pe_op op_add (pe_op op_add (pe_op op_mul (pe_op op_mod (pv 2) pe_int) pe_int) (pe_op op_mul (pe_op op_mul pe_int (pv 1)) (pv 1))) pe_int) pe_int) (pa_cons pe_int pa_nil)))))))), ?_⟩
    refine ⟨_, rfl, _, rfl, a, _, rfl, .inl hS, k, _, rfl, rfl, _, rfl, ite2 (fun e => ?a) (fun e => ?b)⟩
    case' a =>
      have hk : k < ((ns.map V.int).length : Int) := of_decide_eq_true e
      rw [List.length_map] at hk
      have hk' : k.toNat < ns.length := by omega
      have g : atI (ns.map V.int) k = some (.int ns[k.toNat]) := by
        have z : (ns.map V.int)[k.toNat]? = some (.int ns[k.toNat]) := by
          rw [List.getElem?_map, List.getElem?_eq_getElem hk']
          rfl
        have y := atI_nat z
        rw [Int.toNat_of_nonneg k0] at y
        exact y
      refine ⟨_, rfl, _, rfl, a, _, k, _, rfl, rfl, hS, g, ?_⟩
    case' b =>
      refine ⟨_, rfl, 13, k, rfl, rfl, .inl ⟨by decide, by decide⟩, _, _, rfl, rfl, ?_⟩
    all_goals
      refine ⟨_, rfl, _, rfl, 10, 60, rfl, rfl, ⟨by decide, by decide, by decide⟩, _, 5, rfl, rfl, ⟨by decide, by decide +kernel⟩, _, _, rfl, rfl, bigS, ?_⟩
      refine ⟨_, rfl, _, rfl, 10, 18, rfl, rfl, ⟨by decide, by decide, by decide⟩, _, _, rfl, rfl, .inr ⟨_, rfl, _, _, rfl, rfl, .inr (flag_in _), ?_⟩⟩
      refine ⟨_, rfl, _, rfl, _, _, rfl, rfl, (show (0 : Int) < 2305843009213693951 by decide), _, _, rfl, rfl, .inr ⟨by decide, by decide⟩, _, rfl, _, _, rfl, rfl, .inl ⟨by decide, by decide⟩, _, rfl, _, _, rfl, rfl, .inr ⟨by omega, by omega⟩, ?_⟩
      refine ⟨_, _, rfl, rfl, _, _, rfl, rfl, _, _, rfl, rfl, (show (0 : Int) < 2305843009213693921 by decide), (by show 3 ≤ sizeLine; decide), fun p np => q _ p np (same_put np) ⟨_, upd_same, ?_⟩⟩
      exact ⟨_, _, 0, rfl, own_nn _ _ _ bigS, Int.emod_nonneg _ (by decide), Int.emod_lt_of_pos _ (by decide), Int.le_refl 0, by decide⟩
theorem ok_draw (D : Def K mg "_law_draw" (topS 34) ["_law_stream_here", "_law_many"]) (nb : NB mg) : Cal P w K mg base 1 "_law_draw" ["_law_stream_here", "_law_many"] spDraw := by
  refine D.ok scDr (fun vs H Q E h => ?_) (fun f cdv A outer s H vs Q E hr gd h => ?_)
  · obtain ⟨p, m, n, rfl, _⟩ := h
    rfl
  · obtain ⟨p, m, n, rfl, ⟨xs, hp, x, y, c, rfl, x0, y0, y1, c0, c1⟩, hn, m0, m1, q⟩ := h
    have hL : SqL K H p [.int x, .int y, .int c] := .inl (.inl hp)
    refine ⟨_, (pss_cons (ps_if (pt_cmpR op_gt (pe_ix ix_list (pv 0) pe_int (fun _ _ => rfl)) pe_int (nomark _))
        (pss_cons (ps_set (i := 2) scDr.nd rfl (.inl rfl) (pe_op op_mod (pe_ix ix_list (pv 0) pe_int (fun _ _ => rfl)) (pv 1)))
        (pss_cons (ps_asg (pe_op op_fdivW (pe_ix ix_list (pv 0) pe_int (fun _ _ => rfl)) (pv 1)) (pg_sub (pv 0) pe_int set_list))
        (pss_one (ps_ret (pv 2)))))
        pss_nil)
      (pss_cons (ps_asg (pe_op op_add (pe_ix ix_list (pv 0) pe_int (fun _ _ => rfl)) pe_int) (pg_sub (pv 0) pe_int set_list))
      (pss_cons (ps_set (i := 3) scDr.nd rfl (.inl rfl) (pe_ix ix_list (pe_lst (pa_cons pe_int (pa_cons pe_int (pa_cons pe_int (pa_cons pe_int (pa_cons pe_int pa_nil)))))) (pe_op op_mod (pe_ix ix_list (pv 0) pe_int (fun _ _ => rfl)) pe_int) (fun _ _ => rfl)))
      (pss_cons (ps_set (i := 4) scDr.nd rfl (.inl rfl) (pe_op op_mod (pe_op op_pow (pe_op op_add (pe_op op_add (pe_ix ix_list (pv 0) pe_int (fun _ _ => rfl)) (pe_op op_mul (pe_op op_mul pe_int (pe_ix ix_list (pv 0) pe_int (fun _ _ => rfl))) (pe_ix ix_list (pv 0) pe_int (fun _ _ => rfl)))) pe_int) pe_int) (pv 3)))
      (pss_one (ps_ret (pe_op op_mod (pe_op op_fdivW (pe_op op_mod (pe_op op_mul (pv 4) (pe_op op_add (pe_op op_mod (pv 4) pe_int) (pe_op op_mul pe_int (pe_ix ix_list (pv 0) pe_int (fun _ _ => rfl))))) pe_int) pe_int) (pv 1)))))))), ?_⟩
    refine ⟨_, rfl, p, _, 0, .int x, rfl, rfl, hL, rfl, _, _, rfl, rfl, _, rfl, ite2 (fun e => ?_) (fun e => ?_)⟩
    · have hx : 0 < x := of_decide_eq_true e
      refine ⟨_, rfl, p, _, 0, .int x, rfl, rfl, hL, rfl, _, rfl, _, _, rfl, rfl, m0, ?_⟩
      refine ⟨_, rfl, p, _, 0, .int x, rfl, rfl, hL, rfl, _, rfl, _, _, rfl, rfl, ⟨m0, m1⟩, _, rfl, p, _, 0, 0, rfl, rfl, hp, rfl, _, rfl, ?_⟩
      exact q _ _ Bu.put ⟨_, upd_same, _, _, _, rfl, Int.ediv_nonneg x0 (Int.le_of_lt m0), y0, y1, c0, by omega⟩ (Int.emod_nonneg _ (by omega)) (Int.emod_lt_of_pos _ m0)
    · refine ⟨_, rfl, p, _, 2, .int c, rfl, rfl, hL, rfl, _, _, rfl, rfl, _, rfl, p, _, 2, 2, rfl, rfl, hp, rfl, ?_⟩
      have c0' : 0 ≤ c + 1 := by omega
      have c1' : c + 1 ≤ 10000001 := by omega
      refine ⟨(by show 5 ≤ sizeLine; decide), fun t nt => ?_⟩
      have npt : p ≠ t := fun z => by
        rw [← z, upd_same] at nt
        cases nt
      let H2 : Hp := upd (upd H p (.lst [.int x, .int y, .int (c + 1)])) t (.lst [.int 2147483647, .int 2147483629, .int 2147483587, .int 2147483579, .int 2147483563])
      have h2 : H2 p = some (.lst [.int x, .int y, .int (c + 1)]) := by
        show upd _ t _ p = _
        rw [upd_ne npt, upd_same]
      have hL2 : SqL K H2 p [.int x, .int y, .int (c + 1)] := .inl (.inl h2)
      have hb : Bu p H H2 := Bu.trans Bu.put (Bu.new nt)
      have hT : SqL K H2 t [.int 2147483647, .int 2147483629, .int 2147483587, .int 2147483579, .int 2147483563] := .inl (.inl upd_same)
      obtain ⟨pr, hpr, p1, p2⟩ : ∃ pr : Int, atI [V.int 2147483647, .int 2147483629, .int 2147483587, .int 2147483579, .int 2147483563] ((c + 1) % 5) = some (.int pr) ∧ 0 < pr ∧ pr < 2147483648 := by
        have r0 : 0 ≤ (c + 1) % 5 := Int.emod_nonneg _ (by decide)
        have r1 : (c + 1) % 5 < 5 := Int.emod_lt_of_pos _ (by decide)
        generalize (c + 1) % 5 = r at r0 r1
        have : r = 0 ∨ r = 1 ∨ r = 2 ∨ r = 3 ∨ r = 4 := by omega
        rcases this with rfl | rfl | rfl | rfl | rfl <;> exact ⟨_, rfl, by decide, by decide⟩
      refine ⟨_, rfl, p, _, 2, .int (c + 1), rfl, rfl, hL2, rfl, _, _, rfl, rfl, (show (0 : Int) < 5 by decide), t, _, _, _, rfl, rfl, hT, hpr, ?_⟩
      have m3 : 0 ≤ 65537 * (c + 1) := by omega
      have m4 : 65537 * (c + 1) * (c + 1) ≤ 65537 * 10000001 * 10000001 := Int.mul_le_mul (Int.mul_le_mul_of_nonneg_left c1' (by decide)) c1' c0' (by decide)
      have m5 : 0 ≤ 65537 * (c + 1) * (c + 1) := Int.mul_nonneg m3 c0'
      refine ⟨_, rfl, p, _, 1, .int y, rfl, rfl, hL2, rfl, _, rfl, p, _, 2, .int (c + 1), rfl, rfl, hL2, rfl, _, _, rfl, rfl, .inl ⟨by decide, by decide⟩, _, rfl, p, _, 2, .int (c + 1), rfl, rfl, hL2, rfl, _, _, rfl, rfl, .inr ⟨by omega, by omega⟩, ?_⟩
      have pb : CPow (y + 65537 * (c + 1) * (c + 1) + 37) 3 := ⟨by decide, by decide, by omega⟩
      refine ⟨_, _, rfl, rfl, _, _, rfl, rfl, _, _, rfl, rfl, pb, _, rfl, _, _, rfl, rfl, p1, ?_⟩
      have u0 : 0 ≤ (y + 65537 * (c + 1) * (c + 1) + 37) ^ (3 : Int).toNat % pr := Int.emod_nonneg _ (by omega)
      have u1 : (y + 65537 * (c + 1) * (c + 1) + 37) ^ (3 : Int).toNat % pr < pr := Int.emod_lt_of_pos _ p1
      have fin := fun d => q H2 d hb ⟨_, h2, x, y, c + 1, rfl, x0, y0, y1, c0', by omega⟩
      show gName 4 (V.int ((y + 65537 * (c + 1) * (c + 1) + 37) ^ (3 : Int).toNat % pr)) _ _ _
      generalize (y + 65537 * (c + 1) * (c + 1) + 37) ^ (3 : Int).toNat % pr = u at u0 u1 ⊢
      have v0 : 0 ≤ u % 10007 := Int.emod_nonneg _ (by decide)
      have v1 : u % 10007 < 10007 := Int.emod_lt_of_pos _ (by decide)
      refine ⟨_, rfl, _, rfl, _, _, rfl, rfl, (show (0 : Int) < 10007 by decide), _, rfl, p, _, 2, .int (c + 1), rfl, rfl, hL2, rfl, _, _, rfl, rfl, .inl ⟨by decide, by decide⟩, _, _, rfl, rfl, ?_⟩
      refine ⟨_, _, rfl, rfl, .inl ⟨by omega, by omega⟩, _, _, rfl, rfl, (show (0 : Int) < 2305843009213693907 by decide), _, _, rfl, rfl, ⟨by decide, by decide +kernel⟩, _, rfl, _, _, rfl, rfl, m0, ?_⟩
      exact fin _ (Int.emod_nonneg _ (by omega)) (Int.emod_lt_of_pos _ m0)
theorem ok_pick (D : Def K mg "_law_pick" (topS 35) ["_law_stream_here", "_law_some"]) (C__law_draw : Cal P w K mg base 1 "_law_draw" ["_law_stream_here", "_law_many"] spDraw) (nb : NB mg) :
    Cal P w K mg base 2 "_law_pick" ["_law_stream_here", "_law_some"] (spPick K) := by
  refine D.ok scPk (fun vs H Q E h => ?_) (fun f cdv A outer s H vs Q E hr gd h => ?_)
  · obtain ⟨p, r, zs, n, rfl, _⟩ := h
    rfl
  · obtain ⟨p, r, zs, n, rfl, hp, hn, ne, hS, z0, z1, q⟩ := h
    refine ⟨_, (pss_one (ps_ret (pe_ix ix_list (pv 1) (pcall C__law_draw (hr.mono (by omega)) gd (by rfl) (pa_cons (pv 0) (pa_cons (pe_callB call_len_seq (by rfl) nb.at PySem.boot_len (pa_cons (pv 1) pa_nil)) pa_nil))) (fun _ _ => rfl)))), ?_⟩
    have hz : 0 < zs.length := by
      cases zs with
      | nil => exact absurd rfl z0
      | cons _ _ => exact Nat.succ_pos _
    refine ⟨_, rfl, _, rfl, _, rfl, r, zs, rfl, .inl hS, p, _, n, rfl, hp, hn, by omega, log_i (k := 20) (by omega) (by omega) (by decide) (by decide), fun H' d hb hy d0 d1 => ?_⟩
    have hd : d.toNat < zs.length := by omega
    have g : atI zs d = some zs[d.toNat] := by
      have y := atI_nat (List.getElem?_eq_getElem hd)
      rw [Int.toNat_of_nonneg d0] at y
      exact y
    exact ⟨r, zs, d, _, rfl, rfl, bu_seq ne.symm hb hS, g, q H' _ hb hy (List.getElem_mem hd)⟩
end
end Ev

/-! ## Lines and items -/
namespace Ev
open PySem PySem.Spec PyProof.Rows L2
theorem scLn : FnScope ["_law_stream_here", "_law_most", "_law_name"] ["_law_stream_here", "_law_most"] (defScope (topS 36)) := ⟨rfl, rfl, rfl, by decide +kernel, rfl, by decide +kernel, by decide +kernel⟩
def pool9 : List Str := ["a", "b", "c", "b", "a", "idle", "line", "loop", "zzzzzzzz"]
def spLine (K : PySem.W.Frag) : Sp := fun vs H Q _ => ∃ (p : Addr) (T : Int) (n : Nat), vs = [.ref p, .int T] ∧ PotA p n H ∧ n + 2 ≤ 10000000 ∧ 1 ≤ T ∧ T < (2 ^ 900 : Nat) ∧
  ∀ H' u x t, Bu p H H' → PotA p (n + 2) H' → Da K H' u (It.d (.line x t)) → x ∈ pool9 → 1 ≤ t → t ≤ T → Q u H'
/-- an item as drawn, of loops of so many -/
def Wm (T R : Int) : Nat → Nat → It → Prop
  | _, _, .line x t => x ∈ pool9 ∧ 1 ≤ t ∧ t ≤ T
  | 0, _, .loop _ _ => False
  | n + 1, m, .loop r is => 1 ≤ r ∧ r ≤ R ∧ 1 ≤ is.length ∧ is.length ≤ 1 + m / 2 ∧ ∀ i ∈ is, Wm T R n (1 + m / 2) i
theorem wm_line {T R : Int} {n m : Nat} {x : Str} {t : Int} : Wm T R n m (.line x t) ↔ x ∈ pool9 ∧ 1 ≤ t ∧ t ≤ T := by
  cases n <;> exact Iff.rfl
/-- an item as drawn -/
def Wb (T R : Int) : Nat → It → Prop
  | _, .line x t => x ∈ pool9 ∧ 1 ≤ t ∧ t ≤ T
  | 0, .loop _ _ => False
  | n + 1, .loop r is => 1 ≤ r ∧ r ≤ R ∧ 1 ≤ is.length ∧ is.length ≤ 11 ∧ ∀ i ∈ is, Wb T R n i
theorem wb_line {T R : Int} {n : Nat} {x : Str} {t : Int} : Wb T R n (.line x t) ↔ x ∈ pool9 ∧ 1 ≤ t ∧ t ≤ T := by
  cases n <;> exact Iff.rfl
theorem wm_wb {T R : Int} : ∀ (n m : Nat) (i : It), m ≤ 20 → Wm T R n m i → Wb T R n i
  | n, m, .line x t, _, h => wb_line.mpr (wm_line.mp h)
  | 0, _, .loop _ _, _, h => h.elim
  | n + 1, m, .loop r is, hm, h => by
    obtain ⟨h1, h2, h3, h4, h5⟩ : 1 ≤ r ∧ r ≤ R ∧ 1 ≤ is.length ∧ is.length ≤ 1 + m / 2 ∧ ∀ i ∈ is, Wm T R n (1 + m / 2) i := h
    exact ⟨h1, h2, h3, by omega, fun i hi => wm_wb n _ i (by omega) (h5 i hi)⟩
/-- how often items draw, at most -/
def budB : Nat → Nat → Nat
  | 0, many => 1 + many * 3
  | n + 1, many => 1 + many * (3 + budB n 11)
def inB : Nat → Nat
  | 0 => 0
  | d + 1 => budB d 11
theorem budB_eq (dep many : Nat) : budB dep many = 1 + many * (3 + inB dep) := by
  cases dep <;> rfl
theorem budB_le {dep m n : Nat} (h : m ≤ n) : budB dep m ≤ budB dep n := by
  rw [budB_eq, budB_eq]
  have := Nat.mul_le_mul_right (3 + inB dep) h
  omega
def spItemsB (K : PySem.W.Frag) (dep : Nat) : Sp := fun vs H Q _ => ∃ (p : Addr) (many n : Nat) (T R : Int), vs = [.ref p, .int (many : Nat), .int (dep : Nat), .int T, .int R] ∧ PotA p n H ∧ 1 ≤ many ∧ many ≤ 20 ∧
  1 ≤ T ∧ T < (2 ^ 900 : Nat) ∧ 1 ≤ R ∧ R < (2 ^ 900 : Nat) ∧ n + budB dep many ≤ 10000000 ∧
  ∀ H' u (is : List It), Bu p H H' → PotA p (n + budB dep many) H' → Da K H' u (.tuple (is.map It.d)) → 1 ≤ is.length → is.length ≤ many → (∀ i ∈ is, Wm T R dep many i) → Q u H'
/-- at most m deep -/
def spItemsM (K : PySem.W.Frag) (m : Nat) : Sp := fun vs H Q E => ∃ dep, dep ≤ m ∧ spItemsB K dep vs H Q E
theorem scIs : FnScope ["_law_stream_here", "_law_many", "_law_deep", "_law_ticks", "_law_rounds", "_law_found", "_law_turn", "_law_inner"] ["_law_stream_here", "_law_many", "_law_deep", "_law_ticks", "_law_rounds"] (defScope (topS 37)) := ⟨rfl, rfl, rfl, by decide +kernel, rfl, by decide +kernel, by decide +kernel⟩
section
variable {P : Program} {w : World} {K : PySem.W.Frag} {mg : Str → Option Value} {base : Heap}
theorem ok_line (D : Def K mg "_law_line" (topS 36) ["_law_stream_here", "_law_most"]) (C__law_draw : Cal P w K mg base 1 "_law_draw" ["_law_stream_here", "_law_many"] spDraw)
    (C__law_pick : Cal P w K mg base 2 "_law_pick" ["_law_stream_here", "_law_some"] (spPick K)) (nb : NB mg) : Cal P w K mg base 3 "_law_line" ["_law_stream_here", "_law_most"] (spLine K) := by
  refine D.ok scLn (fun vs H Q E h => ?_) (fun f cdv A outer s H vs Q E hr gd h => ?_)
  · obtain ⟨p, T, n, rfl, _⟩ := h
    rfl
  · obtain ⟨p, T, n, rfl, hp, hn, t0, t1, q⟩ := h
    refine ⟨_, (pss_cons (ps_set (i := 2) scLn.nd rfl (.inl rfl) (pcall C__law_pick (hr.mono (by omega)) gd (by rfl) (pa_cons (pv 0) (pa_cons (pe_lst (pa_cons pe_str (pa_cons pe_str (pa_cons pe_str (pa_cons pe_str (pa_cons pe_str (pa_cons pe_str (pa_cons pe_str (pa_cons pe_str (pa_cons pe_str pa_nil)))))))))) pa_nil))))
      (pss_one (ps_ret (pe_tup (pa_cons pe_str (pa_cons (pv 2) (pa_cons (pe_op op_add pe_int (pcall C__law_draw (hr.mono (by omega)) gd (by rfl) (pa_cons (pv 0) (pa_cons (pv 1) pa_nil)))) pa_nil))))))), ?_⟩
    refine ⟨_, rfl, (by show 9 ≤ sizeLine; decide), fun l nl => ⟨p, l, pool9.map V.str, n, rfl, hp.new nl, by omega, hp.ne nl, .inl (.inl upd_same), by decide, by decide, fun H2 v hb2 hp2 hv => ?_⟩⟩
    obtain ⟨x, hx, rfl⟩ := List.mem_map.mp hv
    refine ⟨_, rfl, _, rfl, _, rfl, p, T, n + 1, rfl, hp2, by omega, by omega, log_i (k := 900) (by omega) t1 (by decide) (by decide), fun H3 d hb3 hp3 d0 d1 => ⟨_, _, rfl, rfl, (by show 3 ≤ sizeLine; decide), fun t nt => ?_⟩⟩
    refine q _ _ x (1 + d) (((Bu.new nl).trans hb2).trans (hb3.trans (Bu.new nt))) (hp3.new nt) ?_ hx (by omega) (by omega)
    rw [It.d]
    exact .tup (xs := [.str "line", .str x, .int (1 + d)]) (.inl (.inl upd_same)) (.cons (.str _) (.cons (.str _) (.cons (.int _) .nil)))
theorem itemsB_step {k m : Nat} {spR : Sp} (D : Def K mg "_law_items" (topS 37) ["_law_stream_here", "_law_many", "_law_deep", "_law_ticks", "_law_rounds"]) (C__law_draw : Cal P w K mg base 1 "_law_draw" ["_law_stream_here", "_law_many"] spDraw)
    (C__law_line : Cal P w K mg base 3 "_law_line" ["_law_stream_here", "_law_most"] (spLine K)) (C__law_items : Cal P w K mg base k "_law_items" ["_law_stream_here", "_law_many", "_law_deep", "_law_ticks", "_law_rounds"] spR) (nb : NB mg) (hk : 3 ≤ k)
    (hR : ∀ d vs H Q E, d < m → spItemsB K d vs H Q E → spR vs H Q E) : Cal P w K mg base (k + 1) "_law_items" ["_law_stream_here", "_law_many", "_law_deep", "_law_ticks", "_law_rounds"] (spItemsM K m) := by
  refine D.ok scIs (fun vs H Q E h => ?_) (fun f cdv A outer s H vs Q E hr gd h => ?_)
  · obtain ⟨dep, _, p, many, n, T, R, rfl, _⟩ := h
    rfl
  · obtain ⟨dep, hdm, p, many, n, T, R, rfl, hp, m1, m2, t0, t1, r0, r1, hb, q⟩ := h
    refine ⟨_, (pss_cons (ps_set (i := 5) scIs.nd rfl (.inl rfl) (pe_lst pa_nil))
      (pss_cons (ps_for PassesOwn.never rfl (pi_range1 rfl nb.at (pa_cons (pe_op op_add pe_int (pcall C__law_draw (hr.mono (by omega)) gd (by rfl) (pa_cons (pv 0) (pa_cons (pv 1) pa_nil)))) pa_nil)) (pg_name (i := 6) scIs.nd rfl (Or.inl rfl))
        (pss_one (ps_if (PW.pt (pw_and (pt_cmpR op_gt (pv 2) pe_int (nomark _)) (pw_and1 (pt_cmpR op_eq (pcall C__law_draw (hr.mono (by omega)) gd (by rfl) (pa_cons (pv 0) (pa_cons pe_int pa_nil))) pe_int (nomark _)))))
          (pss_cons (ps_set (i := 7) scIs.nd rfl (.inl rfl) (pcall C__law_items (hr.mono (by omega)) gd (by rfl) (pa_cons (pv 0) (pa_cons (pe_op op_add pe_int (pe_op op_fdivW (pv 1) pe_int)) (pa_cons (pe_op op_sub (pv 2) pe_int) (pa_cons (pv 3) (pa_cons (pv 4) pa_nil)))))))
          (pss_one (ps_expr (pe_bm PySem.F.plainAttrs_list PySem.F.slot_list_append PySem.F.type_list_append mt_append (pv 5) (pa_cons (pe_tup (pa_cons pe_str (pa_cons (pe_op op_add pe_int (pcall C__law_draw (hr.mono (by omega)) gd (by rfl) (pa_cons (pv 0) (pa_cons (pv 4) pa_nil)))) (pa_cons (pv 7) pa_nil)))) pa_nil)))))
          (pss_one (ps_expr (pe_bm PySem.F.plainAttrs_list PySem.F.slot_list_append PySem.F.type_list_append mt_append (pv 5) (pa_cons (pcall C__law_line (hr.mono (by omega)) gd (by rfl) (pa_cons (pv 0) (pa_cons (pv 3) pa_nil))) pa_nil)))))))
      (pss_one (ps_ret (pe_callTy call_tuple_of (by rfl) nb.at (by decide +kernel) (pa_cons (pv 5) pa_nil)))))), ?_⟩
    have y := sizeLine_eq
    rw [budB_eq] at hb q
    refine ⟨(by show 0 ≤ sizeLine; exact Nat.zero_le _), fun l nl => ?_⟩
    have npl := hp.ne nl
    refine ⟨_, rfl, _, rfl, p, (many : Nat), n, rfl, hp.new nl, by omega, by omega, log_i (k := 20) (by omega) (by omega) (by decide) (by decide), fun H2 d hb2 hp2 d0 d1 => ⟨_, _, rfl, rfl, _, rfl, by omega, by omega, for_range (lo := 0) (n := (1 + d).toNat)
      (fun i σ' H' => ∃ (y6 y7 : Option V) (is : List It) (us : List V), σ' = [some (.ref p), some (.int (many : Nat)), some (.int (dep : Nat)), some (.int T), some (.int R), some (.ref l), y6, y7] ∧
        PotA p (n + 1 + i * (3 + inB dep)) H' ∧ H' l = some (.lst us) ∧ DaAll K H' us (is.map It.d) ∧ is.length = i ∧ us.length = i ∧ (∀ x ∈ is, Wm T R dep many x) ∧ Bu p H H')
      ⟨none, none, [], [], rfl, hp2.up (by omega), hb2 _ _ npl.symm upd_same, .nil, rfl, rfl, fun x hx => (nomatch hx), (Bu.new nl).trans hb2⟩ ?_ ?_⟩⟩
    · rintro i σ' H' hi ⟨y6, y7, is, us, rfl, hp', hl', hda, hi', hu', hw, hb'⟩
      have him : (i + 1) * (3 + inB dep) ≤ many * (3 + inB dep) := Nat.mul_le_mul_right _ (by omega)
      rw [Nat.succ_mul] at him
      have line : ∀ (H3 : Hp) (m3 : Nat), Bu p H' H3 → PotA p m3 H3 → m3 ≤ n + 1 + i * (3 + inB dep) + 1 → tCall (spLine K) [] E0 (tCons (tVar 0) (tCons (tVar 3) tNil)) [some (.ref p), some (.int (many : Nat)), some (.int (dep : Nat)), some (.int T), some (.int R), some (.ref l), some (.int (0 + (i : Int))), y7] H3
          (fun v H4 => ∃ (l' : Addr) (xs : List V) (z : V), V.ref l = .ref l' ∧ [v] = [z] ∧ H4 l' = some (.lst xs) ∧ xs.length < sizeLine ∧ (∃ (z6 z7 : Option V) (is : List It) (us : List V), [some (V.ref p), some (.int (many : Nat)), some (.int (dep : Nat)), some (.int T), some (.int R), some (.ref l), some (.int (0 + (i : Int))), y7] = [some (.ref p), some (.int (many : Nat)), some (.int (dep : Nat)), some (.int T), some (.int R), some (.ref l), z6, z7] ∧
            PotA p (n + 1 + (i + 1) * (3 + inB dep)) (upd H4 l' (.lst (xs ++ [z]))) ∧ upd H4 l' (.lst (xs ++ [z])) l = some (.lst us) ∧ DaAll K (upd H4 l' (.lst (xs ++ [z]))) us (is.map It.d) ∧ is.length = i + 1 ∧ us.length = i + 1 ∧ (∀ x ∈ is, Wm T R dep many x) ∧ Bu p H (upd H4 l' (.lst (xs ++ [z]))))) := fun H3 m3 hb3 hp3 hm3 => by
        refine ⟨_, rfl, _, rfl, p, T, m3, rfl, hp3, by omega, t0, t1, fun H4 u x t hb4 hp4 hd4 hx h1 h2 => ?_⟩
        have hl4 : H4 l = some (.lst us) := hb4 _ _ npl.symm (hb3 _ _ npl.symm hl')
        refine ⟨l, us, u, rfl, rfl, hl4, by omega, _, _, is ++ [.line x t], us ++ [u], rfl, (hp4.put npl).up (by rw [Nat.succ_mul]; omega), upd_same, ?_, by rw [List.length_append, hi']; rfl, by rw [List.length_append, hu']; rfl, fun z hz => ?_, fun b o nb e => ?_⟩
        · rw [List.map_append]
          have kt : Kt H4 (upd H4 l (.lst (us ++ [u]))) := Kt.put hl4
          refine daAll_append (hd4.kt kt (It.tupd _)) (DaAll.kt (((hp'.kt hb3).trans (hp3.kt hb4)).trans kt) ?_ hda)
          rw [← Its.d_map]
          exact Its.tupd _
        · rcases List.mem_append.mp hz with h | h
          · exact hw z h
          · rw [List.mem_singleton.mp h]
            exact wm_line.mpr ⟨hx, h1, h2⟩
        · rw [upd_ne (ne_of_none e nl)]
          exact hb4 _ _ nb (hb3 _ _ nb (hb' _ _ nb e))
      refine ⟨_, rfl, _, _, rfl, rfl, _, rfl, ite2 (fun e => ?_) (fun e => ?_)⟩
      · have hdep : (0 : Int) < (dep : Nat) := of_decide_eq_true e
        refine ⟨_, rfl, p, 3, _, rfl, hp', by omega, by decide, by decide +kernel, fun H3 d3 hb3 hp3 f0 f1 => ⟨rfl, _, rfl, ite2 (fun e2 => ?_) (fun e2 => ?_)⟩⟩
        · obtain ⟨dd, rfl⟩ : ∃ dd, dep = dd + 1 := ⟨dep - 1, by omega⟩
          have hin : inB (dd + 1) = budB dd 11 := rfl
          have hmm : 1 + many / 2 ≤ 11 := by omega
          have hbl := budB_le (dep := dd) hmm
          have edep : (V.int (((dd + 1 : Nat) : Int) - 1)) = V.int (dd : Nat) := by
            congr 1
            omega
          have emany : (V.int (1 + ((many : Nat) : Int) / 2)) = V.int ((1 + many / 2 : Nat) : Int) := by
            rw [show (1 + ((many : Nat) : Int) / 2) = ((1 + many / 2 : Nat) : Int) by omega]
          refine ⟨_, rfl, _, rfl, _, _, rfl, rfl, ⟨by decide, by decide +kernel⟩, _, _, rfl, rfl, _, rfl, _, _, rfl, rfl, _, rfl, _, rfl, hR dd _ _ _ _ (by omega) ⟨p, 1 + many / 2, _, T, R, by
            show [V.ref p, V.int (1 + ((many : Nat) : Int) / 2), V.int (((dd + 1 : Nat) : Int) - 1), V.int T, V.int R] = _
            rw [edep, emany], hp3, by omega, by omega, t0, t1, r0, r1, by omega, fun H4 u js hb4 hp4 hd4 l1 l2 hwj => ?_⟩⟩
          have hl4 : H4 l = some (.lst us) := hb4 _ _ npl.symm (hb3 _ _ npl.symm hl')
          refine ⟨_, rfl, .inl ⟨rfl, _, .inl (.inl hl4)⟩, _, rfl, _, rfl, p, R, _, rfl, hp4, by omega, by omega, log_i (k := 900) (by omega) r1 (by decide) (by decide), fun H5 d5 hb5 hp5 g0 g1 => ⟨_, _, rfl, rfl, _, rfl, (by show 3 ≤ sizeLine; decide), fun t nt => ?_⟩⟩
          have hl5 : H5 l = some (.lst us) := hb5 _ _ npl.symm hl4
          have nlt : l ≠ t := ne_of_none hl5 nt
          have hl6 : upd H5 t (.tup [.str "loop", .int (1 + d5), u]) l = some (.lst us) := by
            rw [upd_ne nlt]
            exact hl5
          refine ⟨l, us, .ref t, rfl, rfl, hl6, by omega, ?_⟩
          refine ⟨_, _, is ++ [.loop (1 + d5) js], us ++ [.ref t], rfl, ((hp5.new nt).put npl).up (by rw [Nat.succ_mul]; omega), upd_same, ?_, by rw [List.length_append, hi']; rfl, by rw [List.length_append, hu']; rfl, fun z hz => ?_, fun b o nb e => ?_⟩
          · rw [List.map_append]
            have kt : Kt (upd H5 t (.tup [.str "loop", .int (1 + d5), u])) (upd (upd H5 t (.tup [.str "loop", .int (1 + d5), u])) l (.lst (us ++ [.ref t]))) := Kt.put hl6
            have kt5 := (Kt.of (same_put (o := .tup [.str "loop", .int (1 + d5), u]) nt)).trans kt
            have hd : It.d (.loop (1 + d5) js) = .tuple [.str "loop", .int (1 + d5), .tuple (js.map It.d)] := by
              rw [It.d, Its.d_map]
            show DaAll _ _ _ (_ ++ [It.d (.loop (1 + d5) js)])
            rw [hd]
            refine daAll_append (.tup (xs := [.str "loop", .int (1 + d5), u]) (.inl (.inl ?_)) (.cons (.str _) (.cons (.int _) (.cons (hd4.kt ((hp4.kt hb5).trans kt5) (prog_tup js)) .nil)))) (DaAll.kt ((((hp'.kt hb3).trans (hp3.kt hb4)).trans (hp4.kt hb5)).trans kt5) ?_ hda)
            · rw [upd_ne nlt.symm, upd_same]
            · rw [← Its.d_map]
              exact Its.tupd _
          · rcases List.mem_append.mp hz with h | h
            · exact hw z h
            · rw [List.mem_singleton.mp h]
              exact ⟨by omega, by omega, l1, l2, hwj⟩
          · have e5 := hb5 _ _ nb (hb4 _ _ nb (hb3 _ _ nb (hb' _ _ nb e)))
            rw [upd_ne (ne_of_none e nl), upd_ne (ne_of_none e5 nt)]
            exact e5
        · exact ⟨_, rfl, .inl ⟨rfl, _, .inl (.inl (hb3 _ _ npl.symm hl'))⟩, line H3 _ hb3 hp3 (by omega)⟩
      · exact ⟨_, rfl, .inl ⟨rfl, _, .inl (.inl hl')⟩, line H' _ Bu.refl hp' (by omega)⟩
    · rintro σ' H' ⟨y6, y7, is, us, rfl, hp', hl', hda, hi', hu', hw, hb'⟩
      have hmul : (1 + d).toNat * (3 + inB dep) ≤ many * (3 + inB dep) := Nat.mul_le_mul_right _ (by omega)
      refine ⟨_, rfl, l, us, rfl, .inl ⟨.inl (.inl hl'), fun t nt => ?_⟩⟩
      refine q _ _ is (hb'.trans (Bu.new nt)) ((hp'.new nt).up (by omega)) (.tup (xs := us) (.inl (.inl upd_same)) (hda.mono (same_put nt))) (by omega) (by omega) hw
theorem ok_itemsB (D : Def K mg "_law_items" (topS 37) ["_law_stream_here", "_law_many", "_law_deep", "_law_ticks", "_law_rounds"]) (C__law_draw : Cal P w K mg base 1 "_law_draw" ["_law_stream_here", "_law_many"] spDraw)
    (C__law_line : Cal P w K mg base 3 "_law_line" ["_law_stream_here", "_law_most"] (spLine K)) (nb : NB mg) : ∀ m : Nat, Cal P w K mg base (4 + m) "_law_items" ["_law_stream_here", "_law_many", "_law_deep", "_law_ticks", "_law_rounds"] (spItemsM K m)
  | 0 => itemsB_step D C__law_draw C__law_line (no_cal D) nb (Nat.le_refl 3) (fun d _ _ _ _ h => absurd h (Nat.not_lt_zero d))
  | n + 1 => itemsB_step D C__law_draw C__law_line (ok_itemsB D C__law_draw C__law_line nb n) nb (show 3 ≤ 4 + n by omega) (fun d _ _ _ _ h z => ⟨d, by omega, z⟩)
end
end Ev

/-! ## Lists of numbers by place -/
namespace Ev
open PySem PySem.Spec PyProof.Rows L2
theorem divp_by {i j : Int} {n : Nat} (hj : 0 < j) (h : i.natAbs < 2 ^ n) (hn : n ≤ 4000) : CDivP i j :=
  divp_ok hj (Nat.le_trans (PyProof.Rows.intBits_le h) (by omega))
def LI (m : Nat) (f : Nat → Int) : List V := (List.range m).map fun c => V.int (f c)
section
variable {m : Nat} {f g : Nat → Int}
theorem LI_len : (LI m f).length = m := by
  unfold LI
  rw [List.length_map, List.length_range]
theorem LI_get {c : Nat} (h : c < m) : (LI m f)[c]? = some (.int (f c)) := by
  unfold LI
  rw [List.getElem?_map, List.getElem?_range h]
  rfl
theorem LI_ints : LI m f = ((List.range m).map f).map V.int := by
  unfold LI
  rw [List.map_map]
  rfl
theorem LI_congr (e : ∀ c, c < m → f c = g c) : LI m f = LI m g := by
  unfold LI
  exact List.map_congr_left fun c hc => by rw [e c (List.mem_range.mp hc)]
theorem LI_succ : LI (m + 1) f = LI m f ++ [.int (f m)] := by
  unfold LI
  rw [List.range_succ, List.map_append]
  rfl
theorem LI_ext {xs : List V} (hl : xs.length = m) (h : ∀ c, c < m → xs[c]? = some (.int (f c))) : xs = LI m f := by
  apply List.ext_getElem?
  intro c
  by_cases hc : c < m
  · rw [h c hc, LI_get hc]
  · rw [List.getElem?_eq_none (by omega), List.getElem?_eq_none (by rw [LI_len]; omega)]
theorem range_sum (f : Nat → Int) : ∀ m : Nat, ((List.range m).map f).sum = sumK f m
  | 0 => rfl
  | m + 1 => by
    rw [List.range_succ, List.map_append, List.sum_append, range_sum f m]
    show _ + (f m + 0) = _ + _
    omega
theorem LI_at {c : Nat} (h : c < m) : atI (LI m f) (c : Nat) = some (.int (f c)) := atI_of (LI_get h)
/-- from the end -/
theorem LI_neg {c : Nat} (h0 : 0 < c) (h : c ≤ m) : atI (LI m f) (-(c : Int)) = some (.int (f (m - c))) := by
  have e : ixN (LI m f).length (-(c : Int)) = some (m - c) := by
    unfold ixN
    rw [LI_len, if_neg (by omega), if_pos (by omega)]
    congr 1
    omega
  unfold atI
  rw [e]
  exact LI_get (by omega)
theorem ixN_nat {n c : Nat} (h : c < n) : ixN n (c : Nat) = some c := by
  unfold ixN
  rw [if_pos (by omega), if_pos (by omega)]
  rfl
theorem cutV_from (xs : List V) (i : Nat) : cutV xs (some (i : Nat)) none = xs.drop i := by
  unfold cutV
  rw [HT.sIx_none, HT.sIx_nat]
  by_cases h : i ≤ xs.length
  · rw [Nat.min_eq_left h, List.take_of_length_le (by rw [List.length_drop]; exact Nat.le_refl _)]
  · rw [Nat.min_eq_right (by omega), List.drop_of_length_le (Nat.le_refl _), List.drop_of_length_le (by omega), List.take_nil]
theorem cutV_to (xs : List V) (i : Nat) : cutV xs none (some (i : Nat)) = xs.take i := by
  unfold cutV
  rw [HT.sIx_none, HT.sIx_nat, List.drop_zero, Nat.sub_zero]
  by_cases h : i ≤ xs.length
  · rw [Nat.min_eq_left h]
  · rw [Nat.min_eq_right (by omega), List.take_of_length_le (by omega), List.take_of_length_le (by omega)]
theorem LI_drop {r : Nat} (h : r ≤ m) : (LI m f).drop r = LI (m - r) fun k => f (r + k) := by
  refine LI_ext (by rw [List.length_drop, LI_len]) fun c hc => ?_
  rw [List.getElem?_drop, LI_get (by omega)]
/-- starts that are moved on -/
theorem LI_moved (hm : 0 < m) (s : Nat) {cut : Nat} (hc : (cut : Int) = (-(s : Int)) % m) : (LI m f).drop cut ++ (LI m f).take cut = LI m (mvF m s f) := by
  have c1 := Int.emod_lt_of_pos (-(s : Int)) (show (0 : Int) < m by omega)
  have z := div_mod (-(s : Int)) m
  refine LI_ext (by rw [List.length_append, List.length_drop, List.length_take, LI_len]; omega) fun c hcm => ?_
  unfold mvF
  by_cases h : c < m - cut
  · rw [List.getElem?_append_left (by rw [List.length_drop, LI_len]; exact h), List.getElem?_drop, LI_get (by omega), rot_eq hm (r := cut + c) (q := (-(s : Int)) / m) (by omega) (by omega)]
  · rw [List.getElem?_append_right (by rw [List.length_drop, LI_len]; omega), List.length_drop, LI_len, List.getElem?_take_of_lt (by omega), LI_get (by omega), rot_eq hm (r := c - (m - cut)) (q := (-(s : Int)) / m + 1) (by omega) ?_]
    rw [Int.mul_add, Int.mul_one]
    omega
end
theorem LI_set {m c : Nat} {f : Nat → Int} {v : Int} (h : c < m) : (LI m f).set c (.int v) = LI m fun x => if x = c then v else f x := by
  refine LI_ext (by rw [List.length_set, LI_len]) fun x hx => ?_
  by_cases e : x = c
  · subst e
    rw [List.getElem?_set_self (by rw [LI_len]; exact h), if_pos rfl]
  · rw [List.getElem?_set_ne (fun z => e z.symm), LI_get hx, if_neg e]
theorem LI_zero (m : Nat) : (List.replicate m [V.int 0]).flatten = LI m fun _ => 0 := by
  refine LI_ext ?_ fun c hc => ?_
  · induction m with
    | zero => rfl
    | succ m ih => rw [List.replicate_succ, List.flatten_cons, List.length_append, ih]; show 1 + m = m + 1; omega
  · have e : ∀ m : Nat, (List.replicate m [V.int 0]).flatten = List.replicate m (V.int 0) := fun m => by
      induction m with
      | zero => rfl
      | succ m ih => rw [List.replicate_succ, List.flatten_cons, ih]; rfl
    rw [e, List.getElem?_replicate, if_pos hc]
/-- one turned back, by a place that may be below 0 -/
theorem LI_back {m i r : Nat} {f : Nat → Int} (hi : i < m) (hr : r < m) : atI (LI m f) ((i : Int) - (r : Int)) = some (.int (f (rot m i r))) := by
  by_cases h : r ≤ i
  · rw [show (i : Int) - r = ((i - r : Nat) : Int) by omega, LI_at (by omega), rot_eq (by omega) (r := i - r) (q := 0) (by omega) (by omega)]
  · rw [show (i : Int) - r = -((r - i : Nat) : Int) by omega, LI_neg (by omega) (by omega), rot_eq (by omega) (r := m - (r - i)) (q := -1) (by omega) (by omega)]
theorem none_of {H H' : Hp} {p : Addr} (s : Same H H') (n : H' p = none) : H p = none := by
  cases e : H p with
  | none => rfl
  | some o =>
    rw [s _ _ e] at n
    cases n
/-- [elt for i in range(n)], the elements plain values -/
theorem g_lcR1 {H0 : Hp} {σ : L2.St} {te : TE} {ys : List V} {ta : TA} {n : Nat} {g : TG} {vs : List Nat} (hta : ∀ (H : Hp) (Q : List V → Hp → Prop), Same H0 H → Q [.int (n : Nat)] H → ta σ H Q) (hz : n ≤ 1000000) (hl : ys.length = n)
    (he : ∀ (j : Nat) (y : V), ys[j]? = some y → ∀ (H : Hp) (R : VK), Same H0 H → (∀ H', Same H H' → R y H') → g (.int (0 + j)) (wipe σ vs) H fun σ2 H2 => wipe σ2 vs = wipe σ vs ∧ te σ2 H2 R) :
    Gives H0 (tLc (iRng1 ta) g tYes te vs) (gLst (ys.map gEq)) σ := fun H Q s q => by
  refine hta H _ s ⟨(n : Nat), rfl, by omega, by omega, fun D nD => ?_⟩
  have y := sizeLine_eq
  rw [Int.toNat_natCast]
  refine lc_range (lo := 0) (n := n) (fun k H' => Same H H' ∧ H' D = some (.lst (ys.take k))) ⟨same_put nD, upd_same⟩ ?_ ?_
  · rintro k H' hk ⟨s', eD⟩
    have hk' : k < ys.length := by omega
    have hy := List.getElem?_eq_getElem hk'
    refine cast ?_ (he k ys[k] hy H' (fun y H4 => ∃ acc, H4 D = some (.lst acc) ∧ acc.length < sizeLine ∧ Same H (upd H4 D (.lst (acc ++ [y]))) ∧ upd H4 D (.lst (acc ++ [y])) D = some (.lst (ys.take (k + 1)))) (s.trans s') fun H4 s4 => ⟨_, s4 _ _ eD, ?_, ?_, ?_⟩)
    · rfl
    · rw [List.length_take]
      omega
    · intro b o e
      rw [upd_ne (ne_of_none e nD)]
      exact s4 _ _ (s' _ _ e)
    · rw [upd_same, List.take_add_one, hy]
      rfl
  · rintro H' ⟨s', eD⟩
    rw [← hl, List.take_length] at eD
    exact q H' _ s' ⟨D, ys, rfl, eD, allEq⟩
theorem s_asg {te : TE} {i : Nat} {rest : TS} {D : Ends} {σ : L2.St} {H : Hp} (h : te σ H fun u H' => rest D (σ.set i (some u)) H') : tSeq (tAsg te (gName i)) rest D σ H := h
theorem s_call {sp : Sp} {te : TE} {ta : TA} {i : Nat} {rest : TS} {D : Ends} {σ : L2.St} {H : Hp} (h : te σ H fun u H1 => ta σ H1 fun us H2 => sp (u :: us ++ []) H2 (fun v H' => rest D (σ.set i (some v)) H') E0) : tSeq (tAsg (tCall sp [] E0 (tCons te ta)) (gName i)) rest D σ H := h
/-- the same, the list being new -/
theorem lc_rng {σ : L2.St} {H : Hp} {Q : VK} {te : TE} {ys : List V} {ta : TA} {n : Nat} {g : TG} {vs : List Nat} (hta : ∀ (Q : List V → Hp → Prop), Q [.int (n : Nat)] H → ta σ H Q) (hz : n ≤ 1000000) (hl : ys.length = n)
    (he : ∀ (j : Nat) (y : V), ys[j]? = some y → ∀ (H' : Hp) (R : VK), Same H H' → (∀ H'', Same H' H'' → R y H'') → g (.int (0 + j)) (wipe σ vs) H' fun σ2 H2 => wipe σ2 vs = wipe σ vs ∧ te σ2 H2 R)
    (q : ∀ H' D, Same H H' → H D = none → H' D = some (.lst ys) → Q (.ref D) H') : tLc (iRng1 ta) g tYes te vs σ H Q := by
  refine hta _ ⟨(n : Nat), rfl, by omega, by omega, fun D nD => ?_⟩
  have y := sizeLine_eq
  rw [Int.toNat_natCast]
  refine lc_range (lo := 0) (n := n) (fun k H' => Same H H' ∧ H' D = some (.lst (ys.take k))) ⟨same_put nD, upd_same⟩ ?_ ?_
  · rintro k H' hk ⟨s', eD⟩
    have hk' : k < ys.length := by omega
    have hy := List.getElem?_eq_getElem hk'
    refine cast ?_ (he k ys[k] hy H' (fun y H4 => ∃ acc, H4 D = some (.lst acc) ∧ acc.length < sizeLine ∧ Same H (upd H4 D (.lst (acc ++ [y]))) ∧ upd H4 D (.lst (acc ++ [y])) D = some (.lst (ys.take (k + 1)))) s' fun H4 s4 => ⟨_, s4 _ _ eD, ?_, ?_, ?_⟩)
    · rfl
    · rw [List.length_take]
      omega
    · intro b o e
      rw [upd_ne (ne_of_none e nD)]
      exact s4 _ _ (s' _ _ e)
    · rw [upd_same, List.take_add_one, hy]
      rfl
  · rintro H' ⟨s', eD⟩
    rw [← hl, List.take_length] at eD
    exact q H' D s' nD eD
/-- [elt for x in a list], the elements plain values, the list new -/
theorem lc_lst {K : PySem.W.Frag} {σ : L2.St} {H : Hp} {Q : VK} {te ti : TE} {a : Addr} {xs ys : List V} {g : TG} {vs : List Nat} (hi : ∀ Q : VK, Q (.ref a) H → ti σ H Q) (hx : SqL K H a xs) (hz : xs.length ≤ 1000000) (hl : ys.length = xs.length)
    (he : ∀ (j : Nat) (x y : V), xs[j]? = some x → ys[j]? = some y → ∀ (H' : Hp) (R : VK), Same H H' → (∀ H'', Same H' H'' → R y H'') → g x (wipe σ vs) H' fun σ2 H2 => wipe σ2 vs = wipe σ vs ∧ te σ2 H2 R)
    (q : ∀ H' D, Same H H' → H D = none → H' D = some (.lst ys) → Q (.ref D) H') : tLc (iList K ti) g tYes te vs σ H Q := by
  refine hi _ ⟨a, rfl, ⟨xs, hx⟩, fun D nD => ?_⟩
  have y := sizeLine_eq
  refine lc_list (K := K) (a := a) (xs := xs) (fun k H' => Same H H' ∧ H' D = some (.lst (ys.take k))) ⟨same_put nD, upd_same⟩ (fun k H' _ ⟨s', _⟩ => s'.seq hx) ?_ ?_
  · rintro k x H' hk ⟨s', eD⟩
    have hk' : k < ys.length := by
      obtain ⟨h, _⟩ := List.getElem?_eq_some_iff.mp hk
      omega
    have hy := List.getElem?_eq_getElem hk'
    refine cast ?_ (he k x ys[k] hk hy H' (fun y H4 => ∃ acc, H4 D = some (.lst acc) ∧ acc.length < sizeLine ∧ Same H (upd H4 D (.lst (acc ++ [y]))) ∧ upd H4 D (.lst (acc ++ [y])) D = some (.lst (ys.take (k + 1)))) s' fun H4 s4 => ⟨_, s4 _ _ eD, ?_, ?_, ?_⟩)
    · rfl
    · rw [List.length_take]
      omega
    · intro b o e
      rw [upd_ne (ne_of_none e nD)]
      exact s4 _ _ (s' _ _ e)
    · rw [upd_same, List.take_add_one, hy]
      rfl
  · rintro H' ⟨s', eD⟩
    rw [← hl, List.take_length] at eD
    exact q H' D s' nD eD
/-! ### how great the numbers are -/
def Bd (R m : Nat) (f : Nat → Int) : Prop := ∀ c, c < m → (f c).natAbs < 2 ^ R
theorem sum_bd {h : Nat → Int} {R n B : Nat} (hb : ∀ k, k < n → (h k).natAbs < 2 ^ R) (hn : n < 2 ^ B) : (sumK h n).natAbs < 2 ^ (R + B) := by
  have a := sumK_le (M := (2 ^ R : Nat)) (h := h) (n := n) fun k hk => by
    have := hb k hk
    omega
  have b : n * 2 ^ R < 2 ^ B * 2 ^ R := Nat.mul_lt_mul_of_pos_right hn (Nat.pos_of_ne_zero (by simp))
  rw [← Int.natCast_mul] at a
  rw [Nat.add_comm, Nat.pow_add]
  omega
theorem bd_rep {R B m s t : Nat} {f : Nat → Int} (hm : 0 < m) (hf : Bd R m f) (ht : t < 2 ^ B) : Bd (R + B) m (repF m s t f) := fun _ _ => sum_bd (fun _ _ => hf _ (rot_lt hm _ _)) ht
theorem bd_mv {R m s : Nat} {f : Nat → Int} (hm : 0 < m) (hf : Bd R m f) : Bd R m (mvF m s f) := fun _ _ => hf _ (rot_lt hm _ _)
theorem Bd.up {R R' m : Nat} {f : Nat → Int} (hf : Bd R m f) (h : R ≤ R') : Bd R' m f := fun c hc => Nat.lt_of_lt_of_le (hf c hc) (Nat.pow_le_pow_right (by decide) h)
end Ev

/-! ## Lines one behind the other -/
namespace Ev
open PySem PySem.Spec PyProof.Rows L2
def pool2 : List Str := ["a", "b"]
def LnI (ws : List Str) (b : Nat) : It → Prop
  | .line x t => x ∈ ws ∧ 1 ≤ t ∧ t ≤ (b : Nat)
  | .loop _ _ => False
theorem LnI.up {ws : List Str} {b c : Nat} (h : b ≤ c) : ∀ {i : It}, LnI ws b i → LnI ws c i
  | .line x t, k => by
    obtain ⟨k1, k2, k3⟩ : x ∈ ws ∧ 1 ≤ t ∧ t ≤ (b : Nat) := k
    exact ⟨k1, k2, by omega⟩
  | .loop _ _, k => k.elim
def LpI (ws : List Str) (b : Nat) : It → Prop
  | .line _ _ => False
  | .loop r is => r = 1 ∧ is ≠ [] ∧ ∀ i ∈ is, LnI ws b i
theorem pool_so : pool2.all PyData.strOk = true := by decide +kernel
theorem pool_nm : pool2.all nmB = true := by decide +kernel
theorem lay_lines {ws : List Str} {b : Nat} (hw : ∀ x ∈ ws, x ∈ pool2) : ∀ {Ls : List It}, (∀ j ∈ Ls, LnI ws b j) → PyData.canLayAll0 (Ls.map It.d) = true ∧ PyData.depthAll (Ls.map It.d) ≤ 1
  | [], _ => ⟨by rw [List.map_nil, PyData.canLayAll0], by rw [List.map_nil, PyData.depthAll]; decide⟩
  | i :: Ls, h => by
    obtain ⟨i1, i2⟩ := lay_lines hw fun j hj => h j (List.mem_cons_of_mem _ hj)
    have hi := h i (List.mem_cons_self ..)
    match i, hi with
    | .line x t, hi =>
      obtain ⟨k1, k2, k3⟩ : x ∈ ws ∧ 1 ≤ t ∧ t ≤ (b : Nat) := hi
      have hs : PyData.strOk x = true := List.all_eq_true.mp pool_so x (hw x k1)
      refine ⟨?_, ?_⟩
      · rw [List.map_cons, PyData.canLayAll0, i1, It.d, PyData.canLay0, PyData.canLayAll0, PyData.canLayAll0, PyData.canLayAll0, PyData.canLayAll0, PyData.canLay0, PyData.canLay0, PyData.canLay0, hs]
        decide +kernel
      · rw [List.map_cons, PyData.depthAll, It.d, PyData.depth, PyData.depthAll, PyData.depthAll, PyData.depthAll, PyData.depthAll, PyData.depth, PyData.depth, PyData.depth]
        omega
theorem shp_lines {ws : List Str} {b : Nat} {Ls : List It} (hw : ∀ x ∈ ws, x ∈ pool2) (h : ∀ j ∈ Ls, LnI ws b j) : SeqAt.shaped (.list (Ls.map It.d)) = true := by
  obtain ⟨i1, i2⟩ := lay_lines hw h
  show (PyData.canLay0 _ && decide (PyData.depth _ ≤ 64)) = true
  rw [PyData.canLay0, i1, PyData.depth, Bool.true_and]
  exact decide_eq_true (by omega)
theorem eqv_nil (ds : List PyData) : PyData.eqv (.list ds) (.list []) = decide (ds = []) := by
  cases ds <;> simp [PyData.eqv, PyData.eqvAll]
theorem its_tup (is : List It) : tupDs (is.map It.d) = true := by
  have z := prog_tup is
  rw [tupD] at z
  exact z
theorem daAll_last {K : PySem.W.Frag} {H : Hp} {d : PyData} : ∀ {ds : List PyData} {xs : List V}, DaAll K H xs (ds ++ [d]) → ∃ ys v, xs = ys ++ [v] ∧ ys.length = ds.length ∧ DaAll K H ys ds ∧ Da K H v d
  | [], _, h => by
    cases h with
    | cons h1 h2 =>
      cases h2
      exact ⟨[], _, rfl, rfl, .nil, h1⟩
  | e :: ds, _, h => by
    cases h with
    | cons h1 h2 =>
      obtain ⟨ys, v, rfl, l, h3, h4⟩ := daAll_last h2
      exact ⟨_ :: ys, v, rfl, by rw [List.length_cons, List.length_cons, l], .cons h1 h3, h4⟩
theorem last_ix (ys : List V) (v : V) : ixN (ys ++ [v]).length (-1) = some ys.length := by
  unfold ixN
  rw [if_neg (by decide), List.length_append, List.length_singleton, if_pos (by omega)]
  congr 1
  omega
theorem last_at (ys : List V) (v : V) : atI (ys ++ [v]) (-1) = some v ∧ ixN (ys ++ [v]).length (-1) = some ys.length ∧ ∀ u, (ys ++ [v]).set ys.length u = ys ++ [u] := by
  refine ⟨?_, ?_, ?_⟩
  · unfold atI
    rw [last_ix, Option.bind_some, List.getElem?_append_right (Nat.le_refl _), Nat.sub_self]
    rfl
  · exact last_ix ys v
  · intro u
    simp
theorem w_snoc (Ls : List It) (i : It) : Its.w (Ls ++ [i]) = Its.w Ls ++ It.w i := by rw [w_app, w_one]
theorem w_line (x : Str) (t : Int) : It.w (.line x t) = List.replicate t.toNat x := by rw [It.w]
theorem w_loop1 (is : List It) : It.w (.loop 1 is) = Its.w is := by
  rw [It.w]
  show (List.replicate 1 (Its.w is)).flatten = _
  rw [List.replicate_one, List.flatten_cons, List.flatten_nil, List.append_nil]
theorem ni_snoc (Ls : List It) (i : It) : Its.ni (Ls ++ [i]) = Its.ni Ls + It.ni i := by
  induction Ls with
  | nil =>
    rw [List.nil_append, Its.ni, Its.ni, Nat.zero_add]
    show It.ni i + Its.ni [] = _
    rw [show Its.ni [] = 0 by rw [Its.ni], Nat.add_zero]
  | cons j Ls ih => rw [List.cons_append, Its.ni, Its.ni, ih, Nat.add_assoc]
theorem ni_lines {ws : List Str} {b : Nat} : ∀ {Ls : List It}, (∀ j ∈ Ls, LnI ws b j) → Its.ni Ls = Ls.length
  | [], _ => by rw [Its.ni]; rfl
  | .line x t :: Ls, h => by
    rw [Its.ni, It.ni, ni_lines fun j hj => h j (List.mem_cons_of_mem _ hj), List.length_cons, Nat.add_comm]
  | .loop r is :: Ls, h => (h _ (List.mem_cons_self ..)).elim
theorem lnI_ps {ws : List Str} {b : Nat} : ∀ {i : It}, LnI ws b i → It.ps i
  | .line x t, k => by
    rw [It.ps]
    exact k.2.1
  | .loop _ _, k => k.elim
theorem lnI_nm {ws : List Str} {b : Nat} (hw : ∀ x ∈ ws, x ∈ pool2) (hb : b ≤ 1000) : ∀ {i : It}, LnI ws b i → It.nm i
  | .line x t, k => by
    obtain ⟨k1, k2, k3⟩ : x ∈ ws ∧ 1 ≤ t ∧ t ≤ (b : Nat) := k
    rw [It.nm]
    exact ⟨List.all_eq_true.mp pool_nm x (hw x k1), by omega⟩
  | .loop _ _, k => k.elim
theorem lnI_ok {ws : List Str} {b n : Nat} (hb : b ≤ 1000) : ∀ {i : It}, LnI ws b i → Okp 64 n i
  | .line x t, k => by
    obtain ⟨k1, k2, k3⟩ : x ∈ ws ∧ 1 ≤ t ∧ t ≤ (b : Nat) := k
    exact okp_line.mpr ⟨by omega, by omega⟩
  | .loop _ _, k => k.elim
theorem ni_ge : ∀ Fs : List It, Fs.length ≤ Its.ni Fs
  | [] => Nat.zero_le _
  | .line x t :: Fs => by
    have ih := ni_ge Fs
    rw [Its.ni, List.length_cons, It.ni]
    omega
  | .loop r is :: Fs => by
    have ih := ni_ge Fs
    rw [Its.ni, List.length_cons, It.ni]
    omega
def PkI (K : PySem.W.Frag) (a l : Addr) (ws : List Str) (H : Hp) (i : Nat) (σ' : L2.St) (H' : Hp) : Prop := ∃ (y2 : Option V) (xs : List V) (Ls : List It), σ' = [some (.ref a), some (.ref l), y2] ∧ Same H H' ∧ H' l = some (.lst xs) ∧ DaAll K H' xs (Ls.map It.d) ∧ (∀ j ∈ Ls, LnI ws i j) ∧ Its.w Ls = ws.take i ∧ Ls.length ≤ i
theorem pk_next {K : PySem.W.Frag} {a l e t1 : Addr} {ws : List Str} {H H' : Hp} {i : Nat} {x : Str} {xs ms : List V} {Ms : List It} {t : Int} (nl : H l = none) (s' : Same H H') (hl' : H' l = some (.lst xs)) (ne : H' e = none) (n1 : upd H' e (.lst []) t1 = none)
    (hda : DaAll K H' ms (Ms.map It.d)) (hln : ∀ j ∈ Ms, LnI ws i j) (hx : x ∈ ws) (hwd : Its.w Ms ++ List.replicate t.toNat x = ws.take (i + 1)) (h1 : 1 ≤ t) (h2 : t ≤ ((i + 1 : Nat) : Int)) (hll : Ms.length ≤ i) :
    PkI K a l ws H (i + 1) [some (.ref a), some (.ref l), some (.str x)] (upd (upd (upd H' e (.lst [])) t1 (.tup [.str "line", .str x, .int t])) l (.lst (ms ++ [.ref t1]))) := by
  have hb : Bu l H' (upd (upd (upd H' e (.lst [])) t1 (.tup [.str "line", .str x, .int t])) l (.lst (ms ++ [.ref t1]))) := (Bu.of ((same_put ne).trans (same_put n1))).trans Bu.put
  have hlt : t1 ≠ l := fun z => by
    have q := same_put (o := .lst []) ne _ _ hl'
    rw [z, q] at n1
    cases n1
  refine ⟨_, _, Ms ++ [.line x t], rfl, fun b o h => hb b o (ne_of_none h nl) (s' b o h), upd_same, ?_, ?_, ?_, ?_⟩
  · rw [List.map_append]
    refine daAll_append ?_ (DaAll.kt (hb.kt hl') (its_tup Ms) hda)
    rw [It.d]
    exact .tup (xs := [.str "line", .str x, .int t]) (.inl (.inl (by rw [upd_ne hlt, upd_same]))) (.cons (.str _) (.cons (.str _) (.cons (.int _) .nil)))
  · intro j hj
    rcases List.mem_append.mp hj with h | h
    · exact (hln j h).up (Nat.le_succ i)
    · rw [List.mem_singleton.mp h]
      exact ⟨hx, h1, h2⟩
  · rw [w_snoc, w_line, hwd]
  · rw [List.length_append, List.length_singleton]
    omega
end Ev

/-! ## name = {..: .. for ..}, the name a local of the def -/
namespace Ev
open PySem PySem.Spec PyProof.Rows L2
theorem swd_true {kx vx : Expr} {gs : List Comprehension} {sc : Scope} {p0 p1 : Pos} {nm : Str} {ln : Nat} {en : Env} (h1 : en.scope.kind = .function) (h2 : en.scope.names.lookup nm = some .local)
    (h3 : (p1.line == p0.line) = true) (h4 : (sc.names.any fun (n, k) => n == nm && (k == .local || k == .cell)) = false) : swapsWith (.DictComp kx vx gs sc p0) (some (.Name nm p1)) ln en = pure true := by
  have e1 : en.kindOf nm = some .local := h2
  have e2 : en.blockKind = .function := by
    unfold Env.blockKind
    rw [h1]
    rfl
  unfold swapsWith
  simp only [e2, e1, h4, Expr.pos, h3]
  rfl
theorem ps_setDc {X : Cx} {n : Nat} {nm : Str} {p0 p1 p2 : Pos} {kx vx tg it : Expr} {cs : List Expr} {sc : Scope} {own : List (Str × Nat)} {wi : TI} {g : TG} {tt : TT} {tk tv : TE} (hc : X.calm = true) (hN : X.N.Nodup) (h1 : X.N[n]? = some nm)
    (h2 : X.env.scope.names.lookup nm = some .local) (h3 : swapsWith (.DictComp kx vx [⟨tg, it, cs, 0⟩] sc p0) (some (.Name nm p1)) p2.line X.env = pure true) (hi : PI X tg it wi) (ok : BlkOk X.N X.env.scope sc own)
    (hg : ∀ (s : Shared) (H : Hp) (c : Addr) (l : List (Str × Addr)) (fp : List Addr), PG (X.blk s H sc (compEnvC sc l c X.env) fp) tg g) (ht : ∀ (s : Shared) (H : Hp) (c : Addr) (l : List (Str × Addr)) (fp : List Addr), PTs (X.blk s H sc (compEnvC sc l c X.env) fp) cs tt)
    (hk : ∀ (s : Shared) (H : Hp) (c : Addr) (l : List (Str × Addr)) (fp : List Addr), PE (X.blk s H sc (compEnvC sc l c X.env) fp) kx tk) (he : ∀ (s : Shared) (H : Hp) (c : Addr) (l : List (Str × Addr)) (fp : List Addr), PE (X.blk s H sc (compEnvC sc l c X.env) fp) vx tv)
    (hs : ∀ x, foldedSetIterable it X.env x = pure x := by intro _; rfl) : PS X (.Assign [.Name nm p1] (.DictComp kx vx [⟨tg, it, cs, 0⟩] sc p0) p2) (tAsg (tDc wi g tt tk tv (own.map (·.2))) (gName n)) := by
  constructor
  intro pins s σ H D I h
  have e0 := exec_Assign_Name_used (env := X.env) _ _ _ _ h3
  rw [e0]
  have h : tDc wi g tt tk tv (own.map (·.2)) σ H (fun x H1 => gName n x σ H1 D.nx) := h
  refine wpAny_bind (wpAny_standAt (wpAny_bind ?go))
  case go =>
    change wpAny _ X.A (do let _ ← comprehension (.DictComp kx vx [⟨tg, it, cs, 0⟩] sc p0) sc X.env (firstIterPos [⟨tg, it, cs, 0⟩] p0) newDict false (eval it X.env) (some (assign (.Name nm p1) X.env))) _ _ s
    refine wpAny_bind (thn (dc_core (Qf := fun _ z => SP X pins D .next z) hc hN I hi ok hg ht hk he hs h fun dd C s1 mm H1 I1 q hn fp => ?_) fun _ z hq => wpAny_pure (wpAny_pure hq))
    change wpAny _ _ (assign (.Name nm p1) X.env (.ref dd)) _ _ _
    refine wpAny_assign_Name (store_ok2 (v := V.ref dd) I1 hN h1 (.inl h2) rfl (fun s2 I2 ⟨aa, sb, ha⟩ => ?_) (.inr h2))
    obtain ⟨g0, g1, g2, g3, g4, g5⟩ := fp
    have ne : C ≠ aa := by
      rcases ha with z | z
      · rw [z]
        exact g1
      · exact fun e => g4 nm aa z e.symm
    exact ⟨mm, hn.sameBut sb ne, fun h' sb' => ⟨_, H1, I2.turned (t' := s2.toks) (fun b o hb e => (sb'.2 b hb).trans e) g0 g1 g3 g4 g5, q⟩⟩
/-! ### dicts by names -/
def mapD (names : List Str) (v : Str → V) : List (Key × V) := names.map fun n => ((.inr n : Key), v n)
section
variable {names : List Str} {v : Str → V} {x : Str} {u : V}
theorem mapD_len : (mapD names v).length = names.length := by
  unfold mapD
  rw [List.length_map]
theorem mapD_val (h : x ∈ names) : valV (mapD names v) (.inr x) = some (v x) := by
  induction names with
  | nil => cases h
  | cons n names ih =>
    by_cases e : n = x
    · subst e
      exact valV_pos rfl
    · rw [show mapD (n :: names) v = ((.inr n, v n) : Key × V) :: mapD names v from rfl, valV_neg (fun z => e (Sum.inr.inj z))]
      exact ih ((List.mem_cons.mp h).resolve_left fun z => e z.symm)
theorem mapD_any : ((mapD names v).any fun p => decide (p.1 = (.inr x : Key))) = decide (x ∈ names) := by
  induction names with
  | nil => rfl
  | cons n names ih =>
    rw [show mapD (n :: names) v = ((.inr n, v n) : Key × V) :: mapD names v from rfl, List.any_cons, ih]
    by_cases e : n = x
    · subst e
      simp
    · have h1 : decide ((Sum.inr n : Key) = Sum.inr x) = false := decide_eq_false fun z => e (Sum.inr.inj z)
      have h2 : ¬ x = n := fun z => e z.symm
      show (decide ((Sum.inr n : Key) = Sum.inr x) || decide (x ∈ names)) = _
      rw [h1, Bool.false_or]
      exact decide_eq_decide.mpr ⟨fun z => List.mem_cons_of_mem _ z, fun z => (List.mem_cons.mp z).resolve_left h2⟩
theorem mapD_put (h : x ∈ names) : putK (mapD names v) (.inr x) u = mapD names fun n => if n = x then u else v n := by
  unfold putK
  rw [mapD_any, decide_eq_true h, if_pos rfl]
  unfold mapD
  rw [List.map_map]
  refine List.map_congr_left fun n _ => ?_
  show (if (Sum.inr n : Key) = Sum.inr x then _ else _) = ((.inr n, if n = x then u else v n) : Key × V)
  by_cases e : n = x
  · subst e
    rw [if_pos rfl]
    simp
  · rw [if_neg fun z => e (Sum.inr.inj z), if_neg e]
theorem mapD_new (h : x ∉ names) : putK (mapD names v) (.inr x) u = mapD names v ++ [(.inr x, u)] := by
  unfold putK
  rw [mapD_any, decide_eq_false h, if_neg Bool.false_ne_true]
theorem mapD_snoc (h : x ∉ names) : mapD names v ++ [(.inr x, u)] = mapD (names ++ [x]) fun n => if n = x then u else v n := by
  unfold mapD
  rw [List.map_append]
  congr 1
  · refine List.map_congr_left fun n hn => ?_
    have ne : ¬ n = x := fun z => by
      rw [z] at hn
      exact h hn
    show _ = ((.inr n, if n = x then u else v n) : Key × V)
    rw [if_neg ne]
  · simp
end
theorem but_bu {H H' : Hp} {p : Addr} (b : Bu p H H') : Same (but H p) (but H' p) := fun x o e => by
  by_cases h : x = p
  · rw [h] at e
    have z : but H p p = none := if_pos rfl
    rw [z] at e
    cases e
  · rw [but_ne h] at e ⊢
    exact b x o h e
theorem but_in {H : Hp} {p : Addr} : Same (but H p) H := fun x o e => by
  by_cases h : x = p
  · rw [h] at e
    have z : but H p p = none := if_pos rfl
    rw [z] at e
    cases e
  · rw [but_ne h] at e
    exact e
theorem newer_but {H H' : Hp} {p : Addr} {o : HO} (hp : H p = some o) : Same (newer H H') (but H' p) := fun x u e => by
  by_cases hb : H x = none
  · rw [newer_at hb] at e
    have n : x ≠ p := fun z => by
      rw [z, hp] at hb
      cases hb
    rw [but_ne n]
    exact e
  · have z : newer H H' x = none := if_neg hb
    rw [z] at e
    cases e
theorem newer_in {H H' : Hp} : Same (newer H H') H' := fun b o e => by
  by_cases hb : H b = none
  · rw [newer_at hb] at e
    exact e
  · have z : newer H H' b = none := if_neg hb
    rw [z] at e
    cases e
/-! ### columns as data -/
def intsD (m : Nat) (f : Nat → Int) : List PyData := (List.range m).map fun c => .int (f c)
def colD (m : Nat) (p : Str × (Nat → Int)) : PyData := .tuple [.str p.1, .list (intsD m p.2)]
theorem da_LI {K : PySem.W.Frag} {H : Hp} {m : Nat} {f : Nat → Int} : DaAll K H (LI m f) (intsD m f) := by
  unfold LI intsD
  generalize List.range m = l
  induction l with
  | nil => exact .nil
  | cons c l ih => exact .cons (.int _) ih
theorem da_ints {K : PySem.W.Frag} {H : Hp} : ∀ {ns : List Int} {vs : List V}, DaAll K H vs (ns.map PyData.int) → vs = ns.map V.int
  | [], _, .nil => rfl
  | n :: ns, _, .cons h t => by
    cases h
    rw [da_ints t]
    rfl
theorem da_col {K : PySem.W.Frag} {H : Hp} {m : Nat} {v : V} {p : Str × (Nat → Int)} (h : Da K H v (colD m p)) : ∃ t q, v = .ref t ∧ SqT K H t [.str p.1, .ref q] ∧ SqL K H q (LI m p.2) := by
  unfold colD at h
  cases h with
  | @tup t xs _ hs ha =>
  cases ha with
  | cons h1 ha =>
  cases ha with
  | cons h2 ha =>
  cases ha
  cases h1
  cases h2 with
  | @lst q ys _ hq hb =>
  have e : intsD m p.2 = ((List.range m).map p.2).map PyData.int := by
    unfold intsD
    rw [List.map_map]
    rfl
  rw [e] at hb
  have e2 := da_ints hb
  rw [← LI_ints] at e2
  subst e2
  exact ⟨t, q, rfl, hs, hq⟩
/-! ### starts behind items -/
def Its.st (m : Nat) : List It → (Nat → Int) → (Nat → Int)
  | [], f => f
  | i :: is, f => Its.st m is (mvF m (It.w i).length f)
theorem cols_app (m : Nat) : ∀ (is js : List It) (f : Nat → Int), Its.cols m (is ++ js) f = Its.cols m is f ++ Its.cols m js (Its.st m is f)
  | [], js, f => by
    rw [List.nil_append, Its.cols, Its.st, List.nil_append]
  | i :: is, js, f => by
    rw [List.cons_append, Its.cols, Its.cols, cols_app m is js, Its.st, List.append_assoc]
theorem st_app (m : Nat) : ∀ (is js : List It) (f : Nat → Int), Its.st m (is ++ js) f = Its.st m js (Its.st m is f)
  | [], js, f => by
    rw [List.nil_append, Its.st]
  | i :: is, js, f => by
    rw [List.cons_append, Its.st, Its.st, st_app m is js]
theorem cols_take {m : Nat} {is : List It} {i : Nat} {it : It} {f : Nat → Int} (h : is[i]? = some it) : Its.cols m (is.take (i + 1)) f = Its.cols m (is.take i) f ++ It.cols m it (Its.st m (is.take i) f) := by
  rw [List.take_add_one, h, cols_app]
  show _ ++ Its.cols m [it] _ = _
  rw [Its.cols, Its.cols, List.append_nil]
theorem st_take {m : Nat} {is : List It} {i : Nat} {it : It} {f : Nat → Int} (h : is[i]? = some it) : Its.st m (is.take (i + 1)) f = mvF m (It.w it).length (Its.st m (is.take i) f) := by
  rw [List.take_add_one, h, st_app]
  rfl
theorem st_bd {R m : Nat} (hm : 0 < m) : ∀ (is : List It) {f : Nat → Int}, Bd R m f → Bd R m (Its.st m is f)
  | [], _, h => h
  | i :: is, _, h => st_bd hm is (bd_mv hm h)
mutual
theorem It.cols_len (m : Nat) : ∀ (i : It) (f : Nat → Int), (It.cols m i f).length = It.nl i
  | .line _ _, _ => by
    rw [It.cols, It.nl]
    rfl
  | .loop _ js, _ => by
    rw [It.cols, It.nl, Its.cols_len m js]
theorem Its.cols_len (m : Nat) : ∀ (is : List It) (f : Nat → Int), (Its.cols m is f).length = Its.nl is
  | [], _ => by
    rw [Its.cols, Its.nl]
    rfl
  | i :: is, _ => by
    rw [Its.cols, Its.nl, List.length_append, It.cols_len m i, Its.cols_len m is]
end
mutual
theorem It.cols_nm (m : Nat) (r : Int) : ∀ (i : It) (f : Nat → Int), (It.cols m i f).map (·.1) = (It.sp r i).map (·.1)
  | .line _ _, _ => by
    rw [It.cols, It.sp]
    rfl
  | .loop k js, _ => by
    rw [It.cols, It.sp, Its.cols_nm m (r * k) js]
theorem Its.cols_nm (m : Nat) (r : Int) : ∀ (is : List It) (f : Nat → Int), (Its.cols m is f).map (·.1) = (Its.sp r is).map (·.1)
  | [], _ => by
    rw [Its.cols, Its.sp]
    rfl
  | i :: is, _ => by
    rw [Its.cols, Its.sp, List.map_append, List.map_append, It.cols_nm m r i, Its.cols_nm m r is]
end
mutual
theorem It.w_bd {B : Nat} : ∀ (n : Nat) (i : It), Okp B n i → (It.w i).length ≤ It.nl i * 2 ^ ((n + 1) * B)
  | n, .line x t, h => by
    have h := okp_line.mp h
    rw [It.w, It.nl, List.length_replicate, Nat.one_mul]
    have : 2 ^ B ≤ 2 ^ ((n + 1) * B) := Nat.pow_le_pow_right (by decide) (Nat.le_mul_of_pos_left _ (Nat.succ_pos _))
    omega
  | 0, .loop _ _, h => h.elim
  | n + 1, .loop r js, h => by
    obtain ⟨h1, h2, h3⟩ : 0 ≤ r ∧ r < (2 ^ B : Nat) ∧ ∀ i ∈ js, Okp B n i := h
    rw [It.w, It.nl, flat_len]
    have a := Its.w_bd n js h3
    have b : r.toNat * (Its.w js).length ≤ 2 ^ B * (Its.nl js * 2 ^ ((n + 1) * B)) := Nat.mul_le_mul (by omega) a
    have e : 2 ^ B * (Its.nl js * 2 ^ ((n + 1) * B)) = Its.nl js * 2 ^ ((n + 1 + 1) * B) := by
      rw [← Nat.mul_assoc, Nat.mul_comm (2 ^ B), Nat.mul_assoc, ← Nat.pow_add, Nat.succ_mul (n + 1) B, Nat.add_comm B]
    omega
theorem Its.w_bd {B : Nat} : ∀ (n : Nat) (is : List It), (∀ i ∈ is, Okp B n i) → (Its.w is).length ≤ Its.nl is * 2 ^ ((n + 1) * B)
  | n, [], _ => by
    rw [Its.w]
    exact Nat.zero_le _
  | n, i :: is, h => by
    rw [Its.w, Its.nl, List.length_append, Nat.add_mul]
    exact Nat.add_le_add (It.w_bd n i (h i (List.mem_cons_self ..))) (Its.w_bd n is fun j hj => h j (List.mem_cons_of_mem _ hj))
end
theorem w_bits {B n : Nat} {is : List It} (h : ∀ i ∈ is, Okp B n i) (hn : Its.nl is ≤ 100000) : (Its.w is).length < 2 ^ (17 + (n + 1) * B) := by
  have a := Its.w_bd n is h
  rw [Nat.pow_add]
  have p : 0 < 2 ^ ((n + 1) * B) := Nat.pos_of_ne_zero (by simp)
  have b : Its.nl is * 2 ^ ((n + 1) * B) < 2 ^ 17 * 2 ^ ((n + 1) * B) := Nat.mul_lt_mul_of_pos_right (by omega) p
  omega
theorem _root_.L2.SqL.mono' {K : PySem.W.Frag} {H H' : Hp} {a : Addr} {xs : List V} (h : SqL K H a xs) (s : Same H H') : SqL K H' a xs := s.seq h
theorem okp_up1 {B : Nat} : ∀ {n : Nat} {i : It}, Okp B n i → Okp B (n + 1) i
  | n, .line x t, h => okp_line.mpr (okp_line.mp h)
  | 0, .loop r is, h => h.elim
  | n + 1, .loop r is, h => ⟨h.1, h.2.1, fun i hi => okp_up1 (h.2.2 i hi)⟩
theorem room_dn {B d M : Nat} (h : Room2 B M) (hd : d ≤ M) : Room2 B d := ⟨h.1, by
  have a := h.2
  have b : (d + 1) * B ≤ (M + 1) * B := Nat.mul_le_mul_right B (Nat.succ_le_succ hd)
  omega⟩
end Ev

/-! ## Items as drawn (family C) -/
namespace Ev
open PySem PySem.Spec PyProof.Rows L2
def poolC : List Str := ["a", "b", "a", "c", "idle", "line", "loop", "zzzzzzzz"]
/-- an item as drawn -/
def Wc (T R : Int) : Nat → It → Prop
  | _, .line x t => x ∈ poolC ∧ 1 ≤ t ∧ t ≤ T
  | 0, .loop _ _ => False
  | n + 1, .loop r is => 1 ≤ r ∧ r ≤ R ∧ 1 ≤ is.length ∧ is.length ≤ 2 ∧ ∀ i ∈ is, Wc T R n i
theorem wc_line {T R : Int} {n : Nat} {x : Str} {t : Int} : Wc T R n (.line x t) ↔ x ∈ poolC ∧ 1 ≤ t ∧ t ≤ T := by
  cases n <;> exact Iff.rfl
theorem ni_mem : ∀ {is : List It} {i : It}, i ∈ is → It.ni i ≤ Its.ni is
  | j :: is, i, h => by
    rw [Its.ni]
    rcases List.mem_cons.mp h with rfl | h
    · exact Nat.le_add_right _ _
    · exact Nat.le_trans (ni_mem h) (Nat.le_add_left _ _)
theorem It.ni_pos : ∀ i : It, 1 ≤ It.ni i
  | .line _ _ => by rw [It.ni]; exact Nat.le_refl _
  | .loop _ _ => by rw [It.ni]; exact Nat.le_add_right _ _
theorem ni_len : ∀ is : List It, is.length ≤ Its.ni is
  | [] => Nat.zero_le _
  | i :: is => by
    rw [Its.ni, List.length_cons]
    have := It.ni_pos i
    have := ni_len is
    omega
theorem ni_sum : ∀ is : List It, (is.map fun i => ((It.ni i : Nat) : Int)).sum = ((Its.ni is : Nat) : Int)
  | [] => by rw [Its.ni]; rfl
  | i :: is => by
    rw [Its.ni, List.map_cons, List.sum_cons, ni_sum is]
    omega
/-! ### items as drawn -/
theorem wc_ps {T R : Int} : ∀ (n : Nat) (i : It), Wc T R n i → It.ps i
  | n, .line x t, h => by
    rw [It.ps]
    exact (wc_line.mp h).2.1
  | 0, .loop r is, h => h.elim
  | n + 1, .loop r is, h => by
    obtain ⟨h1, h2, h3, h4, h5⟩ : 1 ≤ r ∧ r ≤ R ∧ 1 ≤ is.length ∧ is.length ≤ 2 ∧ ∀ i ∈ is, Wc T R n i := h
    rw [It.ps]
    exact ⟨h1, (fun e => by rw [e] at h3; exact absurd h3 (by decide)), ps_of fun i hi => wc_ps n i (h5 i hi)⟩
theorem wc_okp {T R : Int} {B : Nat} (hT : T < (2 ^ B : Nat)) (hR : R < (2 ^ B : Nat)) : ∀ (n : Nat) (i : It), Wc T R n i → Okp B n i
  | n, .line x t, h => by
    have h := wc_line.mp h
    exact okp_line.mpr ⟨by omega, by omega⟩
  | 0, .loop r is, h => h.elim
  | n + 1, .loop r is, h => by
    obtain ⟨h1, h2, h3, h4, h5⟩ : 1 ≤ r ∧ r ≤ R ∧ 1 ≤ is.length ∧ is.length ≤ 2 ∧ ∀ i ∈ is, Wc T R n i := h
    exact ⟨by omega, by omega, fun i hi => wc_okp hT hR n i (h5 i hi)⟩
theorem poolC_nm : poolC.all nmB = true := by decide +kernel
theorem wc_nm {T R : Int} (hT : T < (2 ^ 64 : Nat)) (hR : R < (2 ^ 64 : Nat)) : ∀ (n : Nat) (i : It), Wc T R n i → It.nm i
  | n, .line x t, h => by
    have h := wc_line.mp h
    rw [It.nm]
    exact ⟨List.all_eq_true.mp poolC_nm x h.1, by omega⟩
  | 0, .loop r is, h => h.elim
  | n + 1, .loop r is, h => by
    obtain ⟨h1, h2, h3, h4, h5⟩ : 1 ≤ r ∧ r ≤ R ∧ 1 ≤ is.length ∧ is.length ≤ 2 ∧ ∀ i ∈ is, Wc T R n i := h
    rw [It.nm]
    exact ⟨by omega, nm_of fun i hi => wc_nm hT hR n i (h5 i hi)⟩
theorem wc_up {T R T' R' : Int} (hT : T ≤ T') (hR : R ≤ R') : ∀ (d e : Nat) (i : It), d ≤ e → Wc T R d i → Wc T' R' e i
  | d, e, .line x t, _, h => by
    have h := wc_line.mp h
    exact wc_line.mpr ⟨h.1, h.2.1, by omega⟩
  | 0, _, .loop _ _, _, h => h.elim
  | d + 1, 0, .loop _ _, hl, _ => absurd hl (Nat.not_succ_le_zero d)
  | d + 1, e + 1, .loop r is, hl, h => by
    obtain ⟨h1, h2, h3, h4, h5⟩ : 1 ≤ r ∧ r ≤ R ∧ 1 ≤ is.length ∧ is.length ≤ 2 ∧ ∀ i ∈ is, Wc T R d i := h
    exact ⟨h1, by omega, h3, h4, fun i hi => wc_up hT hR d e i (by omega) (h5 i hi)⟩
def itC : Nat → Nat
  | 0 => 1
  | n + 1 => 1 + 2 * itC n
theorem wc_ni {T R : Int} : ∀ (n : Nat) (i : It), Wc T R n i → It.ni i ≤ itC n
  | n, .line x t, _ => by
    rw [It.ni]
    cases n
    · exact Nat.le_refl _
    · show 1 ≤ 1 + _
      omega
  | 0, .loop r is, h => h.elim
  | n + 1, .loop r is, h => by
    obtain ⟨h1, h2, h3, h4, h5⟩ : 1 ≤ r ∧ r ≤ R ∧ 1 ≤ is.length ∧ is.length ≤ 2 ∧ ∀ i ∈ is, Wc T R n i := h
    rw [It.ni]
    have z := ni_mul fun i hi => wc_ni n i (h5 i hi)
    have z2 : is.length * itC n ≤ 2 * itC n := Nat.mul_le_mul_right _ h4
    show 1 + Its.ni is ≤ 1 + 2 * itC n
    omega
theorem w_takeS {is : List It} {i : Nat} {it : It} (h : is[i]? = some it) : Its.w (is.take (i + 1)) = Its.w (is.take i) ++ It.w it := by
  obtain ⟨h1, h2⟩ := List.getElem?_eq_some_iff.mp h
  rw [List.take_succ_eq_append_getElem h1, h2, w_app, w_one]
theorem w_len_take (is : List It) (i : Nat) : (Its.w (is.take i)).length ≤ (Its.w is).length := by
  have e : Its.w is = Its.w (is.take i) ++ Its.w (is.drop i) := by
    rw [← w_app, List.take_append_drop]
  rw [e, List.length_append]
  exact Nat.le_add_right _ _
theorem w_mem_len {is : List It} {it : It} (h : it ∈ is) : (It.w it).length ≤ (Its.w is).length := by
  obtain ⟨i, hi⟩ := List.getElem?_of_mem h
  have a := w_len_take is (i + 1)
  rw [w_takeS hi, List.length_append] at a
  omega
theorem flat_str (n : Nat) (xs : List Str) : (List.replicate n (xs.map V.str)).flatten = ((List.replicate n xs).flatten).map V.str := by
  rw [List.map_flatten, List.map_replicate]
theorem flat_one (n : Nat) (x : V) : (List.replicate n [x]).flatten = List.replicate n x := by
  induction n with
  | zero => rfl
  | succ n ih => rw [List.replicate_succ, List.flatten_cons, ih]; rfl
theorem len_flat (n : Nat) (xs : List Str) : ((List.replicate n xs).flatten).length = xs.length * n := by
  induction n with
  | zero => rfl
  | succ n ih =>
    rw [List.replicate_succ, List.flatten_cons, List.length_append, ih, Nat.mul_succ]
    omega
theorem ni_takeC (is : List It) (k : Nat) : Its.ni (is.take k) + Its.ni (is.drop k) = Its.ni is := by
  have app : ∀ is js : List It, Its.ni (is ++ js) = Its.ni is + Its.ni js := fun is => by
    induction is with
    | nil => intro js; rw [List.nil_append, Its.ni, Nat.zero_add]
    | cons i is ih => intro js; rw [List.cons_append, Its.ni, Its.ni, ih js, Nat.add_assoc]
  rw [← app, List.take_append_drop]
theorem w_sumC : ∀ is : List It, (is.map fun i => (((It.w i).length : Nat) : Int)).sum = (((Its.w is).length : Nat) : Int)
  | [] => by rw [Its.w]; rfl
  | i :: is => by
    rw [Its.w, List.length_append, List.map_cons, List.sum_cons, w_sumC is]
    omega
end Ev

/-! ## k56: a bench that is led on; what is told of it -/
namespace Ev
open PySem PySem.Spec PyProof.Rows L2
def spBUg (K : PySem.W.Frag) (C : Addr) : Sp := fun vs H Q _ => ∃ (p e : Addr) (is js : List It) (gs : List (List It)), vs = [.ref p] ∧ BnAt K C H p e is (gs ++ [js]) ∧ Vp js ∧ ∀ H', Bu2 p e H H' → BnAt K C H' p e js gs → Q .non H'
theorem scBUg : FnScope ["self"] ["self"] (defScope (sB 9)) := ⟨rfl, rfl, rfl, by decide +kernel, rfl, by decide +kernel, by decide +kernel⟩
section
variable {P : Program} {w : World} {K : PySem.W.Frag} {mg : Str → Option Value} {base : Heap} {C : Addr}
theorem ok_bUg (T : BTx K mg C) (nb : NB mg) (D : MDef K C "undo" "Bench.undo" (sB 9) ["self"]) : MCal P w K mg base 1 C "undo" ["self"] (spBUg K C) := by
  refine D.ok scBUg (fun vs H Q E h => ?_) (fun f cdv A outer s H vs Q E hr h => ?_)
  · obtain ⟨p, e, is, js, gs, rfl, _⟩ := h
    rfl
  · obtain ⟨p, e, is, js, gs, rfl, hb, vj, q⟩ := h
    obtain ⟨dx, cur, h1, h2⟩ := hb.ob
    obtain ⟨us, h3, h4⟩ := hb.er
    have hl := daAll_len h4
    rw [List.length_map, List.length_append, List.length_singleton] at hl
    have npe := hb.ne
    rw [List.map_append, List.map_singleton] at h4
    obtain ⟨ys, v, rfl, hy, hya, hv⟩ := daAll_last h4
    refine ⟨_, pss_cons (ps_if (pt_cmpR op_eq (pe_callB call_len_seq (by rfl) nb.at PySem.boot_len (pa_cons (pe_fld (pv 0) rfl) pa_nil)) pe_int (nomark _)) pss_dead pss_nil)
      (pss_one (ps_fld (pv 0) (pe_bm0 PySem.F.plainAttrs_list PySem.F.slot_list_pop PySem.F.type_list_pop mt_pop (pe_fld (pv 0) rfl)) rfl)), ?_⟩
    refine ⟨_, rfl, p, C, dx, _, _, rfl, h1, T.cl, T.nE, flB_ear _ _, e, _, rfl, .inl (.inl (.inl h3)), rfl, _, rfl, ?_⟩
    rw [show decide (V.int (((ys ++ [v]).length : Nat) : Int) = V.int 0) = false from decide_eq_false fun z => by have := V.int.inj z; omega]
    refine iteF ⟨_, rfl, p, C, dx, _, _, rfl, h1, T.cl, T.nE, flB_ear _ _, .inl ⟨rfl, _, .inl (.inl h3)⟩, e, _, v, rfl, rfl, h3, ?_, ?_⟩
    · rw [List.length_append, List.length_singleton, Nat.add_sub_cancel, List.getElem?_append_right (Nat.le_refl _), Nat.sub_self]
      rfl
    · rw [List.dropLast_concat]
      have hp1 : upd H e (.lst ys) p = some (.ins C dx (flB cur e)) := by
        rw [upd_ne npe]
        exact h1
      refine ⟨_, rfl, p, C, dx, _, rfl, hp1, T.cl, T.nC, (by show 2 < 1000; decide), ?_⟩
      rw [flB_put]
      have k2 : Kj H (upd (upd H e (.lst ys)) p (.ins C dx (flB v e))) := (Kj.putL h3).trans (Kj.putI hp1)
      exact q _ (Bu2.put2.trans Bu2.put1) ⟨⟨dx, v, upd_same, hv.kj k2 (prog_tup _)⟩, ⟨ys, by rw [upd_ne npe.symm, upd_same], hya.kj k2 (hist_tup _)⟩, vj⟩
end
/-- the programs of this law -/
structure Pg56 (is : List It) : Prop where
  ne : 1 ≤ is.length
  le : is.length ≤ 4
  wm : ∀ i ∈ is, Wm 9 3 2 4 i
def niB6 : Nat → Nat → Nat
  | 0, _ => 1
  | n + 1, m => 1 + (1 + m / 2) * niB6 n (1 + m / 2)
theorem ni_mul6 {b : Nat} : ∀ {is : List It}, (∀ i ∈ is, It.ni i ≤ b) → Its.ni is ≤ is.length * b
  | [], _ => by
    rw [Its.ni]
    exact Nat.zero_le _
  | i :: is, h => by
    rw [Its.ni, List.length_cons, Nat.succ_mul]
    have a := h i (List.mem_cons_self ..)
    have c := ni_mul6 fun j hj => h j (List.mem_cons_of_mem _ hj)
    omega
theorem wm_ni6 {T R : Int} : ∀ (n m : Nat) (i : It), Wm T R n m i → It.ni i ≤ niB6 n m
  | n, m, .line x t, _ => by
    rw [It.ni]
    cases n
    · exact Nat.le_refl _
    · show 1 ≤ 1 + _
      omega
  | 0, _, .loop r is, h => h.elim
  | n + 1, m, .loop r is, h => by
    obtain ⟨h1, h2, h3, h4, h5⟩ : 1 ≤ r ∧ r ≤ R ∧ 1 ≤ is.length ∧ is.length ≤ 1 + m / 2 ∧ ∀ i ∈ is, Wm T R n (1 + m / 2) i := h
    rw [It.ni]
    have z := ni_mul6 fun i hi => wm_ni6 n _ i (h5 i hi)
    have z2 : is.length * niB6 n (1 + m / 2) ≤ (1 + m / 2) * niB6 n (1 + m / 2) := Nat.mul_le_mul_right _ h4
    show 1 + Its.ni is ≤ 1 + (1 + m / 2) * niB6 n (1 + m / 2)
    omega
theorem wm_TR6 {T R T' R' : Int} (hT : T ≤ T') (hR : R ≤ R') : ∀ (n m : Nat) (i : It), Wm T R n m i → Wm T' R' n m i
  | n, m, .line x t, h => by
    have h := wm_line.mp h
    exact wm_line.mpr ⟨h.1, h.2.1, by omega⟩
  | 0, _, .loop r is, h => h.elim
  | n + 1, m, .loop r is, h => by
    obtain ⟨h1, h2, h3, h4, h5⟩ : 1 ≤ r ∧ r ≤ R ∧ 1 ≤ is.length ∧ is.length ≤ 1 + m / 2 ∧ ∀ i ∈ is, Wm T R n (1 + m / 2) i := h
    exact ⟨h1, by omega, h3, h4, fun i hi => wm_TR6 hT hR n _ i (h5 i hi)⟩
theorem w_mul6 {b : Nat} : ∀ {is : List It}, (∀ i ∈ is, (It.w i).length ≤ b) → (Its.w is).length ≤ is.length * b
  | [], _ => by
    rw [Its.w]
    exact Nat.zero_le _
  | i :: is, h => by
    rw [Its.w, List.length_append, List.length_cons, Nat.succ_mul]
    have a := h i (List.mem_cons_self ..)
    have c := w_mul6 fun j hj => h j (List.mem_cons_of_mem _ hj)
    omega
def wB6 (T R : Nat) : Nat → Nat → Nat
  | 0, _ => T
  | n + 1, m => T + R * ((1 + m / 2) * wB6 T R n (1 + m / 2))
theorem wm_w6 {T R : Nat} : ∀ (n m : Nat) (i : It), Wm T R n m i → (It.w i).length ≤ wB6 T R n m
  | n, m, .line x t, h => by
    have h := wm_line.mp h
    rw [It.w, List.length_replicate]
    cases n
    · show t.toNat ≤ T
      omega
    · show t.toNat ≤ T + _
      omega
  | 0, _, .loop r is, h => h.elim
  | n + 1, m, .loop r is, h => by
    obtain ⟨h1, h2, h3, h4, h5⟩ : 1 ≤ r ∧ r ≤ R ∧ 1 ≤ is.length ∧ is.length ≤ 1 + m / 2 ∧ ∀ i ∈ is, Wm T R n (1 + m / 2) i := h
    rw [It.w, len_flat]
    have z := w_mul6 fun i hi => wm_w6 n _ i (h5 i hi)
    have z2 : is.length * wB6 T R n (1 + m / 2) ≤ (1 + m / 2) * wB6 T R n (1 + m / 2) := Nat.mul_le_mul_right _ h4
    have z3 : (Its.w is).length * r.toNat ≤ ((1 + m / 2) * wB6 T R n (1 + m / 2)) * R := Nat.mul_le_mul (by omega) (by omega)
    rw [Nat.mul_comm _ R] at z3
    show _ ≤ T + R * ((1 + m / 2) * wB6 T R n (1 + m / 2))
    omega
theorem Pg56.ni {is : List It} (h : Pg56 is) : Its.ni is ≤ 40 := by
  have z := ni_mul6 fun i hi => wm_ni6 2 4 i (h.wm i hi)
  have e : niB6 2 4 = 10 := by decide
  rw [e] at z
  have := Nat.mul_le_mul_right 10 h.le
  omega
theorem Pg56.w {is : List It} (h : Pg56 is) : (Its.w is).length < 10000 := by
  have z := w_mul6 fun i hi => wm_w6 (T := 9) (R := 3) 2 4 i (h.wm i hi)
  have e : wB6 9 3 2 4 ≤ 1000 := by decide
  have := Nat.mul_le_mul h.le e
  omega
theorem pool9_nd6 : pool9.all (fun x => nameD (.str x)) = true := by decide +kernel
theorem wm_vi6 {T R : Int} (hT : T ≤ 1000000000000) (hR : R ≤ 1000000000000000000) : ∀ (n m : Nat) (i : It), m ≤ 20 → Wm T R n m i → Vi n i
  | n, m, .line x t, _, h => by
    have h := wm_line.mp h
    exact vi_line.mpr ⟨List.all_eq_true.mp pool9_nd6 x h.1, h.2.1, by omega⟩
  | 0, _, .loop r is, _, h => h.elim
  | n + 1, m, .loop r is, hm, h => by
    obtain ⟨h1, h2, h3, h4, h5⟩ : 1 ≤ r ∧ r ≤ R ∧ 1 ≤ is.length ∧ is.length ≤ 1 + m / 2 ∧ ∀ i ∈ is, Wm T R n (1 + m / 2) i := h
    exact ⟨h1, by omega, h3, by omega, fun i hi => wm_vi6 hT hR n _ i (by omega) (h5 i hi)⟩
theorem vi_up6 : ∀ (n k : Nat) (i : It), n ≤ k → Vi n i → Vi k i
  | n, k, .line x t, _, h => vi_line.mpr (vi_line.mp h)
  | 0, _, .loop r is, _, h => h.elim
  | n + 1, 0, .loop r is, hk, _ => absurd hk (Nat.not_succ_le_zero n)
  | n + 1, k + 1, .loop r is, hk, h => by
    obtain ⟨h1, h2, h3, h4, h5⟩ : 1 ≤ r ∧ r ≤ 1000000000000000000 ∧ 1 ≤ is.length ∧ is.length ≤ 20 ∧ ∀ i ∈ is, Vi n i := h
    exact ⟨h1, h2, h3, h4, fun i hi => vi_up6 n k i (by omega) (h5 i hi)⟩
theorem Pg56.vp {is : List It} (h : Pg56 is) : Vp is := ⟨h.ne, by have := h.le; omega, fun i hi => vi_up6 2 5 i (by decide) (wm_vi6 (by decide) (by decide) 2 4 i (by decide) (h.wm i hi)), by have := h.ni; omega⟩
theorem Pg56.rep {is : List It} {a : Nat} {x : Str} {t : Int} (h : Pg56 is) (ha : a < is.length) (hx : x ∈ pool9) (h1 : 1 ≤ t) (h2 : t ≤ 9) : Pg56 (putI is a (a + 1) (.line x t)) := by
  have hl : (putI is a (a + 1) (It.line x t)).length = is.length := by
    unfold putI
    rw [List.length_append, List.length_append, List.length_take, List.length_drop, List.length_singleton]
    omega
  refine ⟨by rw [hl]; exact h.ne, by rw [hl]; exact h.le, fun i hi => ?_⟩
  unfold putI at hi
  rcases List.mem_append.mp hi with hi | hi
  · rcases List.mem_append.mp hi with hi | hi
    · exact h.wm i (List.mem_of_mem_take hi)
    · rw [List.mem_singleton.mp hi]
      exact wm_line.mpr ⟨hx, h1, h2⟩
  · exact h.wm i (List.mem_of_mem_drop hi)
theorem Pg56.er {is : List It} {a : Nat} (h : Pg56 is) (ha : a < is.length) (h2 : 2 ≤ is.length) : Pg56 (is.eraseIdx a) := by
  have hl := List.length_eraseIdx_of_lt ha
  exact ⟨by omega, by have := h.le; omega, fun i hi => h.wm i (List.mem_of_mem_eraseIdx hi)⟩
theorem wm_names6 {T R : Int} : ∀ (n m : Nat) (i : It), Wm T R n m i → ∀ x ∈ It.w i, x ∈ pool9
  | n, m, .line z t, h, x, hx => by
    rw [It.w] at hx
    rw [List.eq_of_mem_replicate hx]
    exact (wm_line.mp h).1
  | 0, _, .loop r is, h, _, _ => h.elim
  | n + 1, m, .loop r is, h, x, hx => by
    obtain ⟨h1, h2, h3, h4, h5⟩ : 1 ≤ r ∧ r ≤ R ∧ 1 ≤ is.length ∧ is.length ≤ 1 + m / 2 ∧ ∀ i ∈ is, Wm T R n (1 + m / 2) i := h
    rw [It.w] at hx
    obtain ⟨l, hl, hxl⟩ := List.mem_flatten.mp hx
    rw [List.eq_of_mem_replicate hl] at hxl
    have go : ∀ js : List It, (∀ i ∈ js, i ∈ is) → x ∈ Its.w js → x ∈ pool9 := fun js => by
      induction js with
      | nil =>
        intro _ hx
        rw [Its.w] at hx
        cases hx
      | cons j js ih =>
        intro hj hx
        rw [Its.w] at hx
        rcases List.mem_append.mp hx with h | h
        · exact wm_names6 n _ j (h5 j (hj j (List.mem_cons_self ..))) x h
        · exact ih (fun i hi => hj i (List.mem_cons_of_mem _ hi)) h
    exact go is (fun i hi => hi) hxl
theorem pool9_nm6 : pool9.all nmB = true := by decide +kernel
theorem Pg56.nm {is : List It} (h : Pg56 is) : ∀ x ∈ linesI is, nmB x = true := fun x hx => by
  have hx := (lines_w h.vp.ps).mp hx
  have go : ∀ js : List It, (∀ i ∈ js, i ∈ is) → x ∈ Its.w js → x ∈ pool9 := fun js => by
    induction js with
    | nil =>
      intro _ hx
      rw [Its.w] at hx
      cases hx
    | cons j js ih =>
      intro hj hx
      rw [Its.w] at hx
      rcases List.mem_append.mp hx with h' | h'
      · exact wm_names6 2 4 j (h.wm j (hj j (List.mem_cons_self ..))) x h'
      · exact ih (fun i hi => hj i (List.mem_cons_of_mem _ hi)) h'
  exact List.all_eq_true.mp pool9_nm6 x (go is (fun _ h => h) hx)
/-- what is told of a bench -/
def ftD (is : List It) (n : Nat) : PyData := .tuple [pgD is, .int ((Its.w is).length : Nat), totD is fun n => ((Its.w is).count n : Nat), .int (n : Nat)]
theorem tot_szl6 {f : Str → Int} : ∀ {ns : List Str}, (∀ x ∈ ns, nmB x = true) → (∀ x ∈ ns, (f x).natAbs < 2 ^ 64) → SzL 1 (75 * ns.length) (ns.map fun n => pairD (n, f n))
  | [], _, _ => szl_nil
  | n :: ns, h, k => by
    have h1 := h n (List.mem_cons_self ..)
    have k1 := k n (List.mem_cons_self ..)
    have t := tot_szl6 (f := f) (ns := ns) (fun x hx => h x (List.mem_cons_of_mem _ hx)) fun x hx => k x (List.mem_cons_of_mem _ hx)
    have p : Sz 1 74 (pairD (n, f n)) := by
      have z := (szl_cons (e := 0) (sz_s8 (e := 0) (w := 8) h1 (by decide)) (szl_cons (e := 0) (sz_i64 (e := 0) (w := 64) k1 (by decide)) (szl_nil (w := 0)))).tup
      exact z
    have z := szl_cons p t
    rw [List.map_cons, List.length_cons]
    refine z.up (Nat.le_refl _) ?_
    omega
theorem Pg56.ft {is : List It} {n : Nat} (h : Pg56 is) (hn : n ≤ 1000) : (ftD is n).showable = true ∧ (ftD is n).depth ≤ 64 ∧ (ftD is n).shown.length ≤ sizeLine := by
  have hl := lines_len (is := is)
  have h1 := Its.nl_ni is
  have h2 := h.ni
  have hw := h.w
  have p1 : Sz 12 9900 (pgD is) := h.vp.sz
  have p3 : Sz 12 3000 (totD is fun n => ((Its.w is).count n : Nat)) := (tot_szl6 h.nm fun x _ => by
    have := List.count_le_length (a := x) (l := Its.w is)
    omega).tup.up (by decide) (by omega)
  exact (szl_cons p1 (szl_cons (sz_nat (e := 12) (w := 64) (by omega) (by decide)) (szl_cons p3 (szl_cons (sz_nat (e := 12) (w := 64) (by omega) (by decide)) (szl_nil (w := 0)))))).tup.fits (by decide) (by decide)
def spFc (K : PySem.W.Frag) (C : Addr) : Sp := fun vs H Q _ => ∃ (b e : Addr) (is : List It) (hs : List (List It)), vs = [.ref b] ∧ BnAt K C H b e is hs ∧ Pg56 is ∧ hs.length ≤ 1000 ∧ ∀ H', Same H H' → Q (.str (ftD is hs.length).shown) H'
/-- all but the stream and a bench -/
def Bu36 (p b e : Addr) (H H' : Hp) : Prop := ∀ x o, x ≠ p → x ≠ b → x ≠ e → H x = some o → H' x = some o
def spLd (K : PySem.W.Frag) (C : Addr) : Sp := fun vs H Q _ => ∃ (p b e : Addr) (is : List It) (hs : List (List It)) (n m : Nat), vs = [.ref p, .ref b, .int (m : Nat)] ∧ PotA p n H ∧ n + 10 * m ≤ 1000000 ∧ BnAt K C H b e is hs ∧ Pg56 is ∧ (∀ j ∈ hs, Pg56 j) ∧ hs.length + m ≤ 900 ∧
  ∀ H' js gs, Bu36 p b e H H' → PotA p (n + 10 * m) H' → BnAt K C H' b e js gs → Pg56 js → (∀ j ∈ gs, Pg56 j) → gs.length ≤ hs.length + m → Q .non H'
theorem scLd : FnScope ["_law_stream_here", "_law_bench", "_law_many", "_law_turn", "_law_items_here"] ["_law_stream_here", "_law_bench", "_law_many"] (defScope (topS 38)) := ⟨rfl, rfl, rfl, by decide +kernel, rfl, by decide +kernel, by decide +kernel⟩
theorem scFc : FnScope ["_law_bench"] ["_law_bench"] (defScope (topS 39)) := ⟨rfl, rfl, rfl, by decide +kernel, rfl, by decide +kernel, by decide +kernel⟩
theorem Bu36.of {p b e : Addr} {H H' : Hp} (s : Same H H') : Bu36 p b e H H' := fun x o _ _ _ h => s x o h
theorem Bu36.bu {p b e : Addr} {H H' : Hp} (s : Bu p H H') : Bu36 p b e H H' := fun x o n _ _ h => s x o n h
theorem Bu36.bu2 {p b e : Addr} {H H' : Hp} (s : Bu2 b e H H') : Bu36 p b e H H' := fun x o _ n m h => s x o n m h
theorem Bu36.trans {p b e : Addr} {H H1 H2 : Hp} (a : Bu36 p b e H H1) (c : Bu36 p b e H1 H2) : Bu36 p b e H H2 := fun x o n1 n2 n3 h => c x o n1 n2 n3 (a x o n1 n2 n3 h)
theorem pg_ne6 {hs : List (List It)} (x y z : Int) : hs.map pgD ≠ [.int x, .int y, .int z] := fun h => by
  cases hs with
  | nil => cases h
  | cons a l =>
    rw [List.map_cons] at h
    injection h with h _
    cases h
section
variable {K : PySem.W.Frag} {C p b e : Addr} {is : List It} {hs : List (List It)} {n m : Nat} {H H' : Hp}
theorem BnAt.drawn6 (h : BnAt K C H b e is hs) (hp : PotA p n H) (s : Bu p H H') : BnAt K C H' b e is hs := by
  obtain ⟨n1, n2⟩ := h.potNe hp pg_ne6
  exact h.kj (.kt (hp.kt s)) fun o => ⟨s _ _ n1.symm, s _ _ n2.symm⟩
theorem PotA.bu26 (hp : PotA p n H) (h : BnAt K C H b e is hs) (s : Bu2 b e H H') : PotA p n H' := by
  obtain ⟨n1, n2⟩ := h.potNe hp pg_ne6
  obtain ⟨xs, e1, r⟩ := hp
  exact ⟨xs, s _ _ n1 n2 e1, r⟩
end
theorem seqT_kt6 {K : PySem.W.Frag} {H H' : Hp} {a : Addr} {xs : List V} (k : Kt H H') (h : SqT K H a xs) : SqT K H' a xs := by
  rcases h with (e | ⟨o, e⟩) | e
  · exact .inl (.inl (k _ _ e fun _ z => by cases z))
  · exact .inl (.inr ⟨o, k _ _ e fun _ z => by cases z⟩)
  · exact .inr e
/-- a draw that must be 0, and something more -/
theorem s_dr6 {p : Addr} {n : Nat} {q : Int} {T2 : TT} {t u : TS} {D : Ends} {σ : L2.St} {H : Hp} (i0 : σ[0]? = some (some (.ref p))) (hp : PotA p n H) (hn : n < 10000000) (hq : 0 < q) (hl : q.natAbs.log2 < 9000)
    (k : ∀ H', Bu p H H' → PotA p (n + 1) H' → tIfS T2 t u D σ H' ∧ u D σ H') :
    tIfS (tAnd (tTest (tOp rEq (tCall spDraw [] E0 (tCons (tVar 0) (tCons (tC (.int q)) tNil))) (tC (.int 0)))) T2) t u D σ H := by
  refine ⟨_, i0, p, q, n, rfl, hp, hn, hq, hl, fun H1 d b1 hp1 d0 d1 => ⟨rfl, _, rfl, ?_⟩⟩
  by_cases z : d = 0
  · rw [decide_eq_true (show V.int d = V.int 0 by rw [z])]
    exact iteT (k H1 b1 hp1).1
  · rw [decide_eq_false (fun h => z (V.int.inj h))]
    exact iteF (iteF (k H1 b1 hp1).2)
section
variable {P : Program} {w : World} {K : PySem.W.Frag} {mg : Str → Option Value} {base : Heap} {C : Addr}
theorem ok_fc (T : BTx K mg C) (hm : ∃ mm, base.Ns sysModules mm) (D : Def K mg "_law_facts" (topS 39) ["_law_bench"]) (M_program : MCal P w K mg base 1 C "program" ["self"] (spBP K C)) (M_changes : MCal P w K mg base 1 C "changes" ["self"] (spBN K C)) (M_length : MCal P w K mg base 8 C "length" ["self"] (spBL K C)) (M_totals : MCal P w K mg base 10 C "totals" ["self"] (spBT K C)) (nb : NB mg) :
    Cal P w K mg base 11 "_law_facts" ["_law_bench"] (spFc K C) := by
  refine D.ok scFc (fun vs H Q E h => ?_) (fun f cdv A outer s H vs Q E hr gd h => ?_)
  · obtain ⟨b, e, is, hs, rfl, _⟩ := h
    rfl
  · obtain ⟨b, e, is, hs, rfl, hb, hg, hl, q⟩ := h
    refine ⟨_, (pss_one (ps_ret (pe_callB (call_reprA hm gd (hu70 hr)) (by rfl) nb.at (by decide +kernel) (pa_cons (pe_tup (pa_cons (pmeth0 M_program T.cl (hr.mono (by omega)) (pv 0)) (pa_cons (pmeth0 M_length T.cl (hr.mono (by omega)) (pv 0)) (pa_cons (pmeth0 M_totals T.cl (hr.mono (by omega)) (pv 0)) (pa_cons (pmeth0 M_changes T.cl (hr.mono (by omega)) (pv 0)) pa_nil))))) pa_nil)))), ?_⟩
    obtain ⟨dx, cur, h1, h2⟩ := hb.ob
    obtain ⟨f1, f2, f3⟩ := hg.ft hl
    refine ⟨_, rfl, b, dx, _, rfl, h1, rfl, b, e, is, hs, rfl, hb, fun u hu => ⟨_, rfl, b, dx, _, rfl, h1, rfl, b, e, is, hs, rfl, hb, fun H1 s1 => ⟨_, rfl, b, dx, _, rfl, s1 _ _ h1, rfl, b, e, is, hs, rfl, hb.same s1, fun H2 v s2 hv => ⟨_, rfl, b, dx, _, rfl, s2 _ _ (s1 _ _ h1), rfl, b, e, is, hs, rfl, hb.same (s1.trans s2), (by show 4 ≤ sizeLine; decide), fun t nt => ?_⟩⟩⟩⟩
    have st := same_put (o := .tup [u, .int ((Its.w is).length : Nat), v, .int (hs.length : Nat)]) nt
    refine ⟨_, ftD is hs.length, rfl, .tup (xs := [u, .int ((Its.w is).length : Nat), v, .int (hs.length : Nat)]) (.inl (.inl upd_same)) ?_, f1, f2, f3, q _ ((s1.trans s2).trans st)⟩
    exact .cons (hu.mono ((s1.trans s2).trans st)) (.cons (.int _) (.cons (hv.mono st) (.cons (.int _) .nil)))
theorem ok_ld (T : BTx K mg C) (D : Def K mg "_law_led" (topS 38) ["_law_stream_here", "_law_bench", "_law_many"]) (C__law_draw : Cal P w K mg base 1 "_law_draw" ["_law_stream_here", "_law_many"] spDraw) (C__law_line : Cal P w K mg base 3 "_law_line" ["_law_stream_here", "_law_most"] (spLine K))
    (M_program : MCal P w K mg base 1 C "program" ["self"] (spBP K C)) (M_changes : MCal P w K mg base 1 C "changes" ["self"] (spBN K C)) (M_undo : MCal P w K mg base 1 C "undo" ["self"] (spBUg K C)) (M_replace : MCal P w K mg base 17 C "replace" ["self", "index", "item"] (spBRe K C)) (M_delete : MCal P w K mg base 4 C "delete" ["self", "index"] (spBD K C)) (nb : NB mg) :
    Cal P w K mg base 18 "_law_led" ["_law_stream_here", "_law_bench", "_law_many"] (spLd K C) := by
  refine D.ok scLd (fun vs H Q E h => ?_) (fun f cdv A outer s H vs Q E hr gd h => ?_)
  · obtain ⟨p, b, e, is, hs, n, m, rfl, _⟩ := h
    rfl
  · obtain ⟨p, b, e, is, hs, n, m, rfl, hp, hn, hb, hg, hgs, hl, q⟩ := h
    refine ⟨_, (pss_one (ps_for PassesOwn.never rfl (pi_range1 rfl nb.at (pa_cons (pv 2) pa_nil)) (pg_name (i := 3) scLd.nd rfl (Or.inl rfl))
        (pss_cons (ps_set (i := 4) scLd.nd rfl (.inl rfl) (pmeth0 M_program T.cl (hr.mono (by omega)) (pv 1)))
        (pss_one (ps_if (PW.pt (pw_and (pt_cmpR op_eq (pcall C__law_draw (hr.mono (by omega)) gd (by rfl) (pa_cons (pv 0) (pa_cons pe_int pa_nil))) pe_int (nomark _)) (pw_and1 (pt_cmpR op_gt (pmeth0 M_changes T.cl (hr.mono (by omega)) (pv 1)) pe_int (nomark _)))))
          (pss_one (ps_expr (pmeth0 M_undo T.cl (hr.mono (by omega)) (pv 1))))
          (pss_one (ps_if (PW.pt (pw_and (pt_cmpR op_eq (pcall C__law_draw (hr.mono (by omega)) gd (by rfl) (pa_cons (pv 0) (pa_cons pe_int pa_nil))) pe_int (nomark _)) (pw_and1 (pt_cmpR op_gt (pe_callB call_len_seq (by rfl) nb.at PySem.boot_len (pa_cons (pv 4) pa_nil)) pe_int (nomark _)))))
            (pss_one (ps_expr (pmeth M_delete T.cl (hr.mono (by omega)) (pv 1) (pa_cons (pcall C__law_draw (hr.mono (by omega)) gd (by rfl) (pa_cons (pv 0) (pa_cons (pe_callB call_len_seq (by rfl) nb.at PySem.boot_len (pa_cons (pv 4) pa_nil)) pa_nil))) pa_nil))))
            (pss_one (ps_expr (pmeth M_replace T.cl (hr.mono (by omega)) (pv 1) (pa_cons (pcall C__law_draw (hr.mono (by omega)) gd (by rfl) (pa_cons (pv 0) (pa_cons (pe_callB call_len_seq (by rfl) nb.at PySem.boot_len (pa_cons (pv 4) pa_nil)) pa_nil))) (pa_cons (pcall C__law_line (hr.mono (by omega)) gd (by rfl) (pa_cons (pv 0) (pa_cons pe_int pa_nil))) pa_nil)))))))))))), ?_⟩
    have sl := sizeLine_eq
    refine ⟨_, rfl, (m : Nat), rfl, by omega, by omega, ?_⟩
    rw [Int.toNat_natCast]
    refine for_range (lo := 0) (n := m) (fun j σ' H' => ∃ (y3 y4 : Option V) (js : List It) (gs : List (List It)), σ' = [some (.ref p), some (.ref b), some (.int (m : Nat)), y3, y4] ∧ Bu36 p b e H H' ∧ PotA p (n + 10 * j) H' ∧ BnAt K C H' b e js gs ∧ Pg56 js ∧ (∀ j ∈ gs, Pg56 j) ∧ gs.length ≤ hs.length + j)
      ⟨_, _, is, hs, rfl, Bu36.of Same.rfl', hp, hb, hg, hgs, Nat.le_refl _⟩ ?_ ?_
    · rintro j σ' H1 hj ⟨y3, y4, js, gs, rfl, b1, hp1, hb1, hg1, hgs1, hl1⟩
      obtain ⟨dx1, cur1, ho1, _⟩ := hb1.ob
      have fin : ∀ (y3 y4 : Option V) H2 is2 hs2 k, Bu36 p b e H1 H2 → PotA p k H2 → k ≤ n + 10 * (j + 1) → BnAt K C H2 b e is2 hs2 → Pg56 is2 → (∀ j ∈ hs2, Pg56 j) → hs2.length ≤ gs.length + 1 →
          ∃ (z3 z4 : Option V) (js : List It) (gs : List (List It)), [some (.ref p), some (.ref b), some (.int (m : Nat)), y3, y4] = [some (.ref p), some (.ref b), some (.int (m : Nat)), z3, z4] ∧ Bu36 p b e H H2 ∧ PotA p (n + 10 * (j + 1)) H2 ∧ BnAt K C H2 b e js gs ∧ Pg56 js ∧ (∀ j ∈ gs, Pg56 j) ∧ gs.length ≤ hs.length + (j + 1) := fun y3 y4 H2 is2 hs2 k c1 c2 c3 c4 c5 c6 c7 => ⟨y3, y4, is2, hs2, rfl, b1.trans c1, c2.up c3, c4, c5, c6, by omega⟩
      dsimp only [gName]
      refine ⟨_, rfl, b, dx1, _, rfl, ho1, rfl, b, e, js, gs, rfl, hb1, fun u hu => ?_⟩
      obtain ⟨a, xs, rfl, hs0, ha⟩ := da_prog hu
      have hxl := daAll_len ha
      rw [List.length_map] at hxl
      refine s_dr6 rfl hp1 (by omega) (by decide) (by decide +kernel) fun H2 b2 hp2 => ?_
      have hb2 := hb1.drawn6 hp1 b2
      obtain ⟨dx2, cur2, ho2, _⟩ := hb2.ob
      have ks2 : SqT K H2 a xs := Ev.seqT_kt6 (hp1.kt b2) hs0
      have c2 : Bu36 p b e H1 H2 := .bu b2
      have two : ∀ {X Y : Prop}, Y → (Y → X) → X ∧ Y := fun y f => ⟨f y, y⟩
      refine two ?_ fun els => ?_
      · refine s_dr6 rfl hp2 (by omega) (by decide) (by decide +kernel) fun H3 b3 hp3 => ?_
        have hb3 := hb2.drawn6 hp2 b3
        obtain ⟨dx3, cur3, ho3, _⟩ := hb3.ob
        have ks3 : SqT K H3 a xs := Ev.seqT_kt6 (hp2.kt b3) ks2
        have c3 := c2.trans (Bu36.bu (b := b) (e := e) b3)
        have hle := hg1.le
        have hne := hg1.ne
        have hlg : (((xs.length : Nat) : Int)).natAbs.log2 < 9000 := log_i (k := 20) (by omega) (by omega) (by decide) (by decide)
        refine two ?_ fun els => ?_
        · -- a line in place of one
          refine ⟨_, rfl, b, dx3, _, rfl, ho3, rfl, _, rfl, _, rfl, a, xs, rfl, .inr ks3, p, _, _, rfl, hp3, by omega, by omega, hlg, fun H4 d b4 hp4 d0 d1 => ⟨_, rfl, p, 9, _, rfl, hp4, by omega, by decide, by decide +kernel, fun H5 ul x t b5 hp5 hdl hx t1 t2 => ?_⟩⟩
          obtain ⟨k, rfl⟩ := Int.eq_ofNat_of_zero_le d0
          have hk : k < js.length := by omega
          have hb5 := (hb3.drawn6 hp3 b4).drawn6 hp4 b5
          have hr := hg1.rep hk hx t1 t2
          refine ⟨b, e, js, gs, k, ul, .line x t, rfl, hb5, by omega, hk, hdl, hr.vp, fun H6 bu6 hb6 => ?_⟩
          exact fin _ _ H6 _ _ _ (((c3.trans (.bu b4)).trans (.bu b5)).trans (.bu2 bu6)) (hp5.bu26 hb5 bu6) (by omega) hb6 hr (fun z hz => (List.mem_append.mp hz).elim (hgs1 z) fun h => List.mem_singleton.mp h ▸ hg1) (by rw [List.length_append, List.length_singleton]; omega)
        · refine ⟨_, rfl, a, xs, rfl, .inr ks3, _, _, rfl, rfl, _, rfl, ite2 (fun e1 => ?_) (fun _ => els)⟩
          have h1 : (1 : Int) < ((xs.length : Nat) : Int) := of_decide_eq_true e1
          refine ⟨_, rfl, b, dx3, _, rfl, ho3, rfl, _, rfl, _, rfl, a, xs, rfl, .inr ks3, p, _, _, rfl, hp3, by omega, by omega, hlg, fun H4 d b4 hp4 d0 d1 => ?_⟩
          obtain ⟨k, rfl⟩ := Int.eq_ofNat_of_zero_le d0
          have hk : k < js.length := by omega
          have hb4 := hb3.drawn6 hp3 b4
          refine ⟨b, e, js, gs, k, _, rfl, hb4, by omega, List.getElem?_eq_getElem hk, by omega, fun H5 u5 bu5 hb5 _ => ?_⟩
          exact fin _ _ H5 _ _ _ ((c3.trans (.bu b4)).trans (.bu2 bu5)) (hp4.bu26 hb4 bu5) (by omega) hb5 (hg1.er hk (by omega)) (fun z hz => (List.mem_append.mp hz).elim (hgs1 z) fun h => List.mem_singleton.mp h ▸ hg1) (by rw [List.length_append, List.length_singleton]; omega)
      · refine ⟨_, rfl, b, dx2, _, rfl, ho2, rfl, b, e, js, gs, rfl, hb2, _, _, rfl, rfl, _, rfl, ite2 (fun e1 => ?_) (fun _ => els)⟩
        have h1 : (0 : Int) < ((gs.length : Nat) : Int) := of_decide_eq_true e1
        rcases List.eq_nil_or_concat gs with rfl | ⟨gs', j', rfl⟩
        · exact absurd h1 (by decide)
        rw [List.concat_eq_append] at hb2 hgs1 hl1
        refine ⟨_, rfl, b, dx2, _, rfl, ho2, rfl, b, e, js, j', gs', rfl, hb2, (hgs1 j' (by simp)).vp, fun H3 bu3 hb3 => ?_⟩
        rw [List.length_append, List.length_singleton] at hl1
        exact ⟨_, _, j', gs', rfl, b1.trans (c2.trans (.bu2 bu3)), (hp2.bu26 hb2 bu3).up (by omega), hb3, hgs1 j' (by simp), fun z hz => hgs1 z (List.mem_append_left _ hz), by omega⟩
    · rintro σ' H1 ⟨y3, y4, js, gs, rfl, b1, hp1, hb1, hg1, hgs1, hl1⟩
      exact q H1 js gs b1 hp1 hb1 hg1 hgs1 hl1
end
end Ev

/-! ## k56: benches compared -/
namespace Ev
open PySem PySem.Spec PyProof.Rows L2
theorem ll6 : (Str.ofString "line" == Str.ofString "loop") = false := by decide +kernel
theorem ll7 : (Str.ofString "loop" == Str.ofString "line") = false := by decide +kernel
mutual
theorem It.eqv_inj : ∀ i j : It, PyData.eqv (It.d i) (It.d j) = true → i = j
  | .line x t, .line y u, h => by
    simp only [It.d, PyData.eqv, PyData.eqvAll, Bool.and_eq_true, beq_iff_eq] at h
    obtain ⟨_, h1, h2, _⟩ := h
    rw [h1, h2]
  | .line x t, .loop r is, h => by
    simp only [It.d, PyData.eqv, PyData.eqvAll, Bool.and_eq_true, ll6] at h
    exact absurd h.1 (by decide)
  | .loop r is, .line x t, h => by
    simp only [It.d, PyData.eqv, PyData.eqvAll, Bool.and_eq_true, ll7] at h
    exact absurd h.1 (by decide)
  | .loop r is, .loop u js, h => by
    simp only [It.d, PyData.eqv, PyData.eqvAll, Bool.and_eq_true, beq_iff_eq] at h
    obtain ⟨_, h1, h2, _⟩ := h
    rw [h1, Its.eqv_inj is js h2]
theorem Its.eqv_inj : ∀ is js : List It, PyData.eqvAll (Its.d is) (Its.d js) = true → is = js
  | [], [], _ => rfl
  | [], j :: js, h => by
    simp only [Its.d, PyData.eqvAll] at h
    exact absurd h (by decide)
  | i :: is, [], h => by
    simp only [Its.d, PyData.eqvAll] at h
    exact absurd h (by decide)
  | i :: is, j :: js, h => by
    simp only [Its.d, PyData.eqvAll, Bool.and_eq_true] at h
    rw [It.eqv_inj i j h.1, Its.eqv_inj is js h.2]
end
theorem wrap_ne6 (is : List It) : PyData.eqv (pgD [.loop 1 is]) (pgD is) = false := by
  refine Bool.eq_false_iff.mpr fun h => ?_
  unfold pgD at h
  simp only [PyData.eqv] at h
  rw [← Its.d_map, ← Its.d_map] at h
  have e := congrArg Its.ni (Its.eqv_inj _ _ h)
  rw [Its.ni, Its.ni, It.ni] at e
  omega
theorem eqv_self6 {is : List It} (h : Vp is) : PyData.eqv (pgD is) (pgD is) = true := PySem.SeqAt.eqv_refl _ (SeqAt.canLay_of_shaped h.shaped)
section
variable {K : PySem.W.Frag} {C : Addr} {H0 : Hp} {σ : L2.St} {b e b2 e2 : Addr} {is js : List It} {hs gs : List (List It)} {i j : Nat}
theorem t_eqO6 (hi : σ[i]? = some (some (.ref b))) (hj : σ[j]? = some (some (.ref b2))) (hb : BnAt K C H0 b e is hs) (hb2 : BnAt K C H0 b2 e2 js gs) :
    GivesT H0 (tTest (tOp (rEqO K C (spBE K C)) (tVar i) (tVar j))) (PyData.eqv (pgD is) (pgD js)) σ := fun H Q s q => by
  have g1 := hb.same s
  have g2 := hb2.same s
  obtain ⟨dx, cur, h1, _⟩ := g1.ob
  obtain ⟨dy, cur2, h2, _⟩ := g2.ob
  exact ⟨_, hi, _, hj, b, dx, _, rfl, h1, .inr ⟨b2, dy, _, rfl, h2⟩, b, e, is, hs, _, rfl, g1, .inr ⟨b2, e2, js, gs, rfl, g2, fun H' s' => ⟨⟨_, rfl⟩, _, rfl, q H' s'⟩⟩⟩
theorem t_neO6 (hi : σ[i]? = some (some (.ref b))) (hj : σ[j]? = some (some (.ref b2))) (hb : BnAt K C H0 b e is hs) (hb2 : BnAt K C H0 b2 e2 js gs) :
    GivesT H0 (tTest (tOp (rNeO C (spBE K C)) (tVar i) (tVar j))) (!PyData.eqv (pgD is) (pgD js)) σ := fun H Q s q => by
  have g1 := hb.same s
  have g2 := hb2.same s
  obtain ⟨dx, cur, h1, _⟩ := g1.ob
  obtain ⟨dy, cur2, h2, _⟩ := g2.ob
  exact ⟨_, hi, _, hj, b, dx, _, b2, dy, _, rfl, h1, rfl, h2, b, e, is, hs, _, rfl, g1, .inr ⟨b2, e2, js, gs, rfl, g2, fun H' s' => ⟨_, rfl, _, rfl, q H' s'⟩⟩⟩
theorem t_fact6 {z : Str} (hi : σ[i]? = some (some (.ref b))) (hj : σ[j]? = some (some (.str z))) (hb : BnAt K C H0 b e is hs) (hg : Pg56 is) (hl : hs.length ≤ 1000) (hz : z = (ftD is hs.length).shown) :
    GivesT H0 (tTest (tOp rNe (tCall (spFc K C) [] E0 (tCons (tVar i) tNil)) (tVar j))) false σ := fun H Q s q => by
  refine ⟨_, hi, b, e, is, hs, rfl, hb.same s, hg, hl, fun H' s' => ⟨_, hj, rfl, _, rfl, ?_⟩⟩
  rw [hz, decide_eq_true rfl]
  exact q H' s'
end
section
variable {K : PySem.W.Frag} {C p b e x y : Addr} {is js : List It} {hs gs : List (List It)} {n m : Nat} {H H' H1 : Hp}
theorem kj6 (g : BnAt K C H x y js gs) (hp : PotA p n H) (s : Bu36 p x y H H') : Kj H H' := by
  obtain ⟨dx, cur, h1, _⟩ := g.ob
  obtain ⟨us, h2, _⟩ := g.er
  obtain ⟨xs, h3, _⟩ := hp
  intro z o ho n1 n2
  refine s z o (fun w => ?_) (fun w => ?_) (fun w => ?_) ho
  · rw [w, h3] at ho
    cases ho
    exact n1 _ rfl
  · rw [w, h1] at ho
    cases ho
    exact n2 _ _ _ rfl
  · rw [w, h2] at ho
    cases ho
    exact n1 _ rfl
theorem insne6 (h : BnAt K C H b e is hs) (g : BnAt K C H x y js gs) : b ≠ y ∧ e ≠ x := by
  obtain ⟨dx, cur, h1, _⟩ := h.ob
  obtain ⟨us, h2, _⟩ := h.er
  obtain ⟨dx', cur', g1, _⟩ := g.ob
  obtain ⟨us', g2, _⟩ := g.er
  exact ⟨fun w => (by rw [w, g2] at h1; cases h1), fun w => (by rw [w, g1] at h2; cases h2)⟩
theorem BnAt.far6 (h : BnAt K C H b e is hs) (g : BnAt K C H x y js gs) (hp : PotA p n H) (bx : b ≠ x) (ey : e ≠ y) (s : Bu36 p x y H H') : BnAt K C H' b e is hs := by
  obtain ⟨n1, n2⟩ := h.potNe hp pg_ne6
  obtain ⟨n3, n4⟩ := insne6 h g
  exact h.kj (kj6 g hp s) fun o => ⟨s _ _ n1.symm bx n3, s _ _ n2.symm n4 ey⟩
/-- a bench, and what was there before it -/
structure M56 (K : PySem.W.Frag) (C : Addr) (H1 : Hp) (p b e : Addr) (is : List It) (hs : List (List It)) (n : Nat) (H : Hp) : Prop where
  pot : PotA p n H
  bn : BnAt K C H b e is hs
  hg : Pg56 is
  hgs : ∀ j ∈ hs, Pg56 j
  hl : hs.length ≤ 20
  k : Same H1 H
  np : H1 p = none
  nb : H1 b = none
  ne : H1 e = none
theorem M56.same (h : M56 K C H1 p b e is hs n H) (s : Same H H') : M56 K C H1 p b e is hs n H' := ⟨h.pot.same s, h.bn.same s, h.hg, h.hgs, h.hl, h.k.trans s, h.np, h.nb, h.ne⟩
theorem M56.drawn (h : M56 K C H1 p b e is hs n H) (s : Bu p H H') (hp : PotA p m H') : M56 K C H1 p b e is hs m H' := ⟨hp, h.bn.drawn6 h.pot s, h.hg, h.hgs, h.hl, fun x o w => s x o (ne_of_none w h.np) (h.k x o w), h.np, h.nb, h.ne⟩
theorem M56.new (h : M56 K C H1 p b e is hs n H) (q : H x = none) : H1 x = none := by
  cases z : H1 x with
  | none => rfl
  | some o =>
    have := h.k x o z
    rw [q] at this
    cases this
/-- another bench is changed -/
theorem M56.far (h : M56 K C H1 p b e is hs n H) (g : BnAt K C H x y js gs) (nx : H1 x = none) (ny : H1 y = none) (bx : b ≠ x) (ey : e ≠ y) (s : Bu36 p x y H H') (hp : PotA p m H') : M56 K C H1 p b e is hs m H' :=
  ⟨hp, h.bn.far6 g h.pot bx ey s, h.hg, h.hgs, h.hl, fun z o w => s z o (ne_of_none w h.np) (ne_of_none w nx) (ne_of_none w ny) (h.k z o w), h.np, h.nb, h.ne⟩
/-- this one -/
theorem M56.own (h : M56 K C H1 p b e is hs n H) (s : Bu36 p b e H H') (hp : PotA p m H') (bn : BnAt K C H' b e js gs) (hg : Pg56 js) (hgs : ∀ j ∈ gs, Pg56 j) (hl : gs.length ≤ 20) : M56 K C H1 p b e js gs m H' :=
  ⟨hp, bn, hg, hgs, hl, fun z o w => s z o (ne_of_none w h.np) (ne_of_none w h.nb) (ne_of_none w h.ne) (h.k z o w), h.np, h.nb, h.ne⟩
theorem mk6 {u : V} {Q : VK} (hd : Da K H u (pgD is)) (hv : Vp is) (q : ∀ H' b e, Same H H' → H b = none → H e = none → BnAt K C H' b e is [] → Q (.ref b) H') :
    ∀ b dx, H b = none → H dx = none → dx ≠ b → spBI K C (.ref b :: ([u] ++ [])) (upd (upd H dx (.own b)) b (.ins C dx [])) (fun v H3 => v = .non ∧ Q (.ref b) H3) E0 := by
  intro b dx nb ndx ne
  have s5 := same_put (o := .own b) ndx
  have nb5 : upd H dx (.own b) b = none := by
    rw [upd_ne ne.symm]
    exact nb
  have s6 := same_put (o := .ins C dx []) nb5
  refine ⟨b, dx, u, is, rfl, upd_same, hd.mono (s5.trans s6), hv, fun e H5 nE bn5 bu5 => ⟨rfl, q H5 b e (fun z o e2 => bu5 z o (ne_of_none e2 nb) (s6 _ _ (s5 _ _ e2))) nb (none_of' (s5.trans s6) nE) bn5⟩⟩
end
section
variable {K : PySem.W.Frag} {C : Addr} {H0 H : Hp} {σ : L2.St} {b e b2 e2 : Addr} {is js : List It} {hs gs : List (List It)} {i j : Nat} {u : V} {Q : VK}
/-- two benches are equal as their programs are -/
theorem t_two6 (hi : σ[i]? = some (some (.ref b))) (hj : σ[j]? = some (some (.ref b2))) (hb : BnAt K C H0 b e is hs) (hb2 : BnAt K C H0 b2 e2 js gs) :
    GivesT H0 (tTest (tOp rNe (tOp (rEqO K C (spBE K C)) (tVar i) (tVar j)) (tOp (rEqD K) (tMeth C "program" (spBP K C) [] E0 (tVar i) tNil) (tMeth C "program" (spBP K C) [] E0 (tVar j) tNil)))) false σ := fun H Q s q => by
  have g1 := hb.same s
  have g2 := hb2.same s
  obtain ⟨dx, cur, h1, _⟩ := g1.ob
  obtain ⟨dy, cur2, h2, _⟩ := g2.ob
  refine ⟨_, hi, _, hj, b, dx, _, rfl, h1, .inr ⟨b2, dy, _, rfl, h2⟩, b, e, is, hs, _, rfl, g1, .inr ⟨b2, e2, js, gs, rfl, g2, fun H' s' => ⟨⟨_, rfl⟩, ?_⟩⟩⟩
  refine ⟨_, hi, b, dx, _, rfl, s' _ _ h1, rfl, b, e, is, hs, rfl, g1.same s', fun u hu => ⟨_, hj, b2, dy, _, rfl, s' _ _ h2, rfl, b2, e2, js, gs, rfl, g2.same s', fun v hv => ⟨_, _, da_dp2 (prog_tup _) hu, da_dp2 (prog_tup _) hv, hb.vp.shaped, hb2.vp.shaped, rfl, _, rfl, ?_⟩⟩⟩
  rw [decide_eq_true rfl]
  exact q H' s'
theorem s_mk6 (hi : σ[i]? = some (some u)) (hd : Da K H u (pgD is)) (hv : Vp is) (q : ∀ H' b e, Same H H' → H b = none → H e = none → BnAt K C H' b e is [] → Q (.ref b) H') :
    tMake C (spBI K C) [] E0 (tCons (tVar i) tNil) σ H Q := ⟨_, hi, fun b dx h1 h2 h3 => mk6 hd hv q b dx h1 h2 h3⟩
theorem s_wr6 (hi : σ[i]? = some (some u)) (hd : Da K H u (pgD is)) (hv : Vp [.loop 1 is]) (q : ∀ H' b e, Same H H' → H b = none → H e = none → BnAt K C H' b e [.loop 1 is] [] → Q (.ref b) H') :
    tMake C (spBI K C) [] E0 (tCons (tTup (tCons (tTup (tCons (tC (.str "loop")) (tCons (tC (.int 1)) (tCons (tVar i) tNil)))) tNil)) tNil) σ H Q := by
  refine ⟨_, hi, (by show 3 ≤ sizeLine; decide), fun t1 n1 => ⟨(by show 1 ≤ sizeLine; decide), fun t2 n2 => fun b dx h1 h2 h3 => ?_⟩⟩
  have s1 := same_put (o := .tup [.str "loop", .int 1, u]) n1
  have s2 := same_put (o := .tup [.ref t1]) n2
  have d1 : Da K (upd H t1 (.tup [.str "loop", .int 1, u])) (.ref t1) (It.d (.loop 1 is)) := by
    rw [It.d, Its.d_map]
    exact .tup (xs := [.str "loop", .int 1, u]) (.inl (.inl upd_same)) (.cons (.str _) (.cons (.int _) (.cons (hd.mono s1) .nil)))
  have d2 : Da K (upd (upd H t1 (.tup [.str "loop", .int 1, u])) t2 (.tup [.ref t1])) (.ref t2) (pgD [.loop 1 is]) := .tup (xs := [.ref t1]) (.inl (.inl upd_same)) (.cons (d1.mono s2) .nil)
  exact mk6 d2 hv (fun H' b e s nb ne hb => q H' b e ((s1.trans s2).trans s) (back_none (s1.trans s2) nb) (back_none (s1.trans s2) ne) hb) b dx h1 h2 h3
theorem Pg56.wrap (h : Pg56 is) : Vp [.loop 1 is] := by
  refine ⟨Nat.le_refl _, by show 1 ≤ 20; decide, fun i hi => ?_, ?_⟩
  · rw [List.mem_singleton.mp hi]
    exact ⟨by decide, by decide, h.ne, by have := h.le; omega, fun i hi => vi_up6 2 4 i (by decide) (wm_vi6 (by decide) (by decide) 2 4 i (by decide) (h.wm i hi))⟩
  · rw [Its.ni, Its.ni, It.ni]
    have := h.ni
    omega
end
theorem s_par6 {ta tb : TE} {i j : Nat} {rest : TS} {D : Ends} {σ : L2.St} {H : Hp} (h : ta σ H fun v H1 => tb σ H1 fun w H2 => rest D ((σ.set i (some v)).set j (some w)) H2) : tSeq (tPar i j (tCons ta (tCons tb tNil))) rest D σ H := by
  have mono : (ta σ H fun v H1 => tb σ H1 fun w H2 => ∃ x y, [v, w] = [x, y] ∧ rest D ((σ.set i (some x)).set j (some y)) H2) := by
    have e : (fun (v : V) (H1 : Hp) => tb σ H1 fun w H2 => ∃ x y, [v, w] = [x, y] ∧ rest D ((σ.set i (some x)).set j (some y)) H2) = fun v H1 => tb σ H1 fun w H2 => rest D ((σ.set i (some v)).set j (some w)) H2 := by
      funext v H1
      congr 1
      funext w H2
      refine propext ⟨fun ⟨x, y, e, h⟩ => ?_, fun h => ⟨v, w, rfl, h⟩⟩
      injection e with e1 e2
      injection e2 with e2 _
      subst e1 e2
      exact h
    rw [e]
    exact h
  exact mono
theorem next6 {D : Ends} {σ : L2.St} {H : Hp} (h : D.nx σ H) : tNext D σ H := h
end Ev

/-! ## k56: the law -/
namespace Ev
open PySem PySem.Spec PyProof.Rows L2
def spLaw (K : PySem.W.Frag) : Sp := fun vs H Q _ => ∃ (a : Addr) (ns : List Int), vs = [.ref a] ∧ SqL K H a (ns.map V.int) ∧ ∀ H', Q (.bl true) H'
theorem scLaw : FnScope ["_law_script", "_law_k", "_law_stream_here", "_law_bench", "_law_twin", "_law_facts_here", "_law_items_here", "_law_other", "_law_wrapped", "_law_one", "_law_third", "_law_fourth"] ["_law_script"] (defScope (topS 40)) := ⟨rfl, rfl, rfl, by decide +kernel, rfl, by decide +kernel, by decide +kernel⟩
theorem mm3 (n : Int) : -(2 ^ 62) ≤ (if (if n < 3 then n else 3) > 1 then (if n < 3 then n else 3) else 1) ∧ (if (if n < 3 then n else 3) > 1 then (if n < 3 then n else 3) else 1) < 2 ^ 62 ∧ (if (if n < 3 then n else 3) > 1 then (if n < 3 then n else 3) else 1).toNat ≤ 3 := by
  split <;> split <;> omega
section
variable {P : Program} {w : World} {K : PySem.W.Frag} {mg : Str → Option Value} {base : Heap} {C : Addr}
theorem ok_law (T : BTx K mg C) (BQ : BEq K mg C) {f : Addr} {fd : FuncData} (F : Fun K "law" "law" (topS 40) f fd)
    (C__law_stream : Cal P w K mg base 1 "_law_stream" ["_law_script", "_law_k"] (spPotS K)) (C__law_draw : Cal P w K mg base 1 "_law_draw" ["_law_stream_here", "_law_many"] spDraw) (C__law_items : Cal P w K mg base 6 "_law_items" ["_law_stream_here", "_law_many", "_law_deep", "_law_ticks", "_law_rounds"] (spItemsM K 2))
    (C__law_led : Cal P w K mg base 18 "_law_led" ["_law_stream_here", "_law_bench", "_law_many"] (spLd K C)) (C__law_facts : Cal P w K mg base 11 "_law_facts" ["_law_bench"] (spFc K C))
    (K_Bench : KCal P w K mg base 16 C "Bench" ["self", "program"] (spBI K C)) (M_program : MCal P w K mg base 1 C "program" ["self"] (spBP K C)) (M_changes : MCal P w K mg base 1 C "changes" ["self"] (spBN K C)) (M_copy : MCal P w K mg base 18 C "copy" ["self"] (spBY K C))
    (M_undo : MCal P w K mg base 1 C "undo" ["self"] (spBUg K C)) (M___eq__ : MCal P w K mg base 1 C "__eq__" ["self", "other"] (spBE K C)) (nb : NB mg) : FnG P w K mg base CX0 20 f fd ["_law_script"] (spLaw K) := by
  refine okG F scLaw (fun vs H Q E h => ?_) (fun cdv A outer s H vs Q E hr gd h => ?_)
  · obtain ⟨a, ns, rfl, _⟩ := h
    rfl
  · obtain ⟨a, ns, rfl, hS, q⟩ := h
    refine ⟨_, (pss_cons (ps_for PassesOwn.never rfl (pi_range1 rfl nb.at (pa_cons (pe_callB (call_max2 rfl) (by rfl) nb.at (by decide +kernel) (pa_cons pe_int (pa_cons (pe_callB (call_min2 rfl) (by rfl) nb.at (by decide +kernel) (pa_cons pe_int (pa_cons (pe_callB call_len_seq (by rfl) nb.at PySem.boot_len (pa_cons (pv 0) pa_nil)) pa_nil))) pa_nil))) pa_nil)) (pg_name (i := 1) scLaw.nd rfl (Or.inl rfl))
        (pss_cons (ps_set (i := 2) scLaw.nd rfl (.inl rfl) (pcall C__law_stream (hr.mono (by omega)) gd (by rfl) (pa_cons (pv 0) (pa_cons (pv 1) pa_nil))))
        (pss_cons (ps_set (i := 3) scLaw.nd rfl (.inr rfl) (pmake K_Bench (hr.mono (by omega)) (by rfl) (pa_cons (pcall C__law_items (hr.mono (by omega)) gd (by rfl) (pa_cons (pv 2) (pa_cons pe_int (pa_cons pe_int (pa_cons pe_int (pa_cons pe_int pa_nil)))))) pa_nil)))
        (pss_cons (ps_expr (pcall C__law_led (hr.mono (by omega)) gd (by rfl) (pa_cons (pv 2) (pa_cons (pv 3) (pa_cons (pcall C__law_draw (hr.mono (by omega)) gd (by rfl) (pa_cons (pv 2) (pa_cons pe_int pa_nil))) pa_nil)))))
        (pss_cons (ps_par (i := 4) (j := 5) rfl scLaw.nd rfl rfl (by decide) rfl rfl (pa_cons (pmeth0 M_copy T.cl (hr.mono (by omega)) (pv 3)) (pa_cons (pcall C__law_facts (hr.mono (by omega)) gd (by rfl) (pa_cons (pv 3) pa_nil)) pa_nil)) (by rfl))
        (pss_cons (ps_if (PW.pt (pw_or (pt_not (pt_cmpR (op_eqO M___eq__ (hr.mono (by omega))) (pv 4) (pv 3) (nomark _))) (pw_or (pt_cmpR (op_neO M___eq__ (hr.mono (by omega)) BQ.hm BQ.ne) (pv 4) (pv 3) (nomark _)) (pw_or1 (pt_cmpR op_ne (pcall C__law_facts (hr.mono (by omega)) gd (by rfl) (pa_cons (pv 4) pa_nil)) (pv 5) (nomark _))))))
          (pss_one (ps_ret pe_bl))
          pss_nil)
        (pss_cons (ps_expr (pcall C__law_led (hr.mono (by omega)) gd (by rfl) (pa_cons (pv 2) (pa_cons (pv 4) (pa_cons (pe_op op_add pe_int (pcall C__law_draw (hr.mono (by omega)) gd (by rfl) (pa_cons (pv 2) (pa_cons pe_int pa_nil)))) pa_nil)))))
        (pss_cons (ps_if (PW.pt (pw_or (pt_cmpR op_ne (pcall C__law_facts (hr.mono (by omega)) gd (by rfl) (pa_cons (pv 3) pa_nil)) (pv 5) (nomark _)) (pw_or1 (pt_cmpR op_ne (pe_cmpR (op_eqO M___eq__ (hr.mono (by omega))) (pv 4) (pv 3) (nomark _)) (pe_cmpR (op_eqD hr.units) (pmeth0 M_program T.cl (hr.mono (by omega)) (pv 4)) (pmeth0 M_program T.cl (hr.mono (by omega)) (pv 3)) (nomark _)) (nomark _)))))
          (pss_one (ps_ret pe_bl))
          pss_nil)
        (pss_cons (ps_set (i := 6) scLaw.nd rfl (.inl rfl) (pmeth0 M_program T.cl (hr.mono (by omega)) (pv 3)))
        (pss_cons (ps_par (i := 7) (j := 8) rfl scLaw.nd rfl rfl (by decide) rfl rfl (pa_cons (pmake K_Bench (hr.mono (by omega)) (by rfl) (pa_cons (pv 6) pa_nil)) (pa_cons (pmake K_Bench (hr.mono (by omega)) (by rfl) (pa_cons (pe_tup (pa_cons (pe_tup (pa_cons pe_str (pa_cons pe_int (pa_cons (pv 6) pa_nil)))) pa_nil)) pa_nil)) pa_nil)) (by rfl))
        (pss_cons (ps_if (PW.pt (pw_or (pt_not (pt_cmpR (op_eqO M___eq__ (hr.mono (by omega))) (pv 7) (pv 3) (nomark _))) (pw_or (pt_cmpR (op_neO M___eq__ (hr.mono (by omega)) BQ.hm BQ.ne) (pv 7) (pv 3) (nomark _)) (pw_or1 (pt_cmpR (op_eqO M___eq__ (hr.mono (by omega))) (pv 8) (pv 3) (nomark _))))))
          (pss_one (ps_ret pe_bl))
          pss_nil)
        (pss_cons (ps_if (pt_val (pe_callB (cr_any rfl) (by rfl) nb.at (by decide +kernel) (pa_cons (pe_lc (own := [("_law_one", 9)]) (g := (gName 9)) (tt := tYes) (te := (tOrV (tOp (rEqO K C (spBE K C)) (tVar 3) (tVar 9)) (tOp (rEqR K C (spBE K C)) (tVar 9) (tVar 3)))) rfl scLaw.nd (pi_list (pe_lst (pa_cons (pv 6) (pa_cons pe_non (pa_cons pe_int (pa_cons pe_str (pa_cons (pe_tup (pa_cons (pv 6) pa_nil)) pa_nil))))))) (blkOk_by (N := ["_law_script", "_law_k", "_law_stream_here", "_law_bench", "_law_twin", "_law_facts_here", "_law_items_here", "_law_other", "_law_wrapped", "_law_one", "_law_third", "_law_fourth"]) (sc := defScope (topS 40)) (by decide +kernel)) (fun _ _ _ _ _ => (pg_name (i := 9) scLaw.nd rfl (Or.inl rfl))) (fun _ _ _ _ _ => pts_nil) (fun _ _ _ _ _ => (pe_or (pe_cmpR (op_eqO M___eq__ (hr.mono (by omega))) (pv 3) (pv 9) (nomark _)) (pe_one (pe_cmpR (op_eqRf M___eq__ (hr.mono (by omega)) BQ.sb) (pv 9) (pv 3) (nomark _)))))) pa_nil)))
          (pss_one (ps_ret pe_bl))
          pss_nil)
        (pss_cons (ps_par (i := 10) (j := 11) rfl scLaw.nd rfl rfl (by decide) rfl rfl (pa_cons (pmeth0 M_copy T.cl (hr.mono (by omega)) (pv 3)) (pa_cons (pmeth0 M_copy T.cl (hr.mono (by omega)) (pv 3)) pa_nil)) (by rfl))
        (pss_cons (ps_while PassesOwn.never (pt_cmpR op_gt (pmeth0 M_changes T.cl (hr.mono (by omega)) (pv 10)) pe_int (nomark _))
          (pss_cons (ps_expr (pmeth0 M_undo T.cl (hr.mono (by omega)) (pv 10)))
          (pss_cons (ps_expr (pmeth0 M_undo T.cl (hr.mono (by omega)) (pv 11)))
          (pss_one (ps_if (pt_cmpR (op_neO M___eq__ (hr.mono (by omega)) BQ.hm BQ.ne) (pv 10) (pv 11) (nomark _))
            (pss_one (ps_ret pe_bl))
            pss_nil)))))
        (pss_one (ps_if (PW.pt (pw_or (pt_cmpR op_ne (pcall C__law_facts (hr.mono (by omega)) gd (by rfl) (pa_cons (pv 3) pa_nil)) (pv 5) (nomark _)) (pw_or1 (pt_cmpR op_ne (pmeth0 M_changes T.cl (hr.mono (by omega)) (pv 11)) pe_int (nomark _)))))
          (pss_one (ps_ret pe_bl))
          pss_nil))))))))))))))))
      (pss_one (ps_ret pe_bl))), ?_⟩
    have sl := sizeLine_eq
    refine ⟨_, rfl, a, _, rfl, .inl hS, 3, _, rfl, 1, _, rfl, _, rfl, (mm3 _).1, (mm3 _).2.1, for_range (lo := 0) (fun i σ' H' => ∃ y1 y2 y3 y4 y5 y6 y7 y8 y9 y10 y11 : Option V, σ' = [some (.ref a), y1, y2, y3, y4, y5, y6, y7, y8, y9, y10, y11] ∧ SqL K H' a (ns.map V.int))
      ⟨none, none, none, none, none, none, none, none, none, none, none, rfl, hS⟩ ?_ ?_⟩
    · rintro i σ' H1 hi ⟨y1, y2, y3, y4, y5, y6, y7, y8, y9, y10, y11, rfl, hS1⟩
      have hi3 : i < 3 := Nat.lt_of_lt_of_le hi (mm3 _).2.2
      have bud : budB 2 4 ≤ 2000 := by decide
      refine ⟨_, rfl, _, rfl, a, ns, _, rfl, hS1, by omega, by omega, fun H2 p np s2 hp2 => ?_⟩
      refine ⟨_, rfl, 2, by decide, p, 4, _, 3, 3, rfl, hp2, by decide, by decide, by decide, by decide +kernel, by decide, by decide +kernel, (by decide), fun H3 u is b3 hp3 hd3 k1 k2 hw3 => ?_⟩
      have hg : Pg56 is := ⟨k1, k2, fun i hi => wm_TR6 (by decide) (by decide) 2 4 i (hw3 i hi)⟩
      have ofH : ∀ {b : Addr} {H' : Hp}, Bu p H2 H' → H' b = none → b ≠ p → H1 b = none := fun {b H'} s h hb => by
        cases z : H1 b with
        | none => rfl
        | some o =>
          have := s b o hb (s2 _ _ z)
          rw [h] at this
          cases this
      refine fun b0 dx0 q1 q2 q3 => mk6 (Q := fun v H' => gName 3 v _ H' _) hd3 hg.vp (fun H4 b e s4 nb ne bn4 => ?_) b0 dx0 q1 q2 q3
      have nb1 : H1 b = none := ofH b3 nb (fun z => by obtain ⟨xs, h, _⟩ := hp3; rw [z, h] at nb; cases nb)
      have ne1 : H1 e = none := ofH b3 ne (fun z => by obtain ⟨xs, h, _⟩ := hp3; rw [z, h] at ne; cases ne)
      have M0 : M56 K C H1 p b e is [] 2000 H4 := ⟨(hp3.same s4).up (by omega), bn4, hg, (fun j hj => by cases hj), Nat.zero_le _, fun z o w => s4 _ _ (b3 _ _ (ne_of_none w np) (s2 _ _ w)), np, nb1, ne1⟩
      clear hd3 hw3 k1 k2 hp3 nb ne bn4 ofH nb1 ne1
      dsimp only [gName]
      refine ⟨_, rfl, _, rfl, _, rfl, p, 9, _, rfl, M0.pot, by omega, by decide, by decide +kernel, fun H5 d b5 hp5 d0 d1 => ?_⟩
      obtain ⟨m, rfl⟩ := Int.eq_ofNat_of_zero_le d0
      have M1 := M0.drawn b5 hp5
      refine ⟨p, b, e, is, [], _, m, rfl, M1.pot, by omega, M1.bn, M1.hg, M1.hgs, by show 0 + m ≤ 900; omega, fun H6 js gs b6 hp6 bn6 hg6 hgs6 hl6 => ?_⟩
      have hl6 : gs.length ≤ 0 + m := hl6
      have M2 := (M1.own b6 (hp6.up (show _ ≤ 2200 by omega)) bn6 hg6 hgs6 (by omega) : M56 K C H1 p b e js gs 2200 H6)
      clear M0 M1 b5 hp5 b6 hp6 bn6 hg6 hgs6 s4
      obtain ⟨dx, cur, ho, _⟩ := M2.bn.ob
      obtain ⟨us, he, _⟩ := M2.bn.er
      have hl20 := M2.hl
      refine ⟨_, rfl, b, dx, _, rfl, ho, rfl, b, e, js, gs, rfl, M2.bn, fun H7 t et s7 nt nte bnt => ⟨_, rfl, b, e, js, gs, rfl, M2.bn.same s7, M2.hg, by omega, fun H8 s8 => ⟨_, _, rfl, ?_⟩⟩⟩
      have bt : b ≠ t := ne_of_none ho nt
      have eet : e ≠ et := ne_of_none he nte
      have M3 := M2.same (s7.trans s8)
      have T3 : M56 K C H1 p t et js gs 2200 H8 := ⟨M3.pot, bnt.same s8, M3.hg, M3.hgs, M3.hl, M3.k, M3.np, M2.new nt, M2.new nte⟩
      clear M2 ho he s7 s8 bnt nt nte
      dsimp only
      have q1 := t_not (t_eqO6 (σ := [some (.ref a), some (.int (0 + (i : Int))), some (.ref p), some (.ref b), some (.ref t), some (.str (ftD js gs.length).shown), y6, y7, y8, y9, y10, y11]) (i := 4) (j := 3) rfl rfl T3.bn M3.bn)
      have q2 := t_neO6 (σ := [some (.ref a), some (.int (0 + (i : Int))), some (.ref p), some (.ref b), some (.ref t), some (.str (ftD js gs.length).shown), y6, y7, y8, y9, y10, y11]) (i := 4) (j := 3) rfl rfl T3.bn M3.bn
      rw [eqv_self6 M3.hg.vp] at q1 q2
      refine s_skip (H0 := H8) (t_orF q1 (t_orF q2 (t_fact6 rfl rfl T3.bn T3.hg (by omega) rfl))) fun H9 s9 => ?_
      have M4 := M3.same s9
      have T4 := T3.same s9
      clear M3 T3 q1 q2 s9
      refine ⟨_, rfl, _, rfl, _, rfl, p, 6, _, rfl, M4.pot, by omega, by decide, by decide +kernel, fun HA d bA hpA d0 d1' => ⟨_, _, rfl, rfl, ?_⟩⟩
      obtain ⟨m2, hm2, hm3⟩ : ∃ m2 : Nat, 1 + d = ((m2 : Nat) : Int) ∧ m2 ≤ 6 := ⟨(1 + d).toNat, by omega, by omega⟩
      dsimp only
      rw [hm2]
      have M5 := M4.drawn bA hpA
      have T5 := T4.drawn bA hpA
      refine ⟨p, t, et, js, gs, _, m2, rfl, T5.pot, by omega, T5.bn, T5.hg, T5.hgs, by omega, fun HB js2 gs2 bB hpB bnB hgB hgsB hlB => ?_⟩
      have hpB' := hpB.up (show _ ≤ 2400 by omega)
      have M6 := M5.far T5.bn T5.nb T5.ne bt eet bB hpB'
      have T6 := T5.own bB hpB' bnB hgB hgsB (by omega)
      clear M4 M5 T4 T5 bA hpA bB hpB bnB hgB hgsB d0 d1'
      refine s_skip (H0 := HB) (t_orF (t_fact6 rfl rfl M6.bn M6.hg (by omega) rfl) (t_two6 rfl rfl T6.bn M6.bn)) fun HC sC => ?_
      have M7 := M6.same sC
      clear M6 T6 sC hlB hm2 hm3 bt eet
      obtain ⟨dx7, cur7, ho7, _⟩ := M7.bn.ob
      obtain ⟨us7, he7, _⟩ := M7.bn.er
      refine ⟨_, rfl, b, dx7, _, rfl, ho7, rfl, b, e, js, gs, rfl, M7.bn, fun u6 hu6 => ?_⟩
      dsimp only [gName]
      refine s_par6 ?_
      refine s_mk6 (i := 6) (by rfl) hu6 M7.hg.vp fun HD bo eo sD nbo neo bno => ?_
      refine s_wr6 (i := 6) (by rfl) (hu6.mono sD) M7.hg.wrap fun HE bw ew sE nbw new_ bnw => ?_
      have M8 := M7.same (sD.trans sE)
      have hu8 := hu6.mono (sD.trans sE)
      have bno' := bno.same sE
      clear M7 hu6 bno sD sE ho7 he7 nbo neo nbw new_
      have q1 := t_not (t_eqO6 (σ := [some (.ref a), some (.int (0 + (i : Int))), some (.ref p), some (.ref b), some (.ref t), some (.str (ftD js gs.length).shown), some u6, some (.ref bo), some (.ref bw), y9, y10, y11]) (i := 7) (j := 3) rfl rfl bno' M8.bn)
      have q2 := t_neO6 (σ := [some (.ref a), some (.int (0 + (i : Int))), some (.ref p), some (.ref b), some (.ref t), some (.str (ftD js gs.length).shown), some u6, some (.ref bo), some (.ref bw), y9, y10, y11]) (i := 7) (j := 3) rfl rfl bno' M8.bn
      have q3 := t_eqO6 (σ := [some (.ref a), some (.int (0 + (i : Int))), some (.ref p), some (.ref b), some (.ref t), some (.str (ftD js gs.length).shown), some u6, some (.ref bo), some (.ref bw), y9, y10, y11]) (i := 8) (j := 3) rfl rfl bnw M8.bn
      rw [eqv_self6 M8.hg.vp] at q1 q2
      rw [wrap_ne6] at q3
      refine s_skip (H0 := HE) (t_orF q1 (t_orF q2 q3)) fun HF sF => ?_
      have M9 := M8.same sF
      have hu9 := hu8.mono sF
      clear M8 hu8 q1 q2 q3 bno' bnw sF
      obtain ⟨a6, xs6, rfl, hs6, ha6⟩ := da_prog hu9
      obtain ⟨dx9, cur9, ho9, _⟩ := M9.bn.ob
      obtain ⟨us9, he9, _⟩ := M9.bn.er
      refine ⟨_, rfl, _, rfl, (by show 1 ≤ sizeLine; decide), fun t1 n1 => ⟨(by show 5 ≤ sizeLine; decide), fun l2 n2 => ?_⟩⟩
      have s1 := same_put (o := .tup [.ref a6]) n1
      have s2' := same_put (o := .lst [.ref a6, .non, .int 0, .str "bench", .ref t1]) n2
      have s12 := s1.trans s2'
      have all : ∀ v ∈ ([.ref a6, .non, .int 0, .str "bench", .ref t1] : List V), ∃ d, Da K (upd (upd HF t1 (.tup [.ref a6])) l2 (.lst [.ref a6, .non, .int 0, .str "bench", .ref t1])) v d ∧ tyD d ∈ ["tuple", "NoneType", "int", "str"] ∧ (v = .non ∨ (∃ i, v = .int i) ∨ (∃ z, v = .str z) ∨ ∃ l xs, v = .ref l ∧ SqT K (upd (upd HF t1 (.tup [.ref a6])) l2 (.lst [.ref a6, .non, .int 0, .str "bench", .ref t1])) l xs) := fun v hv => by
        simp only [List.mem_cons, List.not_mem_nil, or_false] at hv
        rcases hv with rfl | rfl | rfl | rfl | rfl
        · exact ⟨_, hu9.mono s12, by simp [tyD], .inr (.inr (.inr ⟨_, _, rfl, seqT_mono s12 hs6⟩))⟩
        · exact ⟨_, .non, by simp [tyD], .inl rfl⟩
        · exact ⟨_, .int 0, by simp [tyD], .inr (.inl ⟨_, rfl⟩)⟩
        · exact ⟨_, .str _, by simp [tyD], .inr (.inr (.inl ⟨_, rfl⟩))⟩
        · exact ⟨_, .tup (xs := [.ref a6]) (.inl (.inl (s2' _ _ upd_same))) (.cons (hu9.mono s12) .nil), by simp [tyD], .inr (.inr (.inr ⟨_, _, rfl, .inl (.inl (s2' _ _ upd_same))⟩))⟩
      have hl2 : upd (upd HF t1 (.tup [.ref a6])) l2 (.lst [.ref a6, .non, .int 0, .str "bench", .ref t1]) l2 = some (.lst [.ref a6, .non, .int 0, .str "bench", .ref t1]) := upd_same
      have M10 := M9.same s12
      have ho10 := s12 _ _ ho9
      have he10 := s12 _ _ he9
      generalize upd (upd HF t1 (.tup [.ref a6])) l2 (.lst [.ref a6, .non, .int 0, .str "bench", .ref t1]) = HG at all hl2 M10 ho10 he10 ⊢
      clear M9 ho9 he9 hu9 hs6 ha6 s1 s2' s12 n1 n2
      refine ⟨l2, rfl, ⟨_, .inl (.inl hl2)⟩, fun D nD => ?_⟩
      have sD := same_put (o := .lst []) nD
      refine lc_list (K := K) (a := l2) (xs := [.ref a6, .non, .int 0, .str "bench", .ref t1]) (fun k H' => Same HG H' ∧ H' D = some (.lst ((List.replicate k false).map V.bl))) ⟨sD, upd_same⟩ (fun k H' _ ⟨s', _⟩ => s'.seq (.inl (.inl hl2))) ?_ ?_
      · rintro k v HH hk ⟨sH, hD⟩
        obtain ⟨d, hd, hT, hc⟩ := all v (List.mem_of_getElem? hk)
        have B1 := M10.bn.same sH
        refine ⟨rfl, _, rfl, _, rfl, b, dx9, _, rfl, sH _ _ ho10, .inl ⟨d, hd.mono sH⟩, b, e, js, gs, v, rfl, B1, .inl ⟨d, hd.mono sH, hT, fun HI sI => ⟨⟨_, rfl⟩, _, rfl, iteF ?_⟩⟩⟩
        have sI' := sH.trans sI
        refine ⟨_, rfl, _, rfl, b, dx9, _, rfl, sI' _ _ ho10, ?_, b, e, js, gs, v, rfl, M10.bn.same sI', .inl ⟨d, hd.mono sI', hT, fun HJ sJ => ⟨⟨_, rfl⟩, ?_⟩⟩⟩
        · rcases hc with h | h | h | ⟨l, xs, h1, h2⟩
          · exact .inl h
          · exact .inr (.inl h)
          · exact .inr (.inr (.inl h))
          · exact .inr (.inr (.inr ⟨l, xs, h1, seqT_mono sI' h2⟩))
        · have k5 : k < 5 := (List.getElem?_eq_some_iff.mp hk).1
          refine ⟨_, sJ _ _ (sI _ _ hD), by rw [List.length_map, List.length_replicate]; omega, fun z o w => ?_, ?_⟩
          · rw [upd_ne (ne_of_none w nD)]
            exact sJ _ _ (sI' _ _ w)
          · rw [upd_same, List.replicate_succ', List.map_append]
            rfl
      · rintro HH ⟨sH, hD⟩
        refine ⟨D, List.replicate 5 false, rfl, .inl (.inl hD), _, rfl, iteF ?_⟩
        have M11 := M10.same sH
        have ho11 := sH _ _ ho10
        have he11 := sH _ _ he10
        clear M10 ho10 he10 hl2 all hD nD sD sH
        refine next6 ?_
        dsimp only
        refine s_par6 ?_
        refine ⟨_, rfl, b, dx9, _, rfl, ho11, rfl, b, e, js, gs, rfl, M11.bn, fun HI t3 e3 sI nt3 ne3 bn3 => ⟨_, rfl, b, dx9, _, rfl, sI _ _ ho11, rfl, b, e, js, gs, rfl, M11.bn.same sI, fun HJ t4 e4 sJ nt4 ne4 bn4 => ?_⟩⟩
        obtain ⟨dx3, cur3, ho3, _⟩ := bn3.ob
        obtain ⟨us3, he3, _⟩ := bn3.er
        have d1 : b ≠ t3 := ne_of_none ho11 nt3
        have d2 : b ≠ t4 := ne_of_none (sI _ _ ho11) nt4
        have d3 : t3 ≠ t4 := ne_of_none ho3 nt4
        have e1 : e ≠ e3 := ne_of_none he11 ne3
        have e2 : e ≠ e4 := ne_of_none (sI _ _ he11) ne4
        have e3' : e3 ≠ e4 := ne_of_none he3 ne4
        have M12 := M11.same (sI.trans sJ)
        have A3 : M56 K C H1 p t3 e3 js gs 2400 HJ := ⟨M12.pot, bn3.same sJ, M12.hg, M12.hgs, M12.hl, M12.k, M12.np, M11.new nt3, M11.new ne3⟩
        have A4 : M56 K C H1 p t4 e4 js gs 2400 HJ := ⟨M12.pot, bn4, M12.hg, M12.hgs, M12.hl, M12.k, M12.np, (M11.same sI).new nt4, (M11.same sI).new ne4⟩
        clear M11 ho11 he11 sI nt3 ne3 bn3 sJ nt4 ne4 bn4 ho3 he3
        refine ⟨fun m σ' H' => ∃ (is' : List It) (hs' : List (List It)), m = hs'.length ∧ σ' = [some (.ref a), some (.int (0 + (i : Int))), some (.ref p), some (.ref b), some (.ref t), some (.str (ftD js gs.length).shown), some (.ref a6), some (.ref bo), some (.ref bw), y9, some (.ref t3), some (.ref t4)] ∧ M56 K C H1 p b e js gs 2400 H' ∧ M56 K C H1 p t3 e3 is' hs' 2400 H' ∧ M56 K C H1 p t4 e4 is' hs' 2400 H', ⟨_, js, gs, rfl, rfl, M12, A3, A4⟩, ?_⟩
        clear M12 A3 A4
        rintro m' σ' HK ⟨is', hs', rfl, rfl, M13, A3, A4⟩
        obtain ⟨dx3, cur3, ho3, _⟩ := A3.bn.ob
        obtain ⟨dx4, cur4, ho4, _⟩ := A4.bn.ob
        refine ⟨_, rfl, t3, dx3, _, rfl, ho3, rfl, t3, e3, is', hs', rfl, A3.bn, _, _, rfl, rfl, _, rfl, ?_⟩
        rcases List.eq_nil_or_concat hs' with rfl | ⟨hs2, j', rfl⟩
        · refine iteF ?_
          dsimp only
          have q2 : GivesT HK (tTest (tOp rNe (tMeth C "changes" (spBN K C) [] E0 (tVar 11) tNil) (tC (V.int 0)))) false [some (.ref a), some (.int (0 + (i : Int))), some (.ref p), some (.ref b), some (.ref t), some (.str (ftD js gs.length).shown), some (.ref a6), some (.ref bo), some (.ref bw), y9, some (.ref t3), some (.ref t4)] := fun H Q s q => by
            refine ⟨_, rfl, t4, dx4, _, rfl, s _ _ ho4, rfl, t4, e4, is', [], rfl, A4.bn.same s, rfl, _, rfl, ?_⟩
            exact q H Same.rfl'
          refine s_skip1 (H0 := HK) (t_orF (t_fact6 rfl rfl M13.bn M13.hg (by have := M13.hl; omega) rfl) q2) fun HL sL => ?_
          exact ⟨_, _, _, _, _, _, _, _, _, _, _, rfl, sq_of hS1 fun o w => sL _ _ (M13.k _ _ w)⟩
        · rw [List.concat_eq_append] at A3 A4 ⊢
          have hpos : decide ((0 : Int) < (((hs2 ++ [j']).length : Nat) : Int)) = true := decide_eq_true (by rw [List.length_append, List.length_singleton]; omega)
          rw [if_pos hpos]
          have vj := A3.hgs j' (by simp)
          have hl3 := A3.hl
          rw [List.length_append, List.length_singleton] at hl3
          have hg2 : ∀ j ∈ hs2, Pg56 j := fun z hz => A3.hgs z (List.mem_append_left _ hz)
          refine ⟨_, fun σ' H' h => h, ?_⟩
          refine ⟨_, rfl, t3, dx3, _, rfl, ho3, rfl, t3, e3, is', j', hs2, rfl, A3.bn, vj.vp, fun HL bL bnL => ?_⟩
          have pL := A3.pot.bu26 A3.bn bL
          have M14 := M13.far A3.bn A3.nb A3.ne d1 e1 (.bu2 bL) pL
          have B4 := A4.far A3.bn A3.nb A3.ne d3.symm e3'.symm (.bu2 bL) pL
          have B3 := A3.own (.bu2 bL) pL bnL vj hg2 (by omega)
          obtain ⟨dx5, cur5, ho5, _⟩ := B4.bn.ob
          refine ⟨_, rfl, t4, dx5, _, rfl, ho5, rfl, t4, e4, is', j', hs2, rfl, B4.bn, vj.vp, fun HM bM bnM => ?_⟩
          have pM := B4.pot.bu26 B4.bn bM
          have M15 := M14.far B4.bn B4.nb B4.ne d2 e2 (.bu2 bM) pM
          have C3 := B3.far B4.bn B4.nb B4.ne d3 e3' (.bu2 bM) pM
          have C4 := B4.own (.bu2 bM) pM bnM vj hg2 (by omega)
          dsimp only
          have q2 := t_neO6 (σ := [some (.ref a), some (.int (0 + (i : Int))), some (.ref p), some (.ref b), some (.ref t), some (.str (ftD js gs.length).shown), some (.ref a6), some (.ref bo), some (.ref bw), y9, some (.ref t3), some (.ref t4)]) (i := 10) (j := 11) rfl rfl C3.bn C4.bn
          rw [eqv_self6 vj.vp] at q2
          refine s_skip1 (H0 := HM) q2 fun HN sN => ?_
          exact ⟨hs2.length, by rw [List.length_append, List.length_singleton]; omega, j', hs2, rfl, rfl, M15.same sN, C3.same sN, C4.same sN⟩
    · exact fun σ H _ => q H
end
end Ev

/-! ## What the top has written -/
namespace Ev
open PySem PySem.Spec PyProof.Rows L2
open PySem.W (typeIn keepIn codeIn nsIn)
def initB (K : PySem.W.Frag) (fI : Addr) (cd : Value) (q : Str) : Bool := (typeIn K (.ref fI) == some (.type "function")) && (codeIn K cd q && keepIn K (.ref fI))
theorem initB_ok {K : PySem.W.Frag} {fI : Addr} {cd : Value} {q : Str} (h : initB K fI cd q = true) : typeIn K (.ref fI) = some (.type "function") ∧ codeIn K cd q = true ∧ keepIn K (.ref fI) = true := by
  unfold initB at h
  simpa only [Bool.and_eq_true, beq_iff_eq] using h
def methB (K : PySem.W.Frag) (f : Addr) (cd : Value) (q : Str) : Bool := PySem.W.isFn K (.ref f) && (codeIn K cd q && keepIn K (.ref f))
theorem methB_ok {K : PySem.W.Frag} {f : Addr} {cd : Value} {q : Str} (h : methB K f cd q = true) : PySem.W.isFn K (.ref f) = true ∧ codeIn K cd q = true ∧ keepIn K (.ref f) = true := by
  unfold methB at h
  simpa only [Bool.and_eq_true] using h
def clsB (K : PySem.W.Frag) (C : Addr) : Bool := PySem.W.plainGet K C Str.empty && (PySem.W.hasDictIn K C && (PySem.W.plainOver K C && (PySem.W.makesIn K C && keepIn K (.ref C))))
theorem clsB_ok {K : PySem.W.Frag} {C : Addr} (h : clsB K C = true) : PySem.W.plainGet K C Str.empty = true ∧ PySem.W.hasDictIn K C = true ∧ PySem.W.plainOver K C = true ∧ PySem.W.makesIn K C = true ∧ keepIn K (.ref C) = true := by
  unfold clsB at h
  simpa only [Bool.and_eq_true] using h
theorem all_mk {P : Program} {w : World} {K : PySem.W.Frag} {h : Heap} {mg : Str → Option Value} {fa : Addr} (X : K.In h) (G : h.Ns mainGlobals mg) (hfa : mg "law" = some (.ref fa))
    {g9 : Addr} {ode9 ane9 : Option Addr} {sle9 : Array (Option Value)} {oce9 kVe9 dce9 pme9 cde9 cte9 : Value}
    {g10 : Addr} {ode10 ane10 : Option Addr} {sle10 : Array (Option Value)} {oce10 kVe10 dce10 pme10 cde10 cte10 : Value}
    {g18 : Addr} {ode18 ane18 : Option Addr} {sle18 : Array (Option Value)} {oce18 kVe18 dce18 pme18 cde18 cte18 : Value}
    {g19 : Addr} {ode19 ane19 : Option Addr} {sle19 : Array (Option Value)} {oce19 kVe19 dce19 pme19 cde19 cte19 : Value}
    {g20 : Addr} {ode20 ane20 : Option Addr} {sle20 : Array (Option Value)} {oce20 kVe20 dce20 pme20 cde20 cte20 : Value}
    {g21 : Addr} {ode21 ane21 : Option Addr} {sle21 : Array (Option Value)} {oce21 kVe21 dce21 pme21 cde21 cte21 : Value}
    {g22 : Addr} {ode22 ane22 : Option Addr} {sle22 : Array (Option Value)} {oce22 kVe22 dce22 pme22 cde22 cte22 : Value}
    {g24 : Addr} {ode24 ane24 : Option Addr} {sle24 : Array (Option Value)} {oce24 kVe24 dce24 pme24 cde24 cte24 : Value}
    {g25 : Addr} {ode25 ane25 : Option Addr} {sle25 : Array (Option Value)} {oce25 kVe25 dce25 pme25 cde25 cte25 : Value}
    {g27 : Addr} {ode27 ane27 : Option Addr} {sle27 : Array (Option Value)} {oce27 kVe27 dce27 pme27 cde27 cte27 : Value}
    {g28 : Addr} {ode28 ane28 : Option Addr} {sle28 : Array (Option Value)} {oce28 kVe28 dce28 pme28 cde28 cte28 : Value}
    {g31 : Addr} {ode31 ane31 : Option Addr} {sle31 : Array (Option Value)} {oce31 kVe31 dce31 pme31 cde31 cte31 : Value}
    {g33 : Addr} {ode33 ane33 : Option Addr} {sle33 : Array (Option Value)} {oce33 kVe33 dce33 pme33 cde33 cte33 : Value}
    {g34 : Addr} {ode34 ane34 : Option Addr} {sle34 : Array (Option Value)} {oce34 kVe34 dce34 pme34 cde34 cte34 : Value}
    {g35 : Addr} {ode35 ane35 : Option Addr} {sle35 : Array (Option Value)} {oce35 kVe35 dce35 pme35 cde35 cte35 : Value}
    {g36 : Addr} {ode36 ane36 : Option Addr} {sle36 : Array (Option Value)} {oce36 kVe36 dce36 pme36 cde36 cte36 : Value}
    {g37 : Addr} {ode37 ane37 : Option Addr} {sle37 : Array (Option Value)} {oce37 kVe37 dce37 pme37 cde37 cte37 : Value}
    {g38 : Addr} {ode38 ane38 : Option Addr} {sle38 : Array (Option Value)} {oce38 kVe38 dce38 pme38 cde38 cte38 : Value}
    {g39 : Addr} {ode39 ane39 : Option Addr} {sle39 : Array (Option Value)} {oce39 kVe39 dce39 pme39 cde39 cte39 : Value}
    {g40 : Addr} {ode40 ane40 : Option Addr} {sle40 : Array (Option Value)} {oce40 kVe40 dce40 pme40 cde40 cte40 : Value}
    {t_MOST_LETTERS : Tok}
    {t_MOST_TICKS : Tok}
    {t_MOST_ROUNDS : Tok}
    {t_MOST_BESIDE : Tok}
    {t_MOST_ITEMS : Tok}
    {t_MOST_DEEP : Tok}
    {C30 : Addr}
    {g30_0 : Addr} {ode30_0 ane30_0 : Option Addr} {sle30_0 : Array (Option Value)} {oce30_0 kVe30_0 dce30_0 pme30_0 cde30_0 cte30_0 : Value}
    {g30_1 : Addr} {ode30_1 ane30_1 : Option Addr} {sle30_1 : Array (Option Value)} {oce30_1 kVe30_1 dce30_1 pme30_1 cde30_1 cte30_1 : Value}
    {g30_2 : Addr} {ode30_2 ane30_2 : Option Addr} {sle30_2 : Array (Option Value)} {oce30_2 kVe30_2 dce30_2 pme30_2 cde30_2 cte30_2 : Value}
    {g30_3 : Addr} {ode30_3 ane30_3 : Option Addr} {sle30_3 : Array (Option Value)} {oce30_3 kVe30_3 dce30_3 pme30_3 cde30_3 cte30_3 : Value}
    {g30_4 : Addr} {ode30_4 ane30_4 : Option Addr} {sle30_4 : Array (Option Value)} {oce30_4 kVe30_4 dce30_4 pme30_4 cde30_4 cte30_4 : Value}
    {g30_6 : Addr} {ode30_6 ane30_6 : Option Addr} {sle30_6 : Array (Option Value)} {oce30_6 kVe30_6 dce30_6 pme30_6 cde30_6 cte30_6 : Value}
    {g30_7 : Addr} {ode30_7 ane30_7 : Option Addr} {sle30_7 : Array (Option Value)} {oce30_7 kVe30_7 dce30_7 pme30_7 cde30_7 cte30_7 : Value}
    {g30_9 : Addr} {ode30_9 ane30_9 : Option Addr} {sle30_9 : Array (Option Value)} {oce30_9 kVe30_9 dce30_9 pme30_9 cde30_9 cte30_9 : Value}
    {g30_10 : Addr} {ode30_10 ane30_10 : Option Addr} {sle30_10 : Array (Option Value)} {oce30_10 kVe30_10 dce30_10 pme30_10 cde30_10 cte30_10 : Value}
    {g30_13 : Addr} {ode30_13 ane30_13 : Option Addr} {sle30_13 : Array (Option Value)} {oce30_13 kVe30_13 dce30_13 pme30_13 cde30_13 cte30_13 : Value}
    {g30_14 : Addr} {ode30_14 ane30_14 : Option Addr} {sle30_14 : Array (Option Value)} {oce30_14 kVe30_14 dce30_14 pme30_14 cde30_14 cte30_14 : Value}
    {g30_15 : Addr} {ode30_15 ane30_15 : Option Addr} {sle30_15 : Array (Option Value)} {oce30_15 kVe30_15 dce30_15 pme30_15 cde30_15 cte30_15 : Value}
    (A9 : nsIn K mainGlobals "is_whole" = some (some (.ref g9)))
    (L9 : K.lookup g9 = some ⟨oce9, ode9, .func (PySem.W.fnOf "is_whole" "is_whole" (defArgs (topS 9)) (defBody (topS 9)) (defScope (topS 9)) .none kVe9 dce9 pme9 ane9 cde9 cte9), sle9⟩)
    (H9 : initB K g9 cde9 "is_whole" = true)
    (A10 : nsIn K mainGlobals "is_integer_within" = some (some (.ref g10)))
    (L10 : K.lookup g10 = some ⟨oce10, ode10, .func (PySem.W.fnOf "is_integer_within" "is_integer_within" (defArgs (topS 10)) (defBody (topS 10)) (defScope (topS 10)) .none kVe10 dce10 pme10 ane10 cde10 cte10), sle10⟩)
    (H10 : initB K g10 cde10 "is_integer_within" = true)
    (A18 : nsIn K mainGlobals "is_program" = some (some (.ref g18)))
    (L18 : K.lookup g18 = some ⟨oce18, ode18, .func (PySem.W.fnOf "is_program" "is_program" (defArgs (topS 18)) (defBody (topS 18)) (defScope (topS 18)) .none kVe18 dce18 pme18 ane18 cde18 cte18), sle18⟩)
    (H18 : initB K g18 cde18 "is_program" = true)
    (A19 : nsIn K mainGlobals "room_behind_items" = some (some (.ref g19)))
    (L19 : K.lookup g19 = some ⟨oce19, ode19, .func (PySem.W.fnOf "room_behind_items" "room_behind_items" (defArgs (topS 19)) (defBody (topS 19)) (defScope (topS 19)) .none kVe19 dce19 pme19 ane19 cde19 cte19), sle19⟩)
    (H19 : initB K g19 cde19 "room_behind_items" = true)
    (A20 : nsIn K mainGlobals "room_behind" = some (some (.ref g20)))
    (L20 : K.lookup g20 = some ⟨oce20, ode20, .func (PySem.W.fnOf "room_behind" "room_behind" (defArgs (topS 20)) (defBody (topS 20)) (defScope (topS 20)) .none kVe20 dce20 pme20 ane20 cde20 cte20), sle20⟩)
    (H20 : initB K g20 cde20 "room_behind" = true)
    (A21 : nsIn K mainGlobals "is_name" = some (some (.ref g21)))
    (L21 : K.lookup g21 = some ⟨oce21, ode21, .func (PySem.W.fnOf "is_name" "is_name" (defArgs (topS 21)) (defBody (topS 21)) (defScope (topS 21)) .none kVe21 dce21 pme21 ane21 cde21 cte21), sle21⟩)
    (H21 : initB K g21 cde21 "is_name" = true)
    (A22 : nsIn K mainGlobals "length" = some (some (.ref g22)))
    (L22 : K.lookup g22 = some ⟨oce22, ode22, .func (PySem.W.fnOf "length" "length" (defArgs (topS 22)) (defBody (topS 22)) (defScope (topS 22)) .none kVe22 dce22 pme22 ane22 cde22 cte22), sle22⟩)
    (H22 : initB K g22 cde22 "length" = true)
    (A24 : nsIn K mainGlobals "lines_of" = some (some (.ref g24)))
    (L24 : K.lookup g24 = some ⟨oce24, ode24, .func (PySem.W.fnOf "lines_of" "lines_of" (defArgs (topS 24)) (defBody (topS 24)) (defScope (topS 24)) .none kVe24 dce24 pme24 ane24 cde24 cte24), sle24⟩)
    (H24 : initB K g24 cde24 "lines_of" = true)
    (A25 : nsIn K mainGlobals "totals" = some (some (.ref g25)))
    (L25 : K.lookup g25 = some ⟨oce25, ode25, .func (PySem.W.fnOf "totals" "totals" (defArgs (topS 25)) (defBody (topS 25)) (defScope (topS 25)) .none kVe25 dce25 pme25 ane25 cde25 cte25), sle25⟩)
    (H25 : initB K g25 cde25 "totals" = true)
    (A27 : nsIn K mainGlobals "spent" = some (some (.ref g27)))
    (L27 : K.lookup g27 = some ⟨oce27, ode27, .func (PySem.W.fnOf "spent" "spent" (defArgs (topS 27)) (defBody (topS 27)) (defScope (topS 27)) .none kVe27 dce27 pme27 ane27 cde27 cte27), sle27⟩)
    (H27 : initB K g27 cde27 "spent" = true)
    (A28 : nsIn K mainGlobals "added_up" = some (some (.ref g28)))
    (L28 : K.lookup g28 = some ⟨oce28, ode28, .func (PySem.W.fnOf "added_up" "added_up" (defArgs (topS 28)) (defBody (topS 28)) (defScope (topS 28)) .none kVe28 dce28 pme28 ane28 cde28 cte28), sle28⟩)
    (H28 : initB K g28 cde28 "added_up" = true)
    (A31 : nsIn K mainGlobals "check_index" = some (some (.ref g31)))
    (L31 : K.lookup g31 = some ⟨oce31, ode31, .func (PySem.W.fnOf "check_index" "check_index" (defArgs (topS 31)) (defBody (topS 31)) (defScope (topS 31)) .none kVe31 dce31 pme31 ane31 cde31 cte31), sle31⟩)
    (H31 : initB K g31 cde31 "check_index" = true)
    (A33 : nsIn K mainGlobals "_law_stream" = some (some (.ref g33)))
    (L33 : K.lookup g33 = some ⟨oce33, ode33, .func (PySem.W.fnOf "_law_stream" "_law_stream" (defArgs (topS 33)) (defBody (topS 33)) (defScope (topS 33)) .none kVe33 dce33 pme33 ane33 cde33 cte33), sle33⟩)
    (H33 : initB K g33 cde33 "_law_stream" = true)
    (A34 : nsIn K mainGlobals "_law_draw" = some (some (.ref g34)))
    (L34 : K.lookup g34 = some ⟨oce34, ode34, .func (PySem.W.fnOf "_law_draw" "_law_draw" (defArgs (topS 34)) (defBody (topS 34)) (defScope (topS 34)) .none kVe34 dce34 pme34 ane34 cde34 cte34), sle34⟩)
    (H34 : initB K g34 cde34 "_law_draw" = true)
    (A35 : nsIn K mainGlobals "_law_pick" = some (some (.ref g35)))
    (L35 : K.lookup g35 = some ⟨oce35, ode35, .func (PySem.W.fnOf "_law_pick" "_law_pick" (defArgs (topS 35)) (defBody (topS 35)) (defScope (topS 35)) .none kVe35 dce35 pme35 ane35 cde35 cte35), sle35⟩)
    (H35 : initB K g35 cde35 "_law_pick" = true)
    (A36 : nsIn K mainGlobals "_law_line" = some (some (.ref g36)))
    (L36 : K.lookup g36 = some ⟨oce36, ode36, .func (PySem.W.fnOf "_law_line" "_law_line" (defArgs (topS 36)) (defBody (topS 36)) (defScope (topS 36)) .none kVe36 dce36 pme36 ane36 cde36 cte36), sle36⟩)
    (H36 : initB K g36 cde36 "_law_line" = true)
    (A37 : nsIn K mainGlobals "_law_items" = some (some (.ref g37)))
    (L37 : K.lookup g37 = some ⟨oce37, ode37, .func (PySem.W.fnOf "_law_items" "_law_items" (defArgs (topS 37)) (defBody (topS 37)) (defScope (topS 37)) .none kVe37 dce37 pme37 ane37 cde37 cte37), sle37⟩)
    (H37 : initB K g37 cde37 "_law_items" = true)
    (A38 : nsIn K mainGlobals "_law_led" = some (some (.ref g38)))
    (L38 : K.lookup g38 = some ⟨oce38, ode38, .func (PySem.W.fnOf "_law_led" "_law_led" (defArgs (topS 38)) (defBody (topS 38)) (defScope (topS 38)) .none kVe38 dce38 pme38 ane38 cde38 cte38), sle38⟩)
    (H38 : initB K g38 cde38 "_law_led" = true)
    (A39 : nsIn K mainGlobals "_law_facts" = some (some (.ref g39)))
    (L39 : K.lookup g39 = some ⟨oce39, ode39, .func (PySem.W.fnOf "_law_facts" "_law_facts" (defArgs (topS 39)) (defBody (topS 39)) (defScope (topS 39)) .none kVe39 dce39 pme39 ane39 cde39 cte39), sle39⟩)
    (H39 : initB K g39 cde39 "_law_facts" = true)
    (A40 : nsIn K mainGlobals "law" = some (some (.ref g40)))
    (L40 : K.lookup g40 = some ⟨oce40, ode40, .func (PySem.W.fnOf "law" "law" (defArgs (topS 40)) (defBody (topS 40)) (defScope (topS 40)) .none kVe40 dce40 pme40 ane40 cde40 cte40), sle40⟩)
    (H40 : initB K g40 cde40 "law" = true)
    (c_MOST_LETTERS : nsIn K mainGlobals "MOST_LETTERS" = some (some (.int 8 t_MOST_LETTERS)))
    (c_MOST_TICKS : nsIn K mainGlobals "MOST_TICKS" = some (some (.int 1000000000000 t_MOST_TICKS)))
    (c_MOST_ROUNDS : nsIn K mainGlobals "MOST_ROUNDS" = some (some (.int 1000000000000000000 t_MOST_ROUNDS)))
    (c_MOST_BESIDE : nsIn K mainGlobals "MOST_BESIDE" = some (some (.int 20 t_MOST_BESIDE)))
    (c_MOST_ITEMS : nsIn K mainGlobals "MOST_ITEMS" = some (some (.int 60 t_MOST_ITEMS)))
    (c_MOST_DEEP : nsIn K mainGlobals "MOST_DEEP" = some (some (.int 5 t_MOST_DEEP)))
    (AL_length_programs : nsIn K mainGlobals "length_programs" = some (some (.ref g22)))
    (AL_totals_programs : nsIn K mainGlobals "totals_programs" = some (some (.ref g25)))
    (aC30 : nsIn K mainGlobals "Bench" = some (some (.ref C30)))
    (A30_0 : PySem.W.findIn K (.ref C30) "__init__" = some (some (.ref g30_0)))
    (L30_0 : K.lookup g30_0 = some ⟨oce30_0, ode30_0, .func (PySem.W.fnOf "__init__" "Bench.__init__" (defArgs (inClass (topS 30) 0)) (defBody (inClass (topS 30) 0)) (defScope (inClass (topS 30) 0)) .none kVe30_0 dce30_0 pme30_0 ane30_0 cde30_0 cte30_0), sle30_0⟩)
    (H30_0 : methB K g30_0 cde30_0 "Bench.__init__" = true)
    (A30_1 : PySem.W.findIn K (.ref C30) "__eq__" = some (some (.ref g30_1)))
    (L30_1 : K.lookup g30_1 = some ⟨oce30_1, ode30_1, .func (PySem.W.fnOf "__eq__" "Bench.__eq__" (defArgs (inClass (topS 30) 1)) (defBody (inClass (topS 30) 1)) (defScope (inClass (topS 30) 1)) .none kVe30_1 dce30_1 pme30_1 ane30_1 cde30_1 cte30_1), sle30_1⟩)
    (H30_1 : methB K g30_1 cde30_1 "Bench.__eq__" = true)
    (A30_2 : PySem.W.findIn K (.ref C30) "program" = some (some (.ref g30_2)))
    (L30_2 : K.lookup g30_2 = some ⟨oce30_2, ode30_2, .func (PySem.W.fnOf "program" "Bench.program" (defArgs (inClass (topS 30) 2)) (defBody (inClass (topS 30) 2)) (defScope (inClass (topS 30) 2)) .none kVe30_2 dce30_2 pme30_2 ane30_2 cde30_2 cte30_2), sle30_2⟩)
    (H30_2 : methB K g30_2 cde30_2 "Bench.program" = true)
    (A30_3 : PySem.W.findIn K (.ref C30) "length" = some (some (.ref g30_3)))
    (L30_3 : K.lookup g30_3 = some ⟨oce30_3, ode30_3, .func (PySem.W.fnOf "length" "Bench.length" (defArgs (inClass (topS 30) 3)) (defBody (inClass (topS 30) 3)) (defScope (inClass (topS 30) 3)) .none kVe30_3 dce30_3 pme30_3 ane30_3 cde30_3 cte30_3), sle30_3⟩)
    (H30_3 : methB K g30_3 cde30_3 "Bench.length" = true)
    (A30_4 : PySem.W.findIn K (.ref C30) "totals" = some (some (.ref g30_4)))
    (L30_4 : K.lookup g30_4 = some ⟨oce30_4, ode30_4, .func (PySem.W.fnOf "totals" "Bench.totals" (defArgs (inClass (topS 30) 4)) (defBody (inClass (topS 30) 4)) (defScope (inClass (topS 30) 4)) .none kVe30_4 dce30_4 pme30_4 ane30_4 cde30_4 cte30_4), sle30_4⟩)
    (H30_4 : methB K g30_4 cde30_4 "Bench.totals" = true)
    (A30_6 : PySem.W.findIn K (.ref C30) "replace" = some (some (.ref g30_6)))
    (L30_6 : K.lookup g30_6 = some ⟨oce30_6, ode30_6, .func (PySem.W.fnOf "replace" "Bench.replace" (defArgs (inClass (topS 30) 6)) (defBody (inClass (topS 30) 6)) (defScope (inClass (topS 30) 6)) .none kVe30_6 dce30_6 pme30_6 ane30_6 cde30_6 cte30_6), sle30_6⟩)
    (H30_6 : methB K g30_6 cde30_6 "Bench.replace" = true)
    (A30_7 : PySem.W.findIn K (.ref C30) "delete" = some (some (.ref g30_7)))
    (L30_7 : K.lookup g30_7 = some ⟨oce30_7, ode30_7, .func (PySem.W.fnOf "delete" "Bench.delete" (defArgs (inClass (topS 30) 7)) (defBody (inClass (topS 30) 7)) (defScope (inClass (topS 30) 7)) .none kVe30_7 dce30_7 pme30_7 ane30_7 cde30_7 cte30_7), sle30_7⟩)
    (H30_7 : methB K g30_7 cde30_7 "Bench.delete" = true)
    (A30_9 : PySem.W.findIn K (.ref C30) "undo" = some (some (.ref g30_9)))
    (L30_9 : K.lookup g30_9 = some ⟨oce30_9, ode30_9, .func (PySem.W.fnOf "undo" "Bench.undo" (defArgs (inClass (topS 30) 9)) (defBody (inClass (topS 30) 9)) (defScope (inClass (topS 30) 9)) .none kVe30_9 dce30_9 pme30_9 ane30_9 cde30_9 cte30_9), sle30_9⟩)
    (H30_9 : methB K g30_9 cde30_9 "Bench.undo" = true)
    (A30_10 : PySem.W.findIn K (.ref C30) "changes" = some (some (.ref g30_10)))
    (L30_10 : K.lookup g30_10 = some ⟨oce30_10, ode30_10, .func (PySem.W.fnOf "changes" "Bench.changes" (defArgs (inClass (topS 30) 10)) (defBody (inClass (topS 30) 10)) (defScope (inClass (topS 30) 10)) .none kVe30_10 dce30_10 pme30_10 ane30_10 cde30_10 cte30_10), sle30_10⟩)
    (H30_10 : methB K g30_10 cde30_10 "Bench.changes" = true)
    (A30_13 : PySem.W.findIn K (.ref C30) "copy" = some (some (.ref g30_13)))
    (L30_13 : K.lookup g30_13 = some ⟨oce30_13, ode30_13, .func (PySem.W.fnOf "copy" "Bench.copy" (defArgs (inClass (topS 30) 13)) (defBody (inClass (topS 30) 13)) (defScope (inClass (topS 30) 13)) .none kVe30_13 dce30_13 pme30_13 ane30_13 cde30_13 cte30_13), sle30_13⟩)
    (H30_13 : methB K g30_13 cde30_13 "Bench.copy" = true)
    (A30_14 : PySem.W.findIn K (.ref C30) "put" = some (some (.ref g30_14)))
    (L30_14 : K.lookup g30_14 = some ⟨oce30_14, ode30_14, .func (PySem.W.fnOf "put" "Bench.put" (defArgs (inClass (topS 30) 14)) (defBody (inClass (topS 30) 14)) (defScope (inClass (topS 30) 14)) .none kVe30_14 dce30_14 pme30_14 ane30_14 cde30_14 cte30_14), sle30_14⟩)
    (H30_14 : methB K g30_14 cde30_14 "Bench.put" = true)
    (A30_15 : PySem.W.findIn K (.ref C30) "change" = some (some (.ref g30_15)))
    (L30_15 : K.lookup g30_15 = some ⟨oce30_15, ode30_15, .func (PySem.W.fnOf "change" "Bench.change" (defArgs (inClass (topS 30) 15)) (defBody (inClass (topS 30) 15)) (defScope (inClass (topS 30) 15)) .none kVe30_15 dce30_15 pme30_15 ane30_15 cde30_15 cte30_15), sle30_15⟩)
    (H30_15 : methB K g30_15 cde30_15 "Bench.change" = true)
    (HC30 : clsB K C30 = true)
    (sa30 : PySem.W.findIn K (.ref C30) "__setattr__" = some (some (.builtin "object.__setattr__")))
    (no30_current : PySem.W.findIn K (.ref C30) "current" = some none)
    (no30_earlier : PySem.W.findIn K (.ref C30) "earlier" = some none)
    (Hb_eq : (beqB K C30) = true)
    (z_len : nsIn K mainGlobals "len" = some none)
    (z_abs : nsIn K mainGlobals "abs" = some none)
    (z_int : nsIn K mainGlobals "int" = some none)
    (z_bool : nsIn K mainGlobals "bool" = some none)
    (z_isinstance : nsIn K mainGlobals "isinstance" = some none)
    (z_range : nsIn K mainGlobals "range" = some none)
    (z_max : nsIn K mainGlobals "max" = some none)
    (z_min : nsIn K mainGlobals "min" = some none)
    (z_sum : nsIn K mainGlobals "sum" = some none)
    (z_repr : nsIn K mainGlobals "repr" = some none)
    (z_divmod : nsIn K mainGlobals "divmod" = some none)
    (z_tuple : nsIn K mainGlobals "tuple" = some none)
    (z_sorted : nsIn K mainGlobals "sorted" = some none)
    (z_set : nsIn K mainGlobals "set" = some none)
    (z_enumerate : nsIn K mainGlobals "enumerate" = some none)
    (z_zip : nsIn K mainGlobals "zip" = some none)
    (z_list : nsIn K mainGlobals "list" = some none)
    (z_dict : nsIn K mainGlobals "dict" = some none)
    (z_any : nsIn K mainGlobals "any" = some none)
    (z_all : nsIn K mainGlobals "all" = some none)
    (z_str : nsIn K mainGlobals "str" = some none)
    (z_reversed : nsIn K mainGlobals "reversed" = some none)
    : ∃ fd : FuncData, (∀ (s : Shared) (u : Value), BindsTo s fd ⟨[u], []⟩ [("_law_script", u)]) ∧
      ∀ base : Heap, K.In base → base.Ns mainGlobals mg → (∃ mm, base.Ns sysModules mm) → FnG P w K mg base CX0 20 fa fd ["_law_script"] (spLaw K) := by
  have e := hfa.symm.trans (PySem.W.mg_of X G A40)
  cases e
  obtain ⟨t9, u9, v9⟩ := initB_ok H9
  have F9 := fun_mk (st := topS 9) L9 u9 v9
  have m9 := PySem.W.mg_of X G A9
  have b9 := F9.binds (ps := ["value"]) fun _ _ _ _ _ _ us hl => match us, hl with | [_], _ => rfl
  obtain ⟨t10, u10, v10⟩ := initB_ok H10
  have F10 := fun_mk (st := topS 10) L10 u10 v10
  have m10 := PySem.W.mg_of X G A10
  have b10 := F10.binds (ps := ["value", "least", "most"]) fun _ _ _ _ _ _ us hl => match us, hl with | [_, _, _], _ => rfl
  obtain ⟨t18, u18, v18⟩ := initB_ok H18
  have F18 := fun_mk (st := topS 18) L18 u18 v18
  have m18 := PySem.W.mg_of X G A18
  have b18 := F18.binds (ps := ["value"]) fun _ _ _ _ _ _ us hl => match us, hl with | [_], _ => rfl
  obtain ⟨t19, u19, v19⟩ := initB_ok H19
  have F19 := fun_mk (st := topS 19) L19 u19 v19
  have m19 := PySem.W.mg_of X G A19
  have b19 := F19.binds (ps := ["items", "depth", "room"]) fun _ _ _ _ _ _ us hl => match us, hl with | [_, _, _], _ => rfl
  obtain ⟨t20, u20, v20⟩ := initB_ok H20
  have F20 := fun_mk (st := topS 20) L20 u20 v20
  have m20 := PySem.W.mg_of X G A20
  have b20 := F20.binds (ps := ["item", "depth", "room"]) fun _ _ _ _ _ _ us hl => match us, hl with | [_, _, _], _ => rfl
  obtain ⟨t21, u21, v21⟩ := initB_ok H21
  have F21 := fun_mk (st := topS 21) L21 u21 v21
  have m21 := PySem.W.mg_of X G A21
  have b21 := F21.binds (ps := ["value"]) fun _ _ _ _ _ _ us hl => match us, hl with | [_], _ => rfl
  obtain ⟨t22, u22, v22⟩ := initB_ok H22
  have F22 := fun_mk (st := topS 22) L22 u22 v22
  have m22 := PySem.W.mg_of X G A22
  have b22 := F22.binds (ps := ["program"]) fun _ _ _ _ _ _ us hl => match us, hl with | [_], _ => rfl
  obtain ⟨t24, u24, v24⟩ := initB_ok H24
  have F24 := fun_mk (st := topS 24) L24 u24 v24
  have m24 := PySem.W.mg_of X G A24
  have b24 := F24.binds (ps := ["program"]) fun _ _ _ _ _ _ us hl => match us, hl with | [_], _ => rfl
  obtain ⟨t25, u25, v25⟩ := initB_ok H25
  have F25 := fun_mk (st := topS 25) L25 u25 v25
  have m25 := PySem.W.mg_of X G A25
  have b25 := F25.binds (ps := ["program"]) fun _ _ _ _ _ _ us hl => match us, hl with | [_], _ => rfl
  obtain ⟨t27, u27, v27⟩ := initB_ok H27
  have F27 := fun_mk (st := topS 27) L27 u27 v27
  have m27 := PySem.W.mg_of X G A27
  have b27 := F27.binds (ps := ["items", "rounds"]) fun _ _ _ _ _ _ us hl => match us, hl with | [_, _], _ => rfl
  obtain ⟨t28, u28, v28⟩ := initB_ok H28
  have F28 := fun_mk (st := topS 28) L28 u28 v28
  have m28 := PySem.W.mg_of X G A28
  have b28 := F28.binds (ps := ["program", "pairs"]) fun _ _ _ _ _ _ us hl => match us, hl with | [_, _], _ => rfl
  obtain ⟨t31, u31, v31⟩ := initB_ok H31
  have F31 := fun_mk (st := topS 31) L31 u31 v31
  have m31 := PySem.W.mg_of X G A31
  have b31 := F31.binds (ps := ["value", "least", "most"]) fun _ _ _ _ _ _ us hl => match us, hl with | [_, _, _], _ => rfl
  obtain ⟨t33, u33, v33⟩ := initB_ok H33
  have F33 := fun_mk (st := topS 33) L33 u33 v33
  have m33 := PySem.W.mg_of X G A33
  have b33 := F33.binds (ps := ["_law_script", "_law_k"]) fun _ _ _ _ _ _ us hl => match us, hl with | [_, _], _ => rfl
  obtain ⟨t34, u34, v34⟩ := initB_ok H34
  have F34 := fun_mk (st := topS 34) L34 u34 v34
  have m34 := PySem.W.mg_of X G A34
  have b34 := F34.binds (ps := ["_law_stream_here", "_law_many"]) fun _ _ _ _ _ _ us hl => match us, hl with | [_, _], _ => rfl
  obtain ⟨t35, u35, v35⟩ := initB_ok H35
  have F35 := fun_mk (st := topS 35) L35 u35 v35
  have m35 := PySem.W.mg_of X G A35
  have b35 := F35.binds (ps := ["_law_stream_here", "_law_some"]) fun _ _ _ _ _ _ us hl => match us, hl with | [_, _], _ => rfl
  obtain ⟨t36, u36, v36⟩ := initB_ok H36
  have F36 := fun_mk (st := topS 36) L36 u36 v36
  have m36 := PySem.W.mg_of X G A36
  have b36 := F36.binds (ps := ["_law_stream_here", "_law_most"]) fun _ _ _ _ _ _ us hl => match us, hl with | [_, _], _ => rfl
  obtain ⟨t37, u37, v37⟩ := initB_ok H37
  have F37 := fun_mk (st := topS 37) L37 u37 v37
  have m37 := PySem.W.mg_of X G A37
  have b37 := F37.binds (ps := ["_law_stream_here", "_law_many", "_law_deep", "_law_ticks", "_law_rounds"]) fun _ _ _ _ _ _ us hl => match us, hl with | [_, _, _, _, _], _ => rfl
  obtain ⟨t38, u38, v38⟩ := initB_ok H38
  have F38 := fun_mk (st := topS 38) L38 u38 v38
  have m38 := PySem.W.mg_of X G A38
  have b38 := F38.binds (ps := ["_law_stream_here", "_law_bench", "_law_many"]) fun _ _ _ _ _ _ us hl => match us, hl with | [_, _, _], _ => rfl
  obtain ⟨t39, u39, v39⟩ := initB_ok H39
  have F39 := fun_mk (st := topS 39) L39 u39 v39
  have m39 := PySem.W.mg_of X G A39
  have b39 := F39.binds (ps := ["_law_bench"]) fun _ _ _ _ _ _ us hl => match us, hl with | [_], _ => rfl
  obtain ⟨t40, u40, v40⟩ := initB_ok H40
  have F40 := fun_mk (st := topS 40) L40 u40 v40
  have m40 := PySem.W.mg_of X G A40
  have m_length_programs := PySem.W.mg_of X G AL_length_programs
  have m_totals_programs := PySem.W.mg_of X G AL_totals_programs
  obtain ⟨pg30, hd30, po30, mk30, kc30⟩ := clsB_ok HC30
  have cl30 : Cls K C30 := ⟨pg30, hd30, po30, sa30⟩
  have mC30 := PySem.W.mg_of X G aC30
  obtain ⟨i30_0, u30_0, v30_0⟩ := methB_ok H30_0
  have F30_0 := fun_mk (st := inClass (topS 30) 0) L30_0 u30_0 v30_0
  have b30_0 := F30_0.binds (ps := ["self", "program"]) fun _ _ _ _ _ _ us hl => match us, hl with | [_, _], _ => rfl
  obtain ⟨i30_1, u30_1, v30_1⟩ := methB_ok H30_1
  have F30_1 := fun_mk (st := inClass (topS 30) 1) L30_1 u30_1 v30_1
  have b30_1 := F30_1.binds (ps := ["self", "other"]) fun _ _ _ _ _ _ us hl => match us, hl with | [_, _], _ => rfl
  have D_Bench___eq__ : MDef K C30 "__eq__" "Bench.__eq__" (inClass (topS 30) 1) ["self", "other"] := ⟨_, _, F30_1, b30_1, ⟨A30_1, i30_1, v30_1⟩⟩
  obtain ⟨i30_2, u30_2, v30_2⟩ := methB_ok H30_2
  have F30_2 := fun_mk (st := inClass (topS 30) 2) L30_2 u30_2 v30_2
  have b30_2 := F30_2.binds (ps := ["self"]) fun _ _ _ _ _ _ us hl => match us, hl with | [_], _ => rfl
  have D_Bench_program : MDef K C30 "program" "Bench.program" (inClass (topS 30) 2) ["self"] := ⟨_, _, F30_2, b30_2, ⟨A30_2, i30_2, v30_2⟩⟩
  obtain ⟨i30_3, u30_3, v30_3⟩ := methB_ok H30_3
  have F30_3 := fun_mk (st := inClass (topS 30) 3) L30_3 u30_3 v30_3
  have b30_3 := F30_3.binds (ps := ["self"]) fun _ _ _ _ _ _ us hl => match us, hl with | [_], _ => rfl
  have D_Bench_length : MDef K C30 "length" "Bench.length" (inClass (topS 30) 3) ["self"] := ⟨_, _, F30_3, b30_3, ⟨A30_3, i30_3, v30_3⟩⟩
  obtain ⟨i30_4, u30_4, v30_4⟩ := methB_ok H30_4
  have F30_4 := fun_mk (st := inClass (topS 30) 4) L30_4 u30_4 v30_4
  have b30_4 := F30_4.binds (ps := ["self"]) fun _ _ _ _ _ _ us hl => match us, hl with | [_], _ => rfl
  have D_Bench_totals : MDef K C30 "totals" "Bench.totals" (inClass (topS 30) 4) ["self"] := ⟨_, _, F30_4, b30_4, ⟨A30_4, i30_4, v30_4⟩⟩
  obtain ⟨i30_6, u30_6, v30_6⟩ := methB_ok H30_6
  have F30_6 := fun_mk (st := inClass (topS 30) 6) L30_6 u30_6 v30_6
  have b30_6 := F30_6.binds (ps := ["self", "index", "item"]) fun _ _ _ _ _ _ us hl => match us, hl with | [_, _, _], _ => rfl
  have D_Bench_replace : MDef K C30 "replace" "Bench.replace" (inClass (topS 30) 6) ["self", "index", "item"] := ⟨_, _, F30_6, b30_6, ⟨A30_6, i30_6, v30_6⟩⟩
  obtain ⟨i30_7, u30_7, v30_7⟩ := methB_ok H30_7
  have F30_7 := fun_mk (st := inClass (topS 30) 7) L30_7 u30_7 v30_7
  have b30_7 := F30_7.binds (ps := ["self", "index"]) fun _ _ _ _ _ _ us hl => match us, hl with | [_, _], _ => rfl
  have D_Bench_delete : MDef K C30 "delete" "Bench.delete" (inClass (topS 30) 7) ["self", "index"] := ⟨_, _, F30_7, b30_7, ⟨A30_7, i30_7, v30_7⟩⟩
  obtain ⟨i30_9, u30_9, v30_9⟩ := methB_ok H30_9
  have F30_9 := fun_mk (st := inClass (topS 30) 9) L30_9 u30_9 v30_9
  have b30_9 := F30_9.binds (ps := ["self"]) fun _ _ _ _ _ _ us hl => match us, hl with | [_], _ => rfl
  have D_Bench_undo : MDef K C30 "undo" "Bench.undo" (inClass (topS 30) 9) ["self"] := ⟨_, _, F30_9, b30_9, ⟨A30_9, i30_9, v30_9⟩⟩
  obtain ⟨i30_10, u30_10, v30_10⟩ := methB_ok H30_10
  have F30_10 := fun_mk (st := inClass (topS 30) 10) L30_10 u30_10 v30_10
  have b30_10 := F30_10.binds (ps := ["self"]) fun _ _ _ _ _ _ us hl => match us, hl with | [_], _ => rfl
  have D_Bench_changes : MDef K C30 "changes" "Bench.changes" (inClass (topS 30) 10) ["self"] := ⟨_, _, F30_10, b30_10, ⟨A30_10, i30_10, v30_10⟩⟩
  obtain ⟨i30_13, u30_13, v30_13⟩ := methB_ok H30_13
  have F30_13 := fun_mk (st := inClass (topS 30) 13) L30_13 u30_13 v30_13
  have b30_13 := F30_13.binds (ps := ["self"]) fun _ _ _ _ _ _ us hl => match us, hl with | [_], _ => rfl
  have D_Bench_copy : MDef K C30 "copy" "Bench.copy" (inClass (topS 30) 13) ["self"] := ⟨_, _, F30_13, b30_13, ⟨A30_13, i30_13, v30_13⟩⟩
  obtain ⟨i30_14, u30_14, v30_14⟩ := methB_ok H30_14
  have F30_14 := fun_mk (st := inClass (topS 30) 14) L30_14 u30_14 v30_14
  have b30_14 := F30_14.binds (ps := ["self", "first", "stop", "item"]) fun _ _ _ _ _ _ us hl => match us, hl with | [_, _, _, _], _ => rfl
  have D_Bench_put : MDef K C30 "put" "Bench.put" (inClass (topS 30) 14) ["self", "first", "stop", "item"] := ⟨_, _, F30_14, b30_14, ⟨A30_14, i30_14, v30_14⟩⟩
  obtain ⟨i30_15, u30_15, v30_15⟩ := methB_ok H30_15
  have F30_15 := fun_mk (st := inClass (topS 30) 15) L30_15 u30_15 v30_15
  have b30_15 := F30_15.binds (ps := ["self", "program"]) fun _ _ _ _ _ _ us hl => match us, hl with | [_, _], _ => rfl
  have D_Bench_change : MDef K C30 "change" "Bench.change" (inClass (topS 30) 15) ["self", "program"] := ⟨_, _, F30_15, b30_15, ⟨A30_15, i30_15, v30_15⟩⟩
  have k_MOST_LETTERS := PySem.W.mg_of X G c_MOST_LETTERS
  have k_MOST_TICKS := PySem.W.mg_of X G c_MOST_TICKS
  have k_MOST_ROUNDS := PySem.W.mg_of X G c_MOST_ROUNDS
  have k_MOST_BESIDE := PySem.W.mg_of X G c_MOST_BESIDE
  have k_MOST_ITEMS := PySem.W.mg_of X G c_MOST_ITEMS
  have k_MOST_DEEP := PySem.W.mg_of X G c_MOST_DEEP
  have n_len := PySem.W.mg_none_of X G z_len
  have n_abs := PySem.W.mg_none_of X G z_abs
  have n_int := PySem.W.mg_none_of X G z_int
  have n_bool := PySem.W.mg_none_of X G z_bool
  have n_isinstance := PySem.W.mg_none_of X G z_isinstance
  have n_range := PySem.W.mg_none_of X G z_range
  have n_max := PySem.W.mg_none_of X G z_max
  have n_min := PySem.W.mg_none_of X G z_min
  have n_sum := PySem.W.mg_none_of X G z_sum
  have n_repr := PySem.W.mg_none_of X G z_repr
  have n_divmod := PySem.W.mg_none_of X G z_divmod
  have n_tuple := PySem.W.mg_none_of X G z_tuple
  have n_sorted := PySem.W.mg_none_of X G z_sorted
  have n_set := PySem.W.mg_none_of X G z_set
  have n_enumerate := PySem.W.mg_none_of X G z_enumerate
  have n_zip := PySem.W.mg_none_of X G z_zip
  have n_list := PySem.W.mg_none_of X G z_list
  have n_dict := PySem.W.mg_none_of X G z_dict
  have n_any := PySem.W.mg_none_of X G z_any
  have n_all := PySem.W.mg_none_of X G z_all
  have n_str := PySem.W.mg_none_of X G z_str
  have n_reversed := PySem.W.mg_none_of X G z_reversed
  have nb : NB mg := fun x hx => by
    rw [nbs] at hx
    rcases List.mem_cons.mp hx with rfl | hx
    · exact n_len
    rcases List.mem_cons.mp hx with rfl | hx
    · exact n_abs
    rcases List.mem_cons.mp hx with rfl | hx
    · exact n_int
    rcases List.mem_cons.mp hx with rfl | hx
    · exact n_bool
    rcases List.mem_cons.mp hx with rfl | hx
    · exact n_isinstance
    rcases List.mem_cons.mp hx with rfl | hx
    · exact n_range
    rcases List.mem_cons.mp hx with rfl | hx
    · exact n_max
    rcases List.mem_cons.mp hx with rfl | hx
    · exact n_min
    rcases List.mem_cons.mp hx with rfl | hx
    · exact n_sum
    rcases List.mem_cons.mp hx with rfl | hx
    · exact n_repr
    rcases List.mem_cons.mp hx with rfl | hx
    · exact n_divmod
    rcases List.mem_cons.mp hx with rfl | hx
    · exact n_tuple
    rcases List.mem_cons.mp hx with rfl | hx
    · exact n_sorted
    rcases List.mem_cons.mp hx with rfl | hx
    · exact n_set
    rcases List.mem_cons.mp hx with rfl | hx
    · exact n_enumerate
    rcases List.mem_cons.mp hx with rfl | hx
    · exact n_zip
    rcases List.mem_cons.mp hx with rfl | hx
    · exact n_list
    rcases List.mem_cons.mp hx with rfl | hx
    · exact n_dict
    rcases List.mem_cons.mp hx with rfl | hx
    · exact n_any
    rcases List.mem_cons.mp hx with rfl | hx
    · exact n_all
    rcases List.mem_cons.mp hx with rfl | hx
    · exact n_str
    rcases List.mem_cons.mp hx with rfl | hx
    · exact n_reversed
    cases hx
  refine ⟨PySem.W.fnOf "law" "law" (defArgs (topS 40)) (defBody (topS 40)) (defScope (topS 40)) .none kVe40 dce40 pme40 ane40 cde40 cte40, fun s u => .of_eq rfl, fun base XB _ hm => ?_⟩
  have D_is_whole : Def K mg "is_whole" (topS 9) ["value"] := ⟨_, _, F9, b9, m9⟩
  have D_is_integer_within : Def K mg "is_integer_within" (topS 10) ["value", "least", "most"] := ⟨_, _, F10, b10, m10⟩
  have D_is_program : Def K mg "is_program" (topS 18) ["value"] := ⟨_, _, F18, b18, m18⟩
  have D_room_behind_items : Def K mg "room_behind_items" (topS 19) ["items", "depth", "room"] := ⟨_, _, F19, b19, m19⟩
  have D_room_behind : Def K mg "room_behind" (topS 20) ["item", "depth", "room"] := ⟨_, _, F20, b20, m20⟩
  have D_is_name : Def K mg "is_name" (topS 21) ["value"] := ⟨_, _, F21, b21, m21⟩
  have D_length : Def K mg "length" (topS 22) ["program"] := ⟨_, _, F22, b22, m22⟩
  have D_lines_of : Def K mg "lines_of" (topS 24) ["program"] := ⟨_, _, F24, b24, m24⟩
  have D_totals : Def K mg "totals" (topS 25) ["program"] := ⟨_, _, F25, b25, m25⟩
  have D_spent : Def K mg "spent" (topS 27) ["items", "rounds"] := ⟨_, _, F27, b27, m27⟩
  have D_added_up : Def K mg "added_up" (topS 28) ["program", "pairs"] := ⟨_, _, F28, b28, m28⟩
  have D_check_index : Def K mg "check_index" (topS 31) ["value", "least", "most"] := ⟨_, _, F31, b31, m31⟩
  have D__law_stream : Def K mg "_law_stream" (topS 33) ["_law_script", "_law_k"] := ⟨_, _, F33, b33, m33⟩
  have D__law_draw : Def K mg "_law_draw" (topS 34) ["_law_stream_here", "_law_many"] := ⟨_, _, F34, b34, m34⟩
  have D__law_pick : Def K mg "_law_pick" (topS 35) ["_law_stream_here", "_law_some"] := ⟨_, _, F35, b35, m35⟩
  have D__law_line : Def K mg "_law_line" (topS 36) ["_law_stream_here", "_law_most"] := ⟨_, _, F36, b36, m36⟩
  have D__law_items : Def K mg "_law_items" (topS 37) ["_law_stream_here", "_law_many", "_law_deep", "_law_ticks", "_law_rounds"] := ⟨_, _, F37, b37, m37⟩
  have D__law_led : Def K mg "_law_led" (topS 38) ["_law_stream_here", "_law_bench", "_law_many"] := ⟨_, _, F38, b38, m38⟩
  have D__law_facts : Def K mg "_law_facts" (topS 39) ["_law_bench"] := ⟨_, _, F39, b39, m39⟩
  have Flaw := F40
  have hB : Room2 64 5 := ⟨by decide, by decide⟩
  have GS := ok_spent (P := P) (w := w) (base := base) (B := 64) F27 b27 m27 5
  have GLe := ok_len hB F22 GS b27 m27 v27 n_sum
  have GLi := ok_lines hB F24 GS b27 m27 v27 n_tuple n_sorted
  have GAd := ok_added F28 GLi b24 m24 v24 n_tuple
  have GTo := ok_tot hB F25 GS b27 m27 v27 GAd b28 m28 v28
  have GWh := ok_wh (P := P) (w := w) (base := base) F9 n_isinstance n_int n_bool
  have GIn := ok_in F10 GWh b9 m9 v9
  have GNm := ok_name (P := P) (w := w) (base := base) F21 n_isinstance n_str n_len n_all k_MOST_LETTERS
  have GRI := ok_ri F19 F20 GNm b21 m21 v21 GIn b10 m10 v10 b19 m19 b20 m20 n_isinstance n_tuple n_len k_MOST_TICKS k_MOST_ROUNDS k_MOST_BESIDE 5
  have GP := ok_prog F18 GRI b19 m19 v19 k_MOST_DEEP k_MOST_ITEMS
  have GC := ok_ci F31 GIn b10 m10 v10
  have T : BTx K mg C30 := ⟨cl30, no30_current, no30_earlier⟩
  have GI := ok_bI T F30_0 GP b18 m18 v18
  have KB : KCal P w K mg base 16 C30 "Bench" ["self", "program"] (spBI K C30) := ⟨_, _, GI, b30_0, ⟨mk30, A30_0, i30_0, kc30⟩, mC30⟩
  have MP := ok_bP (P := P) (w := w) (base := base) T D_Bench_program
  have MN := ok_bN (P := P) (w := w) (base := base) T nb D_Bench_changes
  have ML := ok_bL T GLe b22 m_length_programs v22 D_Bench_length
  have MT := ok_bT T GTo b25 m_totals_programs v25 D_Bench_totals
  have MC := ok_bC (P := P) (w := w) (base := base) T D_Bench_change
  have MU := ok_bU T MC GP b18 m18 v18 D_Bench_put
  have MR := ok_bRe T nb MU GC b31 m31 v31 D_Bench_replace
  have MD := ok_bD T nb MC GC b31 m31 v31 D_Bench_delete
  have BQ : BEq K mg C30 := beqB_ok Hb_eq mC30
  have ME := ok_bE (P := P) (w := w) (base := base) T BQ nb D_Bench___eq__
  have MX := ok_bUg (P := P) (w := w) (base := base) T nb D_Bench_undo
  have MY := ok_bY T nb KB D_Bench_copy
  have C1 := ok_stream (P := P) (w := w) (base := base) D__law_stream nb
  have C2 := ok_draw (P := P) (w := w) (base := base) D__law_draw nb
  have C3 := ok_pick D__law_pick C2 nb
  have C4 := ok_line D__law_line C2 C3 nb
  have C5 := ok_itemsB D__law_items C2 C4 nb 2
  have C6 := ok_fc T hm D__law_facts MP MN ML MT nb
  have C7 := ok_ld T D__law_led C2 C4 MP MN MX MR MD nb
  exact ok_law T BQ Flaw C1 C2 C5 C7 C6 KB MP MN MY MX ME nb
end Ev

open PySem PySem.W PyProof.Rows
set_option maxRecDepth 100000 in
set_option maxHeartbeats 0 in
theorem PySem.Challenge.cw_evensamples_k56_benches_copied_and_compa_holds : PySem.Challenge.rw_evensamples_k56_benches_copied_and_compa.Holds := by
  w_on; o_law; k_head; (case hw => w_witness2)
  k_fill
  refine Ev.walkG (l := PySem.Challenge.rw_evensamples_k56_benches_copied_and_compa) (n := 63) (k := 20) (x := "_law_script") (CX := L2.CX0) (sp := Ev.spLaw) ?noImports rfl (by decide) rfl ⟨rfl, by decide, by decide⟩ (fun w h Y => PySem.W.kIn_of Y) ?F
    (fun _ _ a ns _ _ hS => ⟨a, ns, rfl, hS, fun _ => rfl⟩) (fun _ _ _ _ h => h)
  case noImports => decide +kernel
  case F =>
    intro w mg fa h KX G hmg
    refine' Ev.all_mk KX G hmg ?A9 ?L9 ?H9 ?A10 ?L10 ?H10 ?A18 ?L18 ?H18 ?A19 ?L19 ?H19 ?A20 ?L20 ?H20 ?A21 ?L21 ?H21 ?A22 ?L22 ?H22 ?A24 ?L24 ?H24 ?A25 ?L25 ?H25 ?A27 ?L27 ?H27 ?A28 ?L28 ?H28 ?A31 ?L31 ?H31 ?A33 ?L33 ?H33 ?A34 ?L34 ?H34 ?A35 ?L35 ?H35 ?A36 ?L36 ?H36 ?A37 ?L37 ?H37 ?A38 ?L38 ?H38 ?A39 ?L39 ?H39 ?A40 ?L40 ?H40 ?c_MOST_LETTERS ?c_MOST_TICKS ?c_MOST_ROUNDS ?c_MOST_BESIDE ?c_MOST_ITEMS ?c_MOST_DEEP ?AL_length_programs ?AL_totals_programs ?aC30 ?A30_0 ?L30_0 ?H30_0 ?A30_1 ?L30_1 ?H30_1 ?A30_2 ?L30_2 ?H30_2 ?A30_3 ?L30_3 ?H30_3 ?A30_4 ?L30_4 ?H30_4 ?A30_6 ?L30_6 ?H30_6 ?A30_7 ?L30_7 ?H30_7 ?A30_9 ?L30_9 ?H30_9 ?A30_10 ?L30_10 ?H30_10 ?A30_13 ?L30_13 ?H30_13 ?A30_14 ?L30_14 ?H30_14 ?A30_15 ?L30_15 ?H30_15 ?HC30 ?sa30 ?no30_current ?no30_earlier ?Hb_eq ?z_len ?z_abs ?z_int ?z_bool ?z_isinstance ?z_range ?z_max ?z_min ?z_sum ?z_repr ?z_divmod ?z_tuple ?z_sorted ?z_set ?z_enumerate ?z_zip ?z_list ?z_dict ?z_any ?z_all ?z_str ?z_reversed
    (case A9 => k_is)
    (case L9 => k_is)
    (case H9 => kernel_rfl)
    (case A10 => k_is)
    (case L10 => k_is)
    (case H10 => kernel_rfl)
    (case A18 => k_is)
    (case L18 => k_is)
    (case H18 => kernel_rfl)
    (case A19 => k_is)
    (case L19 => k_is)
    (case H19 => kernel_rfl)
    (case A20 => k_is)
    (case L20 => k_is)
    (case H20 => kernel_rfl)
    (case A21 => k_is)
    (case L21 => k_is)
    (case H21 => kernel_rfl)
    (case A22 => k_is)
    (case L22 => k_is)
    (case H22 => kernel_rfl)
    (case A24 => k_is)
    (case L24 => k_is)
    (case H24 => kernel_rfl)
    (case A25 => k_is)
    (case L25 => k_is)
    (case H25 => kernel_rfl)
    (case A27 => k_is)
    (case L27 => k_is)
    (case H27 => kernel_rfl)
    (case A28 => k_is)
    (case L28 => k_is)
    (case H28 => kernel_rfl)
    (case A31 => k_is)
    (case L31 => k_is)
    (case H31 => kernel_rfl)
    (case A33 => k_is)
    (case L33 => k_is)
    (case H33 => kernel_rfl)
    (case A34 => k_is)
    (case L34 => k_is)
    (case H34 => kernel_rfl)
    (case A35 => k_is)
    (case L35 => k_is)
    (case H35 => kernel_rfl)
    (case A36 => k_is)
    (case L36 => k_is)
    (case H36 => kernel_rfl)
    (case A37 => k_is)
    (case L37 => k_is)
    (case H37 => kernel_rfl)
    (case A38 => k_is)
    (case L38 => k_is)
    (case H38 => kernel_rfl)
    (case A39 => k_is)
    (case L39 => k_is)
    (case H39 => kernel_rfl)
    (case A40 => k_is)
    (case L40 => k_is)
    (case H40 => kernel_rfl)
    (case c_MOST_LETTERS => k_is)
    (case c_MOST_TICKS => k_is)
    (case c_MOST_ROUNDS => k_is)
    (case c_MOST_BESIDE => k_is)
    (case c_MOST_ITEMS => k_is)
    (case c_MOST_DEEP => k_is)
    (case AL_length_programs => k_is)
    (case AL_totals_programs => k_is)
    (case aC30 => k_is)
    (case A30_0 => k_is)
    (case L30_0 => k_is)
    (case H30_0 => kernel_rfl)
    (case A30_1 => k_is)
    (case L30_1 => k_is)
    (case H30_1 => kernel_rfl)
    (case A30_2 => k_is)
    (case L30_2 => k_is)
    (case H30_2 => kernel_rfl)
    (case A30_3 => k_is)
    (case L30_3 => k_is)
    (case H30_3 => kernel_rfl)
    (case A30_4 => k_is)
    (case L30_4 => k_is)
    (case H30_4 => kernel_rfl)
    (case A30_6 => k_is)
    (case L30_6 => k_is)
    (case H30_6 => kernel_rfl)
    (case A30_7 => k_is)
    (case L30_7 => k_is)
    (case H30_7 => kernel_rfl)
    (case A30_9 => k_is)
    (case L30_9 => k_is)
    (case H30_9 => kernel_rfl)
    (case A30_10 => k_is)
    (case L30_10 => k_is)
    (case H30_10 => kernel_rfl)
    (case A30_13 => k_is)
    (case L30_13 => k_is)
    (case H30_13 => kernel_rfl)
    (case A30_14 => k_is)
    (case L30_14 => k_is)
    (case H30_14 => kernel_rfl)
    (case A30_15 => k_is)
    (case L30_15 => k_is)
    (case H30_15 => kernel_rfl)
    (case HC30 => kernel_rfl)
    (case sa30 => k_is)
    (case no30_current => k_is)
    (case no30_earlier => k_is)
    (case Hb_eq => kernel_rfl)
    (case z_len => k_is)
    (case z_abs => k_is)
    (case z_int => k_is)
    (case z_bool => k_is)
    (case z_isinstance => k_is)
    (case z_range => k_is)
    (case z_max => k_is)
    (case z_min => k_is)
    (case z_sum => k_is)
    (case z_repr => k_is)
    (case z_divmod => k_is)
    (case z_tuple => k_is)
    (case z_sorted => k_is)
    (case z_set => k_is)
    (case z_enumerate => k_is)
    (case z_zip => k_is)
    (case z_list => k_is)
    (case z_dict => k_is)
    (case z_any => k_is)
    (case z_all => k_is)
    (case z_str => k_is)
    (case z_reversed => k_is)

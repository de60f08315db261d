import PyProof.Rows.All
import Wide.All
import OpenK.AllK
import Wide.FinOn
import PySem.Challenge.RW_evensamples_k02_ticks_of_small_programs
import HandS.ForMost
import HandS.Wide
import HandS.More
import HandS.Set
import HandS.SetBool
import HandS.SetFor
import HandS.TupSets
import HandS.IsInst
import HandS.TupAny
import HandS.TupMul
import HandS.DictComp
import HandS.WideBits
import PyProof.NeKinds
import PyProof.EqKinds
import PyProof.FactsAll.dict
import KE.KEqNest
import HandS.Walk
import PyProof.P3Eq
set_option Elab.async false
set_option linter.all false
set_option maxRecDepth 100000
set_option maxHeartbeats 4000000
/-! ## Promises of defs that are called while no repr is under way -/
namespace Ev
open PySem PySem.Spec PyProof.Rows L2

/-- the promise of a def, for a stack without a repr that is under way -/
structure FnG (P : Program) (w : World) (K : PySem.W.Frag) (mg : Str → Option Value)
    (base : Heap) (CX : CXT) (k : Nat) (f : Addr) (fd : FuncData) (ps : List Str) (sp : Sp) : Prop where
  many : ∀ vs H Q E, sp vs H Q E → vs.length = ps.length
  go : ∀ (A : Around) (outer : List Env) (s : Shared) (H : Hp) (args : Args)
      (us : List Value) (vs : List V) (Q : VK) (E : XK),
    Room k A → A.guards = some [] → Env0 P w K mg base A outer s H → BindsTo s fd args (ps.zip us) →
      Vals vs us → sp vs H Q E → codeAny (model P w) A (.call (.ref f) args) (CR CX outer P w H s Q E) s

section
variable {P : Program} {w : World} {K : PySem.W.Frag} {mg : Str → Option Value} {base : Heap} {CX : CXT}
variable {k : Nat} {f : Addr} {fd : FuncData} {ps : List Str} {sp : Sp}
theorem FnG.of (F : FnOk P w K mg base CX k f fd ps sp) : FnG P w K mg base CX k f fd ps sp :=
  ⟨F.len, fun A o s H args us vs Q E hr _ => F.run A o s H args us vs Q E hr⟩
theorem FnG.up {j : Nat} (F : FnG P w K mg base CX j f fd ps sp) (h : j ≤ k) : FnG P w K mg base CX k f fd ps sp :=
  ⟨F.many, fun A o s H args us vs Q E hr => F.go A o s H args us vs Q E (hr.mono h)⟩
end

section
variable {X : Cx} {CX : CXT} {k : Nat} {f : Addr} {fd : FuncData} {ps : List Str} {sp : Sp}
variable {dvs : List V} {ds : List Value} {E : XK} {x : Str} {p pos : Pos} {e : Expr} {es : List Expr} {t : TA}
theorem runG {pins : List (Addr × Obj)} {σ : L2.St} {H : Hp} {s : Shared} {Q : VK} {us : List Value} {vs : List V}
    (F : FnG X.prog X.w X.K X.mg X.base CX k f fd ps sp) (hr : Room k X.A) (gd : X.A.guards = some [])
    (hb : Binds X.K fd ps ds) (hd : Vals dvs ds) (hx : Passes CX X E) (I : Inv X pins σ H s) (r : Vals vs us)
    (h : sp (vs ++ dvs) H Q E) : wpAny (model X.prog X.w) X.A (call (.ref f) us) (EP X pins σ Q) X.xe s := by
  have rr : Vals (vs ++ dvs) (us ++ ds) := r.append hd
  have hl : (us ++ ds).length = ps.length := rr.length.symm.trans (F.many _ _ _ _ h)
  have z := F.go X.A X.stack s H ⟨us, []⟩ (us ++ ds) (vs ++ dvs) Q E hr gd I.env0 (hb s us I.kIn hl) rr h
  refine wpAny_call (codeAny_mono z fun res s' hq => ?_)
  match res, hq with
  | .error e, hq => exact hx pins σ H s e s' I hq
  | .ok (.ret u), hq => exact I.after hq
  | .ok .next, hq => exact False.elim hq
  | .ok .brk, hq => exact False.elim hq
  | .ok .cont, hq => exact False.elim hq
theorem pe_callG (F : FnG X.prog X.w X.K X.mg X.base CX k f fd ps sp) (hr : Room k X.A) (gd : X.A.guards = some [])
    (hg : Gl X x) (hm : X.mg x = some (.ref f)) (hk : PySem.W.keepIn X.K (.ref f) = true) (hb : Binds X.K fd ps ds)
    (hd : Vals dvs ds) (hx : Passes CX X E) (ha : PA X (e :: es) t)
    (hdb : (x == ("__debug__" : Str)) = false := by decide)
    (he : starEach (e :: es) X.env = (false, eval e X.env) :: starEach es X.env := by rfl)
    (hpl : (backTo pos (starEach es X.env)).any (·.1) = false := by rfl) :
    PE X (.Call (.Name x p) (e :: es) [] pos) (tCall sp dvs E t) := by
  constructor
  intro pins s σ H Q I h
  refine wpAny_Call_Name_kw (ld_glob I hg hm ?_ hdb)
  have z := ha.run pos pins s σ H _ I h
  refine PySem.W.callWith_K (h₀ := X.base) I.ok.mod.kin hk (thn z ?_) he hpl
  rintro us s1 ⟨vs, H1, I1, r, q⟩
  exact ⟨I1.kIn, runG F hr gd hb hd hx I1 r q⟩
theorem pe_callG0 (F : FnG X.prog X.w X.K X.mg X.base CX k f fd ps sp) (hr : Room k X.A) (gd : X.A.guards = some [])
    (hg : Gl X x) (hm : X.mg x = some (.ref f)) (hk : PySem.W.keepIn X.K (.ref f) = true) (hb : Binds X.K fd ps ds)
    (hd : Vals dvs ds) (hx : Passes CX X E) (hdb : (x == ("__debug__" : Str)) = false := by decide) :
    PE X (.Call (.Name x p) [] [] pos) (tCall sp dvs E tNil) := by
  constructor
  intro pins s σ H Q I h
  refine wpAny_Call_Name_kw (ld_glob I hg hm ?_ hdb)
  have z := runG (us := []) F hr gd hb hd hx I .nil h
  exact PySem.W.callWith_K0 I.kIn hk z
end

/-- a def by its body -/
theorem fnG_of {CX : CXT} {P : Program} {w : World} {K : PySem.W.Frag} {mg : Str → Option Value} {base : Heap}
    {k : Nat} {f : Addr} {name qual : Str} {params : Arguments} {body : List Stmt} {scope : Scope}
    {dV kV doc pm cdv ct oc : Value} {an od : Option Addr} {osl : Array (Option Value)} {N ps : List Str} {sp : Sp}
    (lk : K.lookup f = some ⟨oc, od, .func (PySem.W.fnOf name qual params body scope dV kV doc pm an cdv ct), osl⟩)
    (hcd : PySem.W.codeIn K cdv qual = true) (S : FnScope N ps scope)
    (len : ∀ vs H Q E, sp vs H Q E → vs.length = ps.length)
    (hbody : ∀ (A : Around) (outer : List Env) (s : Shared) (H : Hp) (vs : List V) (Q : VK) (E : XK),
      Room k (A.deeper (envOfC qual scope s.heap.objs.size f cdv)) → A.guards = some [] → sp vs H Q E →
      ∃ t, PSs (cxOf CX P w K mg base N qual scope f cdv A outer s H E) body t ∧
        t { nx := fun _ H' => Q .non H', rt := Q } (start N vs) H) :
    FnG P w K mg base CX (k + 1) f (PySem.W.fnOf name qual params body scope dV kV doc pm an cdv ct) ps sp := by
  constructor
  · exact len
  intro A outer s H args us vs Q E hr gd e0 hb r hsp
  have old : ∀ b o, base.get? b = some o → s.heap.get? b = some o := fun b o e => (e0.bs b o e).1
  have KX : K.In s.heap := e0.mod.kin.keeps old
  have lim : s.heap.NoLimit := e0.mod.nolimit.keeps old
  have hkind : ∀ y ∈ ps.zip us, scope.names.lookup y.1 = some .local ∨
      (scope.names.lookup y.1 = some .cell ∧
        ((cellsFrom (s.heap.objs.size + 1) scope.names []).lookup y.1).isSome = true) := by
    rintro ⟨n, v⟩ hy
    have hn := (List.of_mem_zip hy).1
    rcases S.par n hn with q | q
    · exact Or.inl q
    · exact Or.inr ⟨q, PySem.W.cellsFrom_some _ _ _ (Or.inl q)⟩
  refine codeAny_call_function hr.depth (KX _ _ lk) rfl S.co S.gen rfl (PySem.W.codeRec_of KX hcd) (hb _ _ _ _ ?_)
  refine wpAny_newFunctionEnv_cells S.kind hkind ?_
  rintro env rfl s1 x
  refine ⟨lim.keeps x.toInCall.keep, codeAny_func ?_⟩
  obtain ⟨t, ht, hq⟩ := hbody A outer s H vs Q E (hr.deeper _) gd hsp
  have I := inv_start (CX := CX) (E := E) S hr.hd e0 (len _ _ _ _ hsp) r x
  refine wpAny_mono (ht.run [] s1 (start N vs) H _ I hq) ?_ (fun _ _ z => z)
  intro fl s' hs
  match fl, hs with
  | .ret u, ⟨v, σ', H', J, rv, q⟩ => exact ⟨v, H', J.os, J.bare, J.base, J.hok, rv, q⟩
  | .next, ⟨σ', H', J, q⟩ => exact ⟨V.non, H', J.os, J.bare, J.base, J.hok, rfl, q⟩
  | .brk, ⟨_, _, _, q⟩ => exact False.elim q
  | .cont, ⟨_, _, _, q⟩ => exact False.elim q

section
variable {P : Program} {w : World} {K : PySem.W.Frag} {mg : Str → Option Value} {base : Heap}
theorem okG {x qual : Str} {st : Stmt} {f : Addr} {fd : FuncData} {N ps : List Str} {k : Nat} {sp : Sp}
    (F : Fun K x qual st f fd) (S : FnScope N ps (defScope st))
    (len : ∀ vs H Q E, sp vs H Q E → vs.length = ps.length)
    (hbody : ∀ (cdv : Value) (A : Around) (outer : List Env) (s : Shared) (H : Hp) (vs : List V) (Q : VK) (E : XK),
      Room k (A.deeper (envOfC qual (defScope st) s.heap.objs.size f cdv)) → A.guards = some [] → sp vs H Q E →
      ∃ t, PSs (cxOf CX0 P w K mg base N qual (defScope st) f cdv A outer s H E).nox (defBody st) t ∧
        t { nx := fun _ H' => Q .non H', rt := Q } (start N vs) H) :
    FnG P w K mg base CX0 (k + 1) f fd ps sp := by
  obtain ⟨oc, od, kV, doc, pm, an, cdv, ct, osl, e, lk, hcd⟩ := F.ex
  subst e
  refine fnG_of lk hcd S len ?_
  intro A outer s H vs Q E hr gd hsp
  obtain ⟨t, h, q⟩ := hbody cdv A outer s H vs Q E hr gd hsp
  exact ⟨t, h.nox, q⟩
end

/-! ### the end of a law, by such a promise -/
theorem law_end {P : Program} {w : World} {K : PySem.W.Frag} {mg mb : Str → Option Value} {CX : CXT} {k : Nat}
    {fa a : Addr} {fd : FuncData} {x : Str} {sp : Sp} {s₁ : Shared} {vs : List Value} {ns : List Int}
    (KX : K.In s₁.heap) (hns : s₁.heap.Ns mainGlobals mg) (hb : s₁.heap.Ns builtinsNs mb)
    (hbb : ∀ x : Str, x ≠ "__name__" → mb x = bootBuiltins x) (hlim : s₁.heap.NoLimit) (hg : s₁.gens = #[])
    (ha : s₁.heap.get? a = some { cls := .type "list", data := .seq vs.toArray }) (hi : IntsAre vs ns)
    (hl : ns.length ≤ sizeLine) (hr : Room k callerA) (hsm : ∃ mm, s₁.heap.Ns sysModules mm)
    (F : ∀ base : Heap, K.In base → base.Ns mainGlobals mg → (∃ mm, base.Ns sysModules mm) → FnG P w K mg base CX k fa fd [x] sp)
    (hbind : ∀ (s : Shared) (u : Value), BindsTo s fd ⟨[u], []⟩ [(x, u)])
    (hsp : ∀ H : Hp, Only H → SqL K H a (ns.map V.int) → sp [.ref a] H (fun v _ => v = .bl true) fun _ _ _ => False)
    (hCX : ∀ H e s', CX [] H s₁ (fun _ _ _ => False) e s' → False) :
    codeAny (model P w) callerA (.call (.ref fa) ⟨[.ref a], []⟩)
      (fun r s' => r = .ok (.ret (.bool true)) ∧ OldK s₁.heap s'.heap ∧ s'.os = s₁.os ∧ AllBare s'.gens) s₁ := by
  have rv := vals_ints hi
  have lenV := hi.length
  have core : ∀ H : Hp, Only H → SqL K H a (ns.map V.int) → HOk P w H s₁.heap → (∀ b, H b ≠ none → b = a) →
      (H a ≠ none → K.lookup a = none) →
      codeAny (model P w) callerA (.call (.ref fa) ⟨[.ref a], []⟩)
        (fun r s' => r = .ok (.ret (.bool true)) ∧ OldK s₁.heap s'.heap ∧ s'.os = s₁.os ∧ AllBare s'.gens) s₁ := by
    intro H hO hS hok hA hK
    have at_a : ∀ {b : Addr} {u : HO}, H b = some u → b = a := fun {b u} q => hA b (by rw [q]; simp)
    have noA : ∀ {b : Addr} {o : Obj} {es : Array DictEntry} {ep : Nat}, s₁.heap.get? b = some o →
        o.data = .dict es ep → H b = none := by
      intro b o es ep e d
      cases q : H b with
      | none => rfl
      | some u =>
        rw [at_a q, ha] at e
        cases e
        exact nomatch d
    have nsK : ∀ {b : Addr} {m : Str → Option Value}, s₁.heap.Ns b m → (hidT s₁.heap H).Ns b m := by
      rintro b m ⟨o, es, ep, e, d, r⟩
      exact ⟨o, es, ep, hidT_get e (noA e d), d, r⟩
    have hKb : K.In (hidT s₁.heap H) := by
      intro b o e
      refine hidT_get (KX b o e) ?_
      cases q : H b with
      | none => rfl
      | some u =>
        have e' := at_a q
        subst e'
        rw [hK (by rw [q]; simp)] at e
        cases e
    have hM : Mod K mg (hidT s₁.heap H) := by
      obtain ⟨mc, h1, h2⟩ := hlim
      exact ⟨hKb, nsK hns, ⟨mb, nsK hb, hbb⟩, ⟨mc, nsK h1, h2⟩⟩
    have e0 : Env0 P w K mg (hidT s₁.heap H) callerA [] s₁ H := by
      refine ⟨rfl, hM, fun b o e => of_hidT e, Nat.le_of_eq (hidT_size _ _), trivial, ?_, hok, .of_eq hg⟩
      intro b hb
      exact absurd (show b ∈ ([] : List Addr) from hb) (by simp)
    have hmods : ∃ mm, (hidT s₁.heap H).Ns sysModules mm := by
      obtain ⟨mm, h1⟩ := hsm
      exact ⟨mm, nsK h1⟩
    have z := (F _ hKb (nsK hns) hmods).go callerA [] s₁ H ⟨[.ref a], []⟩ [.ref a] [.ref a] _ _ hr rfl e0
      (hbind s₁ (.ref a)) (.cons rfl .nil) (hsp H hO hS)
    refine codeAny_mono z fun r s' h => ?_
    match r, h with
    | .error e, h => exact (hCX H e s' h).elim
    | .ok .next, h => exact False.elim h
    | .ok .brk, h => exact False.elim h
    | .ok .cont, h => exact False.elim h
    | .ok (.ret u), ⟨v, H', os, bare, un, hok', r', q⟩ =>
      have q' : v = .bl true := q
      subst q'
      obtain rfl : u = Value.bool true := r'
      refine ⟨rfl, OldK.of_keep ?_, os, bare⟩
      intro b o e
      cases q : H b with
      | none =>
        refine un.keep b o e q ?_ (by simp)
        intro z
        exact absurd (show b ∈ ([] : List Addr) from z) (by simp)
      | some u =>
        rcases hO b with z | ⟨ob, xs, z⟩
        · rw [q] at z
          cases z
        · obtain ⟨e1, _⟩ := hok b _ z
          obtain ⟨e2, _⟩ := hok' b _ (un.frzs b ob _ z)
          rw [e] at e1
          cases e1
          exact e2
  cases hk : K.lookup a with
  | some o =>
    have e := KX a o hk
    rw [ha] at e
    cases e
    refine core (fun _ => none) (fun _ => Or.inl rfl) (Or.inr ⟨_, vs.toArray, _, hk, rfl, rfl, rfl, ?_, ?_⟩) ?_ ?_ ?_
    · rw [List.size_toArray, lenV]
      exact hl
    · simpa using rv
    · intro b u z
      cases (show (none : Option HO) = some u from z)
    · intro b z
      exact absurd rfl z
    · intro z
      exact absurd rfl z
  | none =>
    let o₁ : Obj := { cls := .type "list", data := .seq vs.toArray }
    let H₁ : Hp := fun b => if b = a then some (.frz o₁ (.lst (ns.map V.int))) else none
    have at1 : H₁ a = some (.frz o₁ (.lst (ns.map V.int))) := if_pos rfl
    have off : ∀ b, b ≠ a → H₁ b = none := fun b h => if_neg h
    refine core H₁ (fun b => ?_) (Or.inl (Or.inr ⟨o₁, at1⟩)) (fun b u z => ?_) (fun b z => ?_) fun _ => hk
    · by_cases hb : b = a
      · subst hb
        exact Or.inr ⟨_, _, at1⟩
      · exact Or.inl (off b hb)
    · by_cases hb : b = a
      · subst hb
        rw [at1] at z
        cases z
        refine ⟨ha, ?_, vs, _, rv, ha⟩
        rw [List.length_map]
        exact hl
      · rw [off b hb] at z
        cases z
    · by_cases hb : b = a
      · exact hb
      · exact absurd (off b hb) z

theorem walkG {l : PySem.W.OpenLaw} {n k : Nat} {q : Program} {loose : List Str} {XP : (Str → Option Value) → Heap → Prop}
    {YP : World → Heap → Prop} {d : DefRec} {K : Params → PySem.W.Frag} {CX : CXT} {sp : PySem.W.Frag → Sp} {x : Str}
    (hq : importsNone q = true) (hn : l.most = some n) (hn2 : n ≤ sizeLine) (hdf : d.params.defaults = []) (hr : Room k callerA)
    (hY : ∀ (w : World) (h : Heap), YP w h → (K w.params).In h)
    (F : ∀ (w : World) (mg : Str → Option Value) (fa : Addr) (h : Heap), (K w.params).In h → h.Ns mainGlobals mg →
      mg d.name = some (.ref fa) →
      ∃ fd : FuncData, (∀ (s : Shared) (u : Value), BindsTo s fd ⟨[u], []⟩ [(x, u)]) ∧
        ∀ base : Heap, (K w.params).In base → base.Ns mainGlobals mg → (∃ mm, base.Ns sysModules mm) →
          FnG l.prog w (K w.params) mg base CX k fa fd [x] (sp (K w.params)))
    (hsp : ∀ (K : PySem.W.Frag) (H : Hp) (a : Addr) (ns : List Int), ns.length ≤ n → Only H →
      SqL K H a (ns.map V.int) → sp K [.ref a] H (fun v _ => v = .bl true) fun _ _ _ => False)
    (hCX : ∀ (H : Hp) (s : Shared) (e : Value) (s' : Shared), CX [] H s (fun _ _ _ => False) e s' → False) :
    PySem.W.WalkO q loose XP YP l.row.toRowW d [] (fun f vs => PySem.call f vs) := by
  refine Att.attach_call hn hdf ?_
  intro w s₀ s₁ mg mb fa o pm cd doc a vs ns G Y ho hd hcd hmg hobj hints hlen hg
  have KX := hY w _ Y
  obtain ⟨fd, hb, hF⟩ := F w mg fa _ KX G.T.g hmg
  have hz := Nat.le_trans hlen hn2
  obtain ⟨mm, hmm, _⟩ := (G.T.seer hq).mods
  refine law_end KX G.T.g G.T.b G.T.builtins G.T.nolimit hg hobj hints hz hr ⟨mm, hmm⟩ hF hb ?_ ?_
  · exact fun H hO hS => hsp _ H a ns hlen hO hS
  · exact fun H e s' => hCX H s₁ e s'

/-! ### powers of great numbers -/
def CPowG (i j : Int) : Prop := 0 ≤ j ∧ (Builtin.Int.intBits i : Int) * j ≤ 2 ^ 27
theorem op_powG {X : Cx} : OpR X (binaryOp .Pow) (rI CPowG fun i j => .int (i ^ j.toNat)) :=
  opI fun _ _ _ _ _ _ _ hc q => pow_int hc.1 hc.2 q

/-! ### data at any depth, dicts among them -/
def kD : Key → PyData
  | .inl i => .int i
  | .inr x => .str x
mutual
inductive Da (K : PySem.W.Frag) (H : Hp) : V → PyData → Prop
  | non : Da K H .non .none
  | bl (b : Bool) : Da K H (.bl b) (.bool b)
  | int (i : Int) : Da K H (.int i) (.int i)
  | str (x : Str) : Da K H (.str x) (.str x)
  | lst {a : Addr} {xs : List V} {ds : List PyData} (h : SqL K H a xs) (t : DaAll K H xs ds) : Da K H (.ref a) (.list ds)
  | tup {a : Addr} {xs : List V} {ds : List PyData} (h : SqT K H a xs) (t : DaAll K H xs ds) : Da K H (.ref a) (.tuple ds)
  | dic {a : Addr} {kvs : List (Key × V)} {ds : List (PyData × PyData)} (h : H a = some (.dK kvs)) (t : DaKv K H kvs ds) : Da K H (.ref a) (.dict ds)
inductive DaAll (K : PySem.W.Frag) (H : Hp) : List V → List PyData → Prop
  | nil : DaAll K H [] []
  | cons {v : V} {vs : List V} {d : PyData} {ds : List PyData} (h : Da K H v d) (t : DaAll K H vs ds) : DaAll K H (v :: vs) (d :: ds)
inductive DaKv (K : PySem.W.Frag) (H : Hp) : List (Key × V) → List (PyData × PyData) → Prop
  | nil : DaKv K H [] []
  | cons {k : Key} {v : V} {kvs : List (Key × V)} {d : PyData} {ds : List (PyData × PyData)} (h : Da K H v d) (t : DaKv K H kvs ds) :
      DaKv K H ((k, v) :: kvs) ((kD k, d) :: ds)
end
section
variable {K : PySem.W.Frag} {H H' : Hp}
theorem seqT_mono (s : Same H H') {a : Addr} {xs : List V} (h : SqT K H a xs) : SqT K H' a xs := by
  rcases h with (e | ⟨o, e⟩) | e
  · exact .inl (.inl (s _ _ e))
  · exact .inl (.inr ⟨o, s _ _ e⟩)
  · exact .inr e
mutual
theorem Da.mono (s : Same H H') : ∀ {v : V} {d : PyData}, Da K H v d → Da K H' v d
  | _, _, .non => .non
  | _, _, .bl b => .bl b
  | _, _, .int i => .int i
  | _, _, .str x => .str x
  | _, _, .lst h t => .lst (s.seq h) (DaAll.mono s t)
  | _, _, .tup h t => .tup (seqT_mono s h) (DaAll.mono s t)
  | _, _, .dic h t => .dic (s _ _ h) (DaKv.mono s t)
theorem DaAll.mono (s : Same H H') : ∀ {vs : List V} {ds : List PyData}, DaAll K H vs ds → DaAll K H' vs ds
  | _, _, .nil => .nil
  | _, _, .cons h t => .cons (Da.mono s h) (DaAll.mono s t)
theorem DaKv.mono (s : Same H H') : ∀ {vs : List (Key × V)} {ds : List (PyData × PyData)}, DaKv K H vs ds → DaKv K H' vs ds
  | _, _, .nil => .nil
  | _, _, .cons h t => .cons (Da.mono s h) (DaKv.mono s t)
end
end
section
variable {X : Cx} {pins : List (Addr × Obj)} {σ : L2.St} {H : Hp} {s : Shared}
theorem key_reads {h : Heap} {k : Key} {u : Value} (e : keyIs k u = true) : Reads h u (kD k) [] := by
  rcases keyIs_shape e with ⟨i, t, rfl, rfl⟩ | ⟨x, t, rfl, rfl⟩
  · exact .int i t
  · exact .str x t
/-- a list does not stand where the modules' dict stands -/
theorem not_mods (hm : ∃ mm, X.base.Ns sysModules mm) (I : Inv X pins σ H s) {a : Addr} {o : Obj} {vs : Array Value} {n : Nat}
    (ho : s.heap.get? a = some o) (hd : o.data = .seq vs n) : sysModules ≠ a := by
  rintro rfl
  obtain ⟨mm, om, es, ep, e1, e2, _⟩ := hm
  have e3 := I.bk _ _ e1
  rw [ho] at e3
  cases e3
  rw [hd] at e2
  cases e2
mutual
theorem Da.reads (hm : ∃ mm, X.base.Ns sysModules mm) (I : Inv X pins σ H s) : ∀ (d : PyData) (v : V) (u : Value), Da X.K H v d → RelV v u → ∃ as, Reads s.heap u d as ∧ sysModules ∉ as
  | .none, _, _, h, r => by
    cases h
    cases r
    exact ⟨_, .none, by simp⟩
  | .bool b, _, _, h, r => by
    cases h
    cases r
    exact ⟨_, .bool b, by simp⟩
  | .int i, _, _, h, r => by
    cases h
    obtain ⟨t, rfl⟩ := r
    exact ⟨_, .int i t, by simp⟩
  | .str x, _, _, h, r => by
    cases h
    obtain ⟨t, rfl⟩ := r
    exact ⟨_, .str x t, by simp⟩
  | .list ds, _, _, h, r => by
    cases h with
    | lst hs ha =>
      cases r
      obtain ⟨its, rv, ⟨o, n, ho, hc, _, hd⟩, _⟩ := I.list hs
      obtain ⟨as, hr, no⟩ := Da.readsAll hm I ds _ its ha rv
      refine ⟨_, .list ho hc hd hr, ?_⟩
      rw [List.mem_cons, not_or]
      exact ⟨not_mods hm I ho hd, no⟩
  | .tuple ds, _, _, h, r => by
    cases h with
    | tup hs ha =>
      cases r
      obtain ⟨its, rv, ⟨o, ho, hc, n, hd⟩, _⟩ := I.tuple hs
      obtain ⟨as, hr, no⟩ := Da.readsAll hm I ds _ its ha rv
      exact ⟨_, .tuple ho hc hd hr, no⟩
  | .dict ds, _, _, h, r => by
    cases h with
    | @dic a kvs _ he hk =>
      cases r
      have ok : ObjOk X.prog X.w H s.heap a (.dK kvs) := I.hok a _ he
      obtain ⟨_, ns, vs, kv, o, es, ep, ho, ex, hd, _, ps, _⟩ := ok
      obtain ⟨as, bs, h1, h2, n1, n2⟩ := Da.readsKv hm I ds kvs vs es.toList hk kv ps
      refine ⟨_, .dict ho ex.1 hd h1 h2, ?_⟩
      rw [List.mem_append, List.mem_cons, not_or, not_or]
      refine ⟨⟨fun z => ?_, n1⟩, n2⟩
      rw [← z] at ns
      exact absurd ns (by decide)
theorem Da.readsAll (hm : ∃ mm, X.base.Ns sysModules mm) (I : Inv X pins σ H s) : ∀ (ds : List PyData) (vs : List V) (us : List Value), DaAll X.K H vs ds → Vals vs us → ∃ as, ReadsAll s.heap us ds as ∧ sysModules ∉ as
  | [], _, _, h, r => by
    cases h
    cases r
    exact ⟨_, .nil, by simp⟩
  | d :: ds, _, _, h, r => by
    cases h with
    | cons h1 h2 =>
      cases r with
      | cons r1 r2 =>
        obtain ⟨as, q1, n1⟩ := Da.reads hm I d _ _ h1 r1
        obtain ⟨bs, q2, n2⟩ := Da.readsAll hm I ds _ _ h2 r2
        refine ⟨_, .cons q1 q2, ?_⟩
        rw [List.mem_append, not_or]
        exact ⟨n1, n2⟩
theorem Da.readsKv (hm : ∃ mm, X.base.Ns sysModules mm) (I : Inv X pins σ H s) : ∀ (ds : List (PyData × PyData)) (kvs : List (Key × V)) (vs : List (Key × Value)) (es : List DictEntry), DaKv X.K H kvs ds → KV kvs vs →
    Pairs (mixKind X.prog X.w) es vs → ∃ as bs, ReadsAll s.heap (es.map (·.key)) (ds.map (·.1)) as ∧ ReadsAll s.heap (es.map (·.val)) (ds.map (·.2)) bs ∧ sysModules ∉ as ∧ sysModules ∉ bs
  | [], _, _, _, h, r, p => by
    cases h
    cases r
    cases p
    exact ⟨_, _, .nil, .nil, by simp, by simp⟩
  | d :: ds, _, _, _, h, r, p => by
    cases h with
    | cons h1 h2 =>
      cases r with
      | cons r1 r2 =>
        cases p with
        | cons p1 p2 p3 =>
          obtain ⟨e1, e2⟩ := r1
          obtain ⟨as, q1, n1⟩ := Da.reads hm I _ _ _ h1 e2
          obtain ⟨cs, bs, q2, q3, n2, n3⟩ := Da.readsKv hm I ds _ _ _ h2 r2 p3
          rw [← p2] at q1
          rw [← e1] at p1
          refine ⟨_, _, .cons (key_reads p1) q2, .cons q1 q3, by simpa using n2, ?_⟩
          rw [List.mem_append, not_or]
          exact ⟨n1, n3⟩
end
end
/-! ### repr of data -/
def rRepr (K : PySem.W.Frag) : List V → Hp → VK → Prop := fun xs H Q =>
  ∃ (a : Addr) (d : PyData), xs = [.ref a] ∧ Da K H (.ref a) d ∧ d.showable = true ∧ d.depth ≤ 64 ∧ d.shown.length ≤ sizeLine ∧ Q (.str d.shown) H
theorem call_repr {X : Cx} (hm : ∃ mm, X.base.Ns sysModules mm) (gd : X.A.guards = some []) (hu : X.A.units + 70 < cLine) :
    CallR X (.builtin "repr") (rRepr X.K) := by
  intro pins s σ H xs us Q I r h
  obtain ⟨a, d, rfl, hs, sh, dp, sz, q⟩ := h
  cases r with
  | cons r1 r2 =>
    cases r2
    obtain ⟨as, rd, sy⟩ := Da.reads hm I d _ _ hs r1
    obtain rfl := r1
    refine repr_of_reads' rd sh (fun _ => sy) gd (by omega) (fun _ _ e => e) (fun h' u tk k => ?_) sz
    exact ⟨.str d.shown, H, I.kept (h' := h') (t' := tk) k, ⟨u, rfl⟩, q⟩
end Ev

/-! ## What an expression gives, while all that is tracked stands -/
namespace Ev
open PySem PySem.Spec PyProof.Rows L2
theorem PE.imp {X : Cx} {e : Expr} {t t' : TE} (h : PE X e t) (i : ∀ σ H Q, t' σ H Q → t σ H Q) : PE X e t' :=
  ⟨fun pins s σ H Q I z => h.run pins s σ H Q I (i σ H Q z)⟩
theorem Same.rfl' {H : Hp} : Same H H := fun _ _ e => e
theorem same_put {H : Hp} {p : Addr} {o : HO} (h : H p = none) : Same H (upd H p o) := fun b x e => by
  rw [upd_ne (ne_of_none e h)]
  exact e
/-- all but p stands as it stood -/
def Bu (p : Addr) (H H' : Hp) : Prop := ∀ b o, b ≠ p → H b = some o → H' b = some o
theorem Bu.refl {p : Addr} {H : Hp} : Bu p H H := fun _ _ _ e => e
theorem Bu.trans {p : Addr} {H H1 H2 : Hp} (h : Bu p H H1) (k : Bu p H1 H2) : Bu p H H2 := fun b o n e => k b o n (h b o n e)
theorem Bu.put {p : Addr} {H : Hp} {o : HO} : Bu p H (upd H p o) := fun b _ n e => by
  rw [upd_ne n]
  exact e
theorem Bu.new {p q : Addr} {H : Hp} {o : HO} (h : H q = none) : Bu p H (upd H q o) := fun b _ _ e => by
  rw [upd_ne (ne_of_none e h)]
  exact e
theorem Bu.of {p : Addr} {H H' : Hp} (h : Same H H') : Bu p H H' := fun b o _ e => h b o e
structure GP where
  p : Hp → V → Prop
  mono : ∀ {H H' : Hp} {u : V}, Same H H' → p H u → p H' u
def AllG (Gs : List GP) (H : Hp) (us : List V) : Prop := Paired (fun (G : GP) u => G.p H u) Gs us
theorem AllG.mono {H H' : Hp} (s : Same H H') : ∀ {Gs : List GP} {us : List V}, AllG Gs H us → AllG Gs H' us
  | _, _, .nil => .nil
  | G :: _, _, .cons h t => .cons (G.mono s h) (AllG.mono s t)
theorem AllG.append {H : Hp} : ∀ {Gs Gs' : List GP} {us us' : List V}, AllG Gs H us → AllG Gs' H us' → AllG (Gs ++ Gs') H (us ++ us')
  | _, _, _, _, .nil, k => k
  | _ :: _, _, _, _, .cons h t, k => .cons h (AllG.append t k)
def gEq (v : V) : GP := ⟨fun _ u => u = v, fun _ h => h⟩
def gLst (Gs : List GP) : GP := ⟨fun H u => ∃ p us, u = .ref p ∧ H p = some (.lst us) ∧ AllG Gs H us, fun s ⟨p, us, h1, h2, h3⟩ => ⟨p, us, h1, s _ _ h2, h3.mono s⟩⟩
def Gives (H0 : Hp) (te : TE) (G : GP) (σ : L2.St) : Prop := ∀ (H : Hp) (Q : VK), Same H0 H → (∀ H' u, Same H H' → G.p H' u → Q u H') → te σ H Q
def GivesL (H0 : Hp) (ta : TA) (Gs : List GP) (σ : L2.St) : Prop := ∀ (H : Hp) (Q : List V → Hp → Prop), Same H0 H → (∀ H' us, Same H H' → AllG Gs H' us → Q us H') → ta σ H Q
section
variable {H0 : Hp} {σ : L2.St} {te te' : TE} {ta : TA} {G : GP} {Gs Gs' : List GP} {i : Nat} {v : V} {C : Addr} {D : Ends} {rest : TS}
theorem g_nil : GivesL H0 tNil [] σ := fun H Q _ q => q H [] Same.rfl' .nil
theorem g_cons (h : Gives H0 te G σ) (t : GivesL H0 ta Gs σ) : GivesL H0 (tCons te ta) (G :: Gs) σ := fun H Q s q =>
  h H _ s fun H1 u s1 g1 => t H1 _ (s.trans s1) fun H2 us s2 g2 => q H2 (u :: us) (s1.trans s2) (.cons (G.mono s2 g1) g2)
theorem g_lst (h : GivesL H0 ta Gs σ) (hz : Gs.length ≤ 1000 := by simp) : Gives H0 (tLst ta) (gLst Gs) σ := fun H Q s q =>
  h H _ s fun H1 us s1 g1 => by
    have hl : us.length = Gs.length := (Paired.length g1).symm
    refine ⟨?_, fun p np => ?_⟩
    · have y := sizeLine_eq
      omega
    · have s2 := same_put (o := .lst us) np
      exact q _ _ (s1.trans s2) ⟨p, us, rfl, upd_same, g1.mono s2⟩
theorem g_cat (h : Gives H0 te (gLst Gs) σ) (h' : Gives H0 te' (gLst Gs') σ) (hz : Gs.length + Gs'.length ≤ 1000 := by simp) :
    Gives H0 (tOp rCat te te') (gLst (Gs ++ Gs')) σ := fun H Q s q =>
  h H _ s fun H1 u s1 ⟨p, us, e1, h1, g1⟩ => h' H1 _ (s.trans s1) fun H2 u' s2 ⟨p', us', e2, h2, g2⟩ => by
    have l1 : us.length = Gs.length := (Paired.length g1).symm
    have l2 : us'.length = Gs'.length := (Paired.length g2).symm
    refine ⟨p, p', us, us', e1, e2, s2 _ _ h1, h2, ?_, fun r nr => ?_⟩
    · have y := sizeLine_eq
      omega
    · have s3 := same_put (o := .lst (us ++ us')) nr
      exact q _ _ ((s1.trans s2).trans s3) ⟨r, us ++ us', rfl, upd_same, AllG.append (g1.mono (s2.trans s3)) (g2.mono s3)⟩
theorem g_var (hv : σ[i]? = some (some v)) (g : G.p H0 v) : Gives H0 (tVar i) G σ := fun H Q s q => ⟨v, hv, q H v Same.rfl' (G.mono s g)⟩
theorem g_eq (hv : σ[i]? = some (some v)) : Gives H0 (tVar i) (gEq v) σ := g_var hv rfl
theorem s_set (h : Gives H0 te G σ) (k : ∀ H' u, Same H0 H' → G.p H' u → rest D (σ.set i (some u)) H') : tSeq (tAsg te (gName i)) rest D σ H0 :=
  h H0 _ Same.rfl' fun H' u s g => k H' u s g
theorem s_ret (h : Gives H0 te G σ) (k : ∀ H' u, Same H0 H' → G.p H' u → D.rt u H') : tRet te D σ H0 :=
  h H0 _ Same.rfl' fun H' u s g => k H' u s g
end
/-- the abstract heap without p -/
def but (H : Hp) (p : Addr) : Hp := fun b => if b = p then none else H b
theorem but_ne {H : Hp} {p b : Addr} (h : b ≠ p) : but H p b = H b := if_neg h
theorem but_same {H H' : Hp} {p : Addr} (s : Same H H') : Same (but H p) (but H' p) := fun b o e => by
  by_cases h : b = p
  · rw [h] at e
    have z : but H p p = none := if_pos rfl
    rw [z] at e
    cases e
  · rw [but_ne h] at e ⊢
    exact s _ _ e
theorem but_le {H H' : Hp} {p : Addr} (s : Bu p H H') : Same (but H p) H' := fun b o e => by
  by_cases h : b = p
  · rw [h] at e
    have z : but H p p = none := if_pos rfl
    rw [z] at e
    cases e
  · rw [but_ne h] at e
    exact s _ _ h e
/-- data that do not hold p -/
def gDa (K : PySem.W.Frag) (p : Addr) (d : PyData) : GP := ⟨fun H u => Da K (but H p) u d, fun s h => h.mono (but_same s)⟩
section
variable {K : PySem.W.Frag} {p : Addr} {op : HO} {H0 : Hp} {σ : L2.St} {te : TE} {ta : TA} {G : GP} {Gs : List GP} {v : V} {d : PyData} {ds : List PyData}
theorem ne_new {H : Hp} {q : Addr} (hp : H0 p = some op) (s : Same H0 H) (nq : H q = none) : q ≠ p := fun z => by
  rw [z, s _ _ hp] at nq
  cases nq
theorem g_c (h : ∀ H, G.p H v) : Gives H0 (tC v) G σ := fun H Q _ q => q H v Same.rfl' (h H)
theorem g_neg {i : Int} : Gives H0 (tUn (rU fun i => .int (-i)) (tC (.int i))) (gDa K p (.int (-i))) σ := fun H Q _ q => ⟨i, rfl, q H _ Same.rfl' (.int _)⟩
theorem g_pow {i j : Int} (h : CPow i j) : Gives H0 (tOp (rI CPow fun i j => .int (i ^ j.toNat)) (tC (.int i)) (tC (.int j))) (gDa K p (.int (i ^ j.toNat))) σ :=
  fun H Q _ q => ⟨i, j, rfl, rfl, h, q H _ Same.rfl' (.int _)⟩
theorem allDa {H : Hp} : ∀ {ds : List PyData} {us : List V}, AllG (ds.map (gDa K p)) H us → DaAll K (but H p) us ds
  | [], _, .nil => .nil
  | _ :: _, _, .cons h t => .cons h (allDa t)
theorem g_lstD (hp : H0 p = some op) (h : GivesL H0 ta (ds.map (gDa K p)) σ) (hz : ds.length ≤ 1000 := by simp) : Gives H0 (tLst ta) (gDa K p (.list ds)) σ := fun H Q s q =>
  h H _ s fun H1 us s1 g1 => by
    have hl : us.length = ds.length := by rw [← Paired.length g1, List.length_map]
    refine ⟨?_, fun r nr => ?_⟩
    · have y := sizeLine_eq
      omega
    · have s2 := same_put (o := .lst us) nr
      have ne := ne_new hp (s.trans s1) nr
      refine q _ _ (s1.trans s2) (.lst (.inl (.inl ?_)) ((allDa g1).mono (but_same s2)))
      rw [but_ne ne, upd_same]
theorem g_tupD (hp : H0 p = some op) (h : GivesL H0 ta (ds.map (gDa K p)) σ) (hz : ds.length ≤ 1000 := by simp) : Gives H0 (tTup ta) (gDa K p (.tuple ds)) σ := fun H Q s q =>
  h H _ s fun H1 us s1 g1 => by
    have hl : us.length = ds.length := by rw [← Paired.length g1, List.length_map]
    refine ⟨?_, fun r nr => ?_⟩
    · have y := sizeLine_eq
      omega
    · have s2 := same_put (o := .tup us) nr
      have ne := ne_new hp (s.trans s1) nr
      refine q _ _ (s1.trans s2) (.tup (.inl (.inl ?_)) ((allDa g1).mono (but_same s2)))
      rw [but_ne ne, upd_same]
theorem g_dnew (hp : H0 p = some op) : Gives H0 tDNewK (gDa K p (.dict [])) σ := fun H Q s q r nr => by
  refine q _ _ (same_put nr) (.dic ?_ .nil)
  rw [but_ne (ne_new hp s nr), upd_same]
theorem g_disp {x : Str} (hp : H0 p = some op) : Gives H0 (tDisp [(tC (.str x), tTup (tCons (tC .non) tNil))]) (gDa K p (.dict [(.str x, .tuple [.none])])) σ := fun H Q s q r nr => by
  refine ⟨(by show 1 ≤ sizeLine; decide), fun t nt => ?_⟩
  have ne : t ≠ r := fun z => by
    rw [z, upd_same] at nt
    cases nt
  have n1 := ne_new hp s nr
  have n2 := ne_new hp (s.trans (same_put nr)) nt
  refine ⟨by rw [upd_ne ne.symm, upd_same], [(.inr x, .ref t)], rfl, (by show 1 ≤ 15; decide), q _ _ ?_ (.dic (kvs := [(.inr x, .ref t)]) ?_ (.cons (.tup (xs := [.non]) (.inl (.inl ?_)) (.cons .non .nil)) .nil))⟩
  · intro b o e
    have nb : b ≠ r := ne_of_none e nr
    have nbt : b ≠ t := fun z => by
      rw [z] at e
      rw [upd_ne ne, e] at nt
      cases nt
    rw [upd_ne nb, upd_ne nbt, upd_ne nb]
    exact e
  · rw [but_ne n1]
    exact upd_same
  · rw [but_ne n2, upd_ne ne, upd_same]
theorem allEq {H : Hp} : ∀ {ys : List V}, AllG (ys.map gEq) H ys
  | [] => .nil
  | _ :: _ => .cons rfl allEq
/-- [elt for .. in xs], the elements plain values -/
theorem g_lcP {a : Addr} {xs ys : List V} {i : Nat} {g : TG} {vs : List Nat} (hi : σ[i]? = some (some (.ref a))) (hx : SqL K H0 a xs) (hz : xs.length ≤ 1000) (hl : ys.length = xs.length)
    (he : ∀ (j : Nat) (x y : V), xs[j]? = some x → ys[j]? = some y → ∀ (H : Hp) (R : VK), Same H0 H → R y H →
      g x (wipe σ vs) H fun σ2 H2 => wipe σ2 vs = wipe σ vs ∧ te σ2 H2 R) :
    Gives H0 (tLc (iList K (tVar i)) g tYes te vs) (gLst (ys.map gEq)) σ := fun H Q s q => by
  refine ⟨_, hi, a, rfl, ⟨xs, s.seq hx⟩, fun D nD => ?_⟩
  have sD : Same H (upd H D (.lst [])) := same_put nD
  have y := sizeLine_eq
  refine lc_list (K := K) (a := a) (xs := xs) (fun k H' => Same H H' ∧ H' D = some (.lst (ys.take k))) ⟨sD, upd_same⟩ (fun k H' _ ⟨s', _⟩ => s'.seq (s.seq hx)) ?_ ?_
  · rintro k x H' hk ⟨s', eD⟩
    have hk' : k < ys.length := by
      obtain ⟨h, _⟩ := List.getElem?_eq_some_iff.mp hk
      omega
    have hy := List.getElem?_eq_getElem hk'
    refine cast ?_ (he k x ys[k] hk hy H' (fun y H4 => ∃ acc, H4 D = some (.lst acc) ∧ acc.length < sizeLine ∧ Same H (upd H4 D (.lst (acc ++ [y]))) ∧ upd H4 D (.lst (acc ++ [y])) D = some (.lst (ys.take (k + 1)))) (s.trans s') ⟨_, eD, ?_, ?_, ?_⟩)
    · rfl
    · rw [List.length_take]
      omega
    · intro b o e
      rw [upd_ne (ne_of_none e nD)]
      exact s' _ _ e
    · rw [upd_same, List.take_add_one, hy]
      rfl
  · rintro H' ⟨s', eD⟩
    rw [← hl, List.take_length] at eD
    exact q H' _ s' ⟨D, ys, rfl, eD, allEq⟩
/-- [elt for i in range(m)], the elements plain values -/
theorem g_lcR {ys : List V} {m : Int} {g : TG} {vs : List Nat} (hm : -(2 ^ 62) ≤ m ∧ m < 2 ^ 62) (hl : ys.length = m.toNat) (hz : ys.length ≤ 1000)
    (he : ∀ (j : Nat) (y : V), ys[j]? = some y → ∀ (H : Hp) (R : VK), Same H0 H → R y H →
      g (.int (0 + j)) (wipe σ vs) H fun σ2 H2 => wipe σ2 vs = wipe σ vs ∧ te σ2 H2 R) :
    Gives H0 (tLc (iRng1 (tCons (tC (.int m)) tNil)) g tYes te vs) (gLst (ys.map gEq)) σ := fun H Q s q => by
  refine ⟨m, rfl, hm.1, hm.2, fun D nD => ?_⟩
  have sD : Same H (upd H D (.lst [])) := same_put nD
  have y := sizeLine_eq
  refine lc_range (lo := 0) (n := m.toNat) (fun k H' => Same H H' ∧ H' D = some (.lst (ys.take k))) ⟨sD, upd_same⟩ ?_ ?_
  · rintro k H' hk ⟨s', eD⟩
    have hk' : k < ys.length := by omega
    have hy := List.getElem?_eq_getElem hk'
    refine cast ?_ (he k ys[k] hy H' (fun y H4 => ∃ acc, H4 D = some (.lst acc) ∧ acc.length < sizeLine ∧ Same H (upd H4 D (.lst (acc ++ [y]))) ∧ upd H4 D (.lst (acc ++ [y])) D = some (.lst (ys.take (k + 1)))) (s.trans s') ⟨_, eD, ?_, ?_, ?_⟩)
    · rfl
    · rw [List.length_take]
      omega
    · intro b o e
      rw [upd_ne (ne_of_none e nD)]
      exact s' _ _ e
    · rw [upd_same, List.take_add_one, hy]
      rfl
  · rintro H' ⟨s', eD⟩
    rw [← hl, List.take_length] at eD
    exact q H' _ s' ⟨D, ys, rfl, eD, allEq⟩
/-! ### tests whose answer is known -/
def GivesT (H0 : Hp) (tt : TT) (b : Bool) (σ : L2.St) : Prop := ∀ (H : Hp) (Q : Bool → Hp → Prop), Same H0 H → (∀ H', Same H H' → Q b H') → tt σ H Q
theorem s_skip {tt : TT} {t rest : TS} {D : Ends} (h : GivesT H0 tt false σ) (k : ∀ H', Same H0 H' → rest D σ H') : tSeq (tIfS tt t tNext) rest D σ H0 :=
  h H0 _ Same.rfl' fun H' s => iteF (k H' s)
theorem s_skip1 {tt : TT} {t : TS} {D : Ends} (h : GivesT H0 tt false σ) (k : ∀ H', Same H0 H' → D.nx σ H') : tIfS tt t tNext D σ H0 :=
  h H0 _ Same.rfl' fun H' s => iteF (k H' s)
theorem g_repr (h : Gives H0 te G σ) (hd : ∀ H u, Same H0 H → G.p H u → ∃ a, u = .ref a ∧ Da K H u d) (h1 : d.showable = true) (h2 : d.depth ≤ 64) (h3 : d.shown.length ≤ sizeLine) :
    Gives H0 (tCB (rRepr K) (tCons te tNil)) (gEq (.str d.shown)) σ := fun H Q s q =>
  h H _ s fun H1 u s1 g1 => by
    obtain ⟨a, rfl, da⟩ := hd H1 u (s.trans s1) g1
    exact ⟨a, d, rfl, da, h1, h2, h3, q H1 _ s1 rfl⟩
theorem t_neS {te' : TE} {x : Str} (h : Gives H0 te (gEq (.str x)) σ) (h' : Gives H0 te' (gEq (.str x)) σ) : GivesT H0 (tTest (tOp rNe te te')) false σ := fun H Q s q =>
  h H _ s fun H1 u s1 e1 => h' H1 _ (s.trans s1) fun H2 u' s2 e2 => by
    have e1 : u = .str x := e1
    have e2 : u' = .str x := e2
    subst e1
    subst e2
    refine ⟨rfl, _, rfl, ?_⟩
    rw [decide_eq_true rfl]
    exact q H2 (s1.trans s2)
theorem dp_bools {H : Hp} : ∀ bs : List Bool, DpAll K H (bs.map V.bl) (bs.map PyData.bool)
  | [] => .nil
  | b :: bs => .cons (.bl b) (dp_bools bs)
theorem eqv_bools : ∀ bs : List Bool, PyData.eqvAll (bs.map PyData.bool) (bs.map PyData.bool) = true
  | [] => by simp [PyData.eqvAll]
  | b :: bs => by simp [PyData.eqvAll, PyData.eqv, eqv_bools bs]
theorem lay_bools : ∀ bs : List Bool, PyData.canLayAll0 (bs.map PyData.bool) = true
  | [] => by simp [PyData.canLayAll0]
  | b :: bs => by simp [PyData.canLayAll0, PyData.canLay0, lay_bools bs]
theorem depth_bools : ∀ bs : List Bool, PyData.depthAll (bs.map PyData.bool) = 0
  | [] => by simp [PyData.depthAll]
  | b :: bs => by simp [PyData.depthAll, PyData.depth, depth_bools bs]
theorem shaped_bools (bs : List Bool) : SeqAt.shaped (.list (bs.map PyData.bool)) = true := by
  show (PyData.canLay0 (.list (bs.map .bool)) && decide (PyData.depth (.list (bs.map .bool)) ≤ 64)) = true
  simp [PyData.canLay0, PyData.depth, lay_bools, depth_bools]
theorem all_bl {H : Hp} : ∀ {bs : List Bool} {us : List V}, AllG (bs.map fun b => gEq (.bl b)) H us → us = bs.map V.bl
  | [], _, .nil => rfl
  | _ :: _, _, .cons h t => by
    have h : _ = V.bl _ := h
    rw [h, all_bl t]
    rfl
theorem t_neB {te' : TE} {bs : List Bool} (h : Gives H0 te (gLst (bs.map fun b => gEq (.bl b))) σ) (h' : Gives H0 te' (gLst (bs.map fun b => gEq (.bl b))) σ) :
    GivesT H0 (tTest (tOp (rNeD K) te te')) false σ := fun H Q s q =>
  h H _ s fun H1 u s1 ⟨p1, us1, e1, l1, g1⟩ => h' H1 _ (s.trans s1) fun H2 u' s2 ⟨p2, us2, e2, l2, g2⟩ => by
    subst e1
    subst e2
    rw [all_bl g1] at l1
    rw [all_bl g2] at l2
    refine ⟨_, _, .lst (.inl (.inl (s2 _ _ l1))) (dp_bools bs), .lst (.inl (.inl l2)) (dp_bools bs), shaped_bools bs, shaped_bools bs, _, rfl, ?_⟩
    have z : PyData.eqv (.list (bs.map .bool)) (.list (bs.map .bool)) = true := by
      simp only [PyData.eqv]
      exact eqv_bools bs
    rw [z]
    exact q H2 (s1.trans s2)
theorem t_not {tt : TT} {b : Bool} (h : GivesT H0 tt b σ) : GivesT H0 (tNot tt) (!b) σ := fun H Q s q => h H _ s q
theorem t_orF {tt uu : TT} (h : GivesT H0 tt false σ) (k : GivesT H0 uu false σ) : GivesT H0 (tOr tt uu) false σ := fun H Q s q =>
  h H _ s fun H1 s1 => iteF (k H1 Q (s.trans s1) fun H2 s2 => q H2 (s1.trans s2))
end
section
variable {K : PySem.W.Frag} {p : Addr} {H0 : Hp} {σ : L2.St}
theorem g_nonD : Gives H0 (tC .non) (gDa K p .none) σ := g_c fun _ => Da.non
theorem g_blD {b : Bool} : Gives H0 (tC (.bl b)) (gDa K p (.bool b)) σ := g_c fun _ => Da.bl b
theorem g_intD {i : Int} : Gives H0 (tC (.int i)) (gDa K p (.int i)) σ := g_c fun _ => Da.int i
theorem g_strD {x : Str} : Gives H0 (tC (.str x)) (gDa K p (.str x)) σ := g_c fun _ => Da.str x
end
theorem sum_le_all (m : Nat) : ∀ l : List Nat, (∀ n ∈ l, n ≤ m) → l.sum ≤ m * l.length
  | [], _ => by simp
  | n :: l, h => by
    have h1 := h n (List.mem_cons_self ..)
    have h2 := sum_le_all m l fun k hk => h k (List.mem_cons_of_mem _ hk)
    rw [List.sum_cons, List.length_cons, Nat.mul_succ]
    omega
theorem mem_all {H : Hp} : ∀ {Gs : List GP} {us : List V}, AllG Gs H us → ∀ v ∈ us, ∃ G ∈ Gs, G.p H v
  | _, _, .nil, _, h => nomatch h
  | G :: _, _, .cons h t, v, hv => by
    rcases List.mem_cons.mp hv with rfl | hv
    · exact ⟨G, List.mem_cons_self .., h⟩
    · obtain ⟨G', h1, h2⟩ := mem_all t v hv
      exact ⟨G', List.mem_cons_of_mem _ h1, h2⟩
theorem all_eq {H : Hp} : ∀ {ys us : List V}, AllG (ys.map gEq) H us → us = ys
  | [], _, .nil => rfl
  | _ :: _, _, .cons h t => by
    have h : _ = _ := h
    rw [h, all_eq t]
end Ev

/-! ## General steps -/
namespace Ev
open PySem PySem.Spec PyProof.Rows L2
section
variable {K : PySem.W.Frag} {B H0 : Hp} {σ : L2.St} {te tf : TE} {ta : TA} {i : Nat} {x v : V} {d : PyData} {ds : List PyData} {b c : Bool} {T : String} {tt uu : TT} {t rest : TS} {D : Ends} {a : Addr} {xs : List V} {k : Int} {G : GP}
theorem t_or (h : GivesT H0 tt b σ) (k : b = false → GivesT H0 uu c σ) : GivesT H0 (tOr tt uu) (b || c) σ := fun H Q s q =>
  h H _ s fun H1 s1 => by
    cases b with
    | true => exact iteT (q H1 s1)
    | false => exact iteF (k rfl H1 Q (s.trans s1) fun H2 s2 => q H2 (s1.trans s2))
theorem s_ifB (h : GivesT H0 tt b σ) (k1 : b = true → ∀ H', Same H0 H' → t { D with nx := rest D } σ H') (k2 : b = false → ∀ H', Same H0 H' → rest D σ H') : tSeq (tIfS tt t tNext) rest D σ H0 :=
  h H0 _ Same.rfl' fun H' s => by
    cases b with
    | true => exact iteT (k1 rfl H' s)
    | false => exact iteF (k2 rfl H' s)
theorem t_andB (h : GivesT H0 tt b σ) (k : b = true → GivesT H0 uu c σ) : GivesT H0 (tAnd tt uu) (b && c) σ := fun H Q s q =>
  h H _ s fun H1 s1 => by
    cases b with
    | true => exact iteT (k rfl H1 Q (s.trans s1) fun H2 s2 => q H2 (s1.trans s2))
    | false => exact iteF (q H1 s1)
theorem s_ifB1 (h : GivesT H0 tt b σ) (k1 : b = true → ∀ H', Same H0 H' → t D σ H') (k2 : b = false → ∀ H', Same H0 H' → D.nx σ H') : tIfS tt t tNext D σ H0 :=
  h H0 _ Same.rfl' fun H' s => by
    cases b with
    | true => exact iteT (k1 rfl H' s)
    | false => exact iteF (k2 rfl H' s)
theorem s_set1 (h : Gives H0 te G σ) (k : ∀ H' u, Same H0 H' → G.p H' u → D.nx (σ.set i (some u)) H') : tAsg te (gName i) D σ H0 :=
  h H0 _ Same.rfl' fun H' u s g => k H' u s g
theorem t_eqI2 {r k : Int} (h : Gives H0 te (gEq (.int r)) σ) : GivesT H0 (tTest (tOp rEq te (tC (.int k)))) (decide (r = k)) σ := fun H Q s q =>
  h H _ s fun H1 u s1 e => by
    have e : u = .int r := e
    subst e
    refine ⟨rfl, _, rfl, ?_⟩
    have z : decide (V.int r = V.int k) = decide (r = k) := decide_eq_decide.mpr ⟨fun h => V.int.inj h, fun h => by rw [h]⟩
    rw [z]
    exact q H1 s1
theorem t_eqI {r k : Int} (h : σ[i]? = some (some (.int r))) : GivesT H0 (tTest (tOp rEq (tVar i) (tC (.int k)))) (decide (r = k)) σ := fun H Q s q => by
  refine ⟨_, h, rfl, _, rfl, ?_⟩
  have z : decide (V.int r = V.int k) = decide (r = k) := decide_eq_decide.mpr ⟨fun h => V.int.inj h, fun h => by rw [h]⟩
  rw [z]
  exact q H Same.rfl'
theorem t_neI {r k : Int} (h : Gives H0 te (gEq (.int r)) σ) : GivesT H0 (tTest (tOp rNe te (tC (.int k)))) (!decide (r = k)) σ := fun H Q s q =>
  h H _ s fun H1 u s1 e => by
    have e : u = .int r := e
    subst e
    refine ⟨rfl, _, rfl, ?_⟩
    have z : decide (V.int r = V.int k) = decide (r = k) := decide_eq_decide.mpr ⟨fun h => V.int.inj h, fun h => by rw [h]⟩
    rw [z]
    exact q H1 s1
theorem g_and (h : Gives H0 te (gEq (.bl b)) σ) (k : b = true → Gives H0 tf (gEq (.bl c)) σ) : Gives H0 (tAndV te tf) (gEq (.bl (b && c))) σ := fun H Q s q =>
  h H _ s fun H1 u s1 e => by
    refine ⟨b, e, ?_⟩
    cases b with
    | true => exact iteT (k rfl H1 Q (s.trans s1) fun H2 u2 s2 e2 => q H2 u2 (s1.trans s2) e2)
    | false => exact iteF (q H1 _ s1 rfl)
theorem t_valB (h : Gives H0 te (gEq (.bl b)) σ) : GivesT H0 (tB te) b σ := fun H Q s q => h H _ s fun H1 u s1 e => ⟨b, e, q H1 s1⟩
end
abbrev rGtI : R2 := rI0 fun i j => .bl (decide (j < i))
abbrev rLeI : R2 := rI0 fun i j => .bl (decide (i ≤ j))
abbrev rLtI : R2 := rI0 fun i j => .bl (decide (i < j))
theorem g_all {K : PySem.W.Frag} {H0 : Hp} {σ : L2.St} {te : TE} {bs : List Bool} (h : Gives H0 te (gLst (bs.map fun b => gEq (.bl b))) σ) : Gives H0 (tCB (rAll K) (tCons te tNil)) (gEq (.bl (bs.all id))) σ := fun H Q s q =>
  h H _ s fun H1 u s1 g1 => by
    obtain ⟨p, us, rfl, hp, ha⟩ := g1
    have eu := all_bl ha
    subst eu
    exact ⟨p, bs, rfl, .inl (.inl hp), q H1 _ s1 rfl⟩
def rReprA (K : PySem.W.Frag) : List V → Hp → VK → Prop := fun xs H Q =>
  ∃ (x : V) (d : PyData), xs = [x] ∧ Da K H x d ∧ d.showable = true ∧ d.depth ≤ 64 ∧ d.shown.length ≤ sizeLine ∧ Q (.str d.shown) H
theorem call_reprA {X : Cx} (hm : ∃ mm, X.base.Ns sysModules mm) (gd : X.A.guards = some []) (hu : X.A.units + 70 < cLine) :
    CallR X (.builtin "repr") (rReprA X.K) := by
  intro pins s σ H xs us Q I r h
  obtain ⟨x, d, rfl, hs, sh, dp, sz, q⟩ := h
  have big : ∀ a, x = .ref a → wpAny (model X.prog X.w) X.A (call (.builtin "repr") us) (EP X pins σ Q) X.xe s := by
    rintro a rfl
    exact call_repr hm gd hu pins s σ H _ us Q I r ⟨a, d, rfl, hs, sh, dp, sz, q⟩
  cases hs with
  | non =>
    cases r with
    | cons r1 r2 =>
      cases r2
      cases r1
      rw [PyData.shown] at q
      exact PySem.P.repr_of_none ⟨.str _, H, I.tok _, ⟨_, rfl⟩, q⟩
  | bl b =>
    cases r with
    | cons r1 r2 =>
      cases r2
      cases r1
      rw [PyData.shown] at q
      exact PySem.P.repr_of_bool ⟨.str _, H, I.tok _, ⟨_, rfl⟩, q⟩
  | int i =>
    cases r with
    | cons r1 r2 =>
      cases r2
      obtain ⟨t, rfl⟩ := r1
      rw [PyData.shown] at q
      exact PySem.P.repr_of_int (by rw [PyData.showable] at sh; exact of_decide_eq_true sh) ⟨.str _, H, I.tok _, ⟨_, rfl⟩, q⟩
  | str z =>
    cases r with
    | cons r1 r2 =>
      cases r2
      obtain ⟨t, rfl⟩ := r1
      rw [PyData.shown] at q sz
      exact PySem.P.repr_of_str ⟨.str _, H, I.tok _, ⟨_, rfl⟩, q⟩ sz
  | lst h1 h2 => exact big _ rfl
  | tup h1 h2 => exact big _ rfl
  | dic h1 h2 => exact big _ rfl
theorem s_par {H0 : Hp} {σ : L2.St} {ta : TA} {G1 G2 : GP} {i j : Nat} {D : Ends} {rest : TS} (h : GivesL H0 ta [G1, G2] σ) (k : ∀ H' u1 u2, Same H0 H' → G1.p H' u1 → G2.p H' u2 → rest D ((σ.set i (some u1)).set j (some u2)) H') : tSeq (tPar i j ta) rest D σ H0 :=
  h H0 _ Same.rfl' fun H' us s g => by
    cases g with
    | @cons _ u1 _ _ g1 g =>
    cases g with
    | @cons _ u2 _ _ g2 g =>
    cases g
    exact ⟨u1, u2, rfl, k H' u1 u2 s g1 g2⟩
section
variable {K : PySem.W.Frag} {B H0 : Hp} {σ : L2.St} {te tf : TE} {ta : TA} {i : Nat} {x v : V} {d : PyData} {ds : List PyData} {b c : Bool} {T : String} {tt uu : TT} {t rest : TS} {D : Ends} {a : Addr} {xs : List V} {k : Int} {G : GP}
theorem g_reprA (h : σ[i]? = some (some x)) (hd : Da K H0 x d) (h1 : d.showable = true) (h2 : d.depth ≤ 64) (h3 : d.shown.length ≤ sizeLine) : Gives H0 (tCB (rReprA K) (tCons (tVar i) tNil)) (gEq (.str d.shown)) σ := fun H Q s q =>
  ⟨_, h, x, d, rfl, hd.mono s, h1, h2, h3, q H _ Same.rfl' rfl⟩
theorem g_eqS {y z : Str} (h : Gives H0 te (gEq (.str y)) σ) (h' : Gives H0 tf (gEq (.str z)) σ) : Gives H0 (tOp rEq te tf) (gEq (.bl (decide (y = z)))) σ := fun H Q s q =>
  h H _ s fun H1 u s1 e1 => h' H1 _ (s.trans s1) fun H2 u' s2 e2 => by
    have e1 : u = .str y := e1
    have e2 : u' = .str z := e2
    subst e1
    subst e2
    refine ⟨rfl, q H2 _ (s1.trans s2) ?_⟩
    show _ = _
    congr 1
    exact decide_eq_decide.mpr ⟨fun h => V.str.inj h, fun h => by rw [h]⟩
end
theorem Gives.imp {H0 : Hp} {te : TE} {G G' : GP} {σ : L2.St} (h : Gives H0 te G σ) (i : ∀ H u, Same H0 H → G.p H u → G'.p H u) : Gives H0 te G' σ := fun H Q s q =>
  h H _ s fun H1 u s1 g => q H1 u s1 (i H1 u (s.trans s1) g)
theorem keepA {a p : Addr} {H1 H H' : Hp} (np : H1 p = none) (h : ∀ o, H1 a = some o → H a = some o) (b : Bu p H H') : ∀ o, H1 a = some o → H' a = some o := fun o e => b _ _ (ne_of_none e np) (h o e)
theorem sq_of {K : PySem.W.Frag} {a : Addr} {H H' : Hp} {zs : List V} (s : SqL K H a zs) (h : ∀ o, H a = some o → H' a = some o) : SqL K H' a zs := by
  rcases s with (e | ⟨o, e⟩) | e
  · exact .inl (.inl (h _ e))
  · exact .inl (.inr ⟨o, h _ e⟩)
  · exact .inr e
theorem mm_at (z : Int) (h : z ≤ 3) : -(2 ^ 62) ≤ (if z > 1 then z else 1) ∧ (if z > 1 then z else 1) < 2 ^ 62 ∧ (if z > 1 then z else 1).toNat ≤ 3 := by
  split <;> omega
theorem mm_le (n : Int) : (if n < 3 then n else 3) ≤ 3 := by
  split <;> omega
section
variable {K : PySem.W.Frag} {B H0 : Hp} {σ : L2.St} {te tf : TE} {ta : TA} {i : Nat} {x v : V} {d : PyData} {ds : List PyData} {b c : Bool} {T : String} {tt uu : TT} {t rest : TS} {D : Ends} {a : Addr} {xs : List V} {k : Int} {G : GP}
theorem g_lcQ {a : Addr} {xs ys : List V} {i : Nat} {g : TG} {vs : List Nat} (hi : σ[i]? = some (some (.ref a))) (hx : SqL K H0 a xs) (hz : xs.length ≤ 1000) (hl : ys.length = xs.length)
    (he : ∀ (j : Nat) (x y : V), xs[j]? = some x → ys[j]? = some y → ∀ (H : Hp) (R : VK), Same H0 H → (∀ H', Same H H' → R y H') →
      g x (wipe σ vs) H fun σ2 H2 => wipe σ2 vs = wipe σ vs ∧ te σ2 H2 R) :
    Gives H0 (tLc (iList K (tVar i)) g tYes te vs) (gLst (ys.map gEq)) σ := fun H Q s q => by
  refine ⟨_, hi, a, rfl, ⟨xs, s.seq hx⟩, fun D nD => ?_⟩
  have sD : Same H (upd H D (.lst [])) := same_put nD
  have y := sizeLine_eq
  refine lc_list (K := K) (a := a) (xs := xs) (fun k H' => Same H H' ∧ H' D = some (.lst (ys.take k))) ⟨sD, upd_same⟩ (fun k H' _ ⟨s', _⟩ => s'.seq (s.seq hx)) ?_ ?_
  · rintro k x H' hk ⟨s', eD⟩
    have hk' : k < ys.length := by
      obtain ⟨h, _⟩ := List.getElem?_eq_some_iff.mp hk
      omega
    have hy := List.getElem?_eq_getElem hk'
    refine cast ?_ (he k x ys[k] hk hy H' (fun y H4 => ∃ acc, H4 D = some (.lst acc) ∧ acc.length < sizeLine ∧ Same H (upd H4 D (.lst (acc ++ [y]))) ∧ upd H4 D (.lst (acc ++ [y])) D = some (.lst (ys.take (k + 1)))) (s.trans s') fun H4 s4 => ⟨_, s4 _ _ eD, ?_, ?_, ?_⟩)
    · rfl
    · rw [List.length_take]
      omega
    · intro b o e
      rw [upd_ne (ne_of_none e nD)]
      exact s4 _ _ (s' _ _ e)
    · rw [upd_same, List.take_add_one, hy]
      rfl
  · rintro H' ⟨s', eD⟩
    rw [← hl, List.take_length] at eD
    exact q H' _ s' ⟨D, ys, rfl, eD, allEq⟩
end
/-! ### f(k = v, ..), keywords alone -/
section
variable {X : Cx} {CX : CXT} {k : Nat} {f : Addr} {fd : FuncData} {ps ks : List Str} {sp : Sp} {E : XK} {x : Str} {p pos : Pos} {kws : List Keyword} {tk : TA} {pm : {α : Type} → List α → List α}
def tCallKs (pm : {α : Type} → List α → List α) (sp : Sp) (E : XK) (tk : TA) : TE := fun σ H Q => tk σ H fun zs H2 => sp (pm zs) H2 Q E
theorem pe_callKs (pm : {α : Type} → List α → List α) (F : FnOk X.prog X.w X.K X.mg X.base CX k f fd ps sp) (hr : Room k X.A) (hg : Gl X x) (hm : X.mg x = some (.ref f)) (hk : PySem.W.keepIn X.K (.ref f) = true)
    (hb : ∀ (s : Shared) (us : List Value), us.length = ks.length → BindsTo s fd ⟨[], ks.zip us⟩ (ps.zip (pm us))) (hpm : ∀ (zs : List V) (us : List Value), zs.length = ks.length → Vals zs us → Vals (pm zs) (pm us)) (hx : Passes CX X E)
    (hkw : PK X kws tk) (hl : ∀ zs H Q E, sp (pm zs) H Q E → zs.length = ks.length) (hall : (backToKw pos (keywordEach kws X.env)).all (·.1.isSome) = true := by rfl) (hks : (backToKw pos (keywordEach kws X.env)).filterMap (·.1) = ks := by rfl)
    (hdb : (x == ("__debug__" : Str)) = false := by decide) (hpl : ((backTo pos (starEach [] X.env)).any (·.1) || (backToKw pos (keywordEach kws X.env)).any (·.1.isNone)) = false := by rfl) :
    PE X (.Call (.Name x p) [] kws pos) (tCallKs pm sp E tk) := by
  refine ⟨fun pins s σ H Q I h => ?_⟩
  refine wpAny_Call_Name_kw (ld_glob I hg hm ?_ hdb)
  refine PySem.W.callWith_KW0 (h₀ := X.base) I.ok.mod.kin hk hall ?_ hpl
  refine thn (hkw.run pos pins s σ H _ I h) fun ws s2 ⟨zs, H2, I2, rz, q2⟩ => ⟨I2.kIn, ?_⟩
  rw [hks]
  have hz := hl _ _ _ _ q2
  refine wpAny_call (codeAny_mono (F.run X.A X.stack s2 H2 ⟨[], ks.zip ws⟩ (pm ws) (pm zs) Q E hr I2.env0 (hb s2 ws (rz.length.symm.trans hz)) (hpm zs ws hz rz) q2) fun r s' hq => ?_)
  cases r with
  | error e => exact hx pins σ H2 s2 e s' I2 hq
  | ok fl =>
    cases fl with
    | ret u => exact I2.after hq
    | next => exact False.elim hq
    | brk => exact False.elim hq
    | cont => exact False.elim hq
end
end Ev

/-! ## Sets of texts, whose members can be walked -/
namespace Ev
open PySem PySem.Spec PyProof.Rows L2
def keyS (e : Int × Value) : Str := match e.2 with
  | .str x _ => x
  | _ => ""
def goodS (w : World) (e : Int × Value) : Prop := ∃ x tk, e = (hashStr w x, Value.str x tk)
/-- what is left when k comes in -/
def addN (ks : List Str) (k : Str) : List Str := if k ∈ ks then ks else ks ++ [k]
theorem mem_addN {ks : List Str} {k x : Str} : x ∈ addN ks k ↔ x ∈ ks ∨ x = k := by
  unfold addN
  split
  · exact ⟨.inl, fun z => z.elim id fun e => by rw [e]; assumption⟩
  · rw [List.mem_append, List.mem_singleton]
theorem addN_nodup {ks : List Str} {k : Str} (h : ks.Nodup) : (addN ks k).Nodup := by
  unfold addN
  split
  · exact h
  · rename_i n
    rw [List.nodup_append]
    refine ⟨h, by simp, fun x hx y hy e => ?_⟩
    rw [List.mem_singleton.mp hy] at e
    rw [e] at hx
    exact n hx
theorem addN_len {ks : List Str} {k : Str} : (addN ks k).length ≤ ks.length + 1 := by
  unfold addN
  split
  · exact Nat.le_succ _
  · rw [List.length_append]
    exact Nat.le_refl _
/-- the set of the texts ks at a -/
def SetS (w : World) (h : Heap) (a : Addr) (ks : List Str) : Prop := ∃ (o : Obj) (es : Array (Int × Value)) (ep : Nat) (t : SetTable), h.get? a = some o ∧ o.ExactSet ∧ o.data = .set es ep t ∧ (∀ e ∈ es.toList, goodS w e) ∧
  (es.toList.map keyS).Perm ks ∧ ks.Nodup ∧ es.size < scanBound ∧ t.fits es.size = true ∧ Ris t.place.toList ∧ (w.params.followText "set-order" = true ∨ t.led = true)
section
variable {P : Program} {w : World} {A : Around} {E : Value → Shared → Prop} {s : Shared} {h h' : Heap} {a : Addr} {ks : List Str}
theorem SetS.at (R : SetS w h a ks) (k : ∀ o, h.get? a = some o → h'.get? a = some o) : SetS w h' a ks := by
  obtain ⟨o, es, ep, t, ho, r⟩ := R
  exact ⟨o, es, ep, t, k o ho, r⟩
theorem goodS_elems {l : List (Int × Value)} (g : ∀ e ∈ l, goodS w e) : ElemsOf (PySem.strKind P w) l := fun e he => by
  obtain ⟨x, tk, rfl⟩ := g e he
  refine ⟨⟨x, ?_, rfl⟩, rfl⟩
  show Value.isStrOf x (.str x tk) = true
  simp [Value.isStrOf]
theorem goodS_is {e : Int × Value} (g : goodS w e) (x : Str) : (PySem.strKind P w).is x e.2 = true ↔ keyS e = x := by
  obtain ⟨y, tk, rfl⟩ := g
  show Value.isStrOf x (.str y tk) = true ↔ y = x
  simp [Value.isStrOf]
theorem SetS.kind (R : SetS w h a ks) : h.SetOf (PySem.strKind P w) a (fun k => decide (k ∈ ks)) ks.length := by
  obtain ⟨o, es, ep, t, ho, hx, hd, g, pm, nd, hb, hf, _⟩ := R
  refine ⟨o, es, ep, t, ho, hx, hd, goodS_elems g, fun k => ?_, hb, hf, ?_⟩
  · rw [decide_eq_true_iff, ← pm.mem_iff, List.mem_map]
    constructor
    · rintro ⟨e, he, q⟩
      exact ⟨e, he, (goodS_is (g e he) k).2 q⟩
    · rintro ⟨e, he, q⟩
      exact ⟨e, he, (goodS_is (g e he) k).1 q⟩
  · have z := pm.length_eq
    rw [List.length_map, Array.length_toList] at z
    exact z
theorem setS_new (w : World) (h : Heap) : SetS w (h.push { cls := .type "set", dict := none, data := .set #[] 0 (.fresh 0 0 (!w.params.followText "set-order")) }) h.objs.size [] := by
  refine ⟨_, #[], 0, _, Heap.get?_push_size _ rfl, ⟨rfl, rfl, rfl⟩, rfl, fun e he => ?_, .nil, .nil, by decide, by rfl, .nil, ?_⟩
  · cases he
  · by_cases z : w.params.followText "set-order" = true
    · exact .inl z
    · refine .inr ?_
      show (!w.params.followText "set-order") = true
      rw [Bool.eq_false_iff.mpr z]
      rfl
/-- the entries es1 in the table t1 are written, and laid anew where the table is full -/
theorem lay_S {g : Bool → Sem Unit} (hg : ∀ (b : Bool) (s1 : Shared) (Q' : Unit → Shared → Prop), Q' () s1 → wpAny (model P w) A (g b) Q' E s1) {o : Obj} {es es1 : Array (Int × Value)} {ep : Nat} {t t1 : SetTable}
    (ho : s.heap.get? a = some o) (hx : o.ExactSet) (hd : o.data = .set es ep t) (g1 : ∀ e ∈ es1.toList, goodS w e) (pm : (es1.toList.map keyS).Perm ks) (nd : ks.Nodup) (hb : es1.size < scanBound) (hf : t1.fits es1.size = true)
    (hr : Ris t1.place.toList) (hl : w.params.followText "set-order" = true ∨ t1.led = true) {was : Bool} {R : Option Bool → Shared → Prop} (k : ∀ h', Heap.SameBut a s.heap h' → SetS w h' a ks → R (some true) { s with heap := h' }) :
    wpAny (model P w) A (do
        storeSet a es1 t1
        if (!was && t1.tooFull) = true then do
            g (relayAll t1 es1 (SetTable.grown es1.size)).2.2
            storeSet a (relayAll t1 es1 (SetTable.grown es1.size)).1 (relayAll t1 es1 (SetTable.grown es1.size)).2.1
            pure (some true)
          else pure (some true)) R E s := by
  have put : ∀ {hh : Heap} {oo : Obj} {e0 e1 : Array (Int × Value)} {n : Nat} {t0 t2 : SetTable}, hh.get? a = some oo → oo.data = .set e0 n t0 → (hh.update a (Obj.putSet e1 t2)).get? a = some { oo with data := .set e1 (n + 1) t2 } := by
    intro hh oo e0 e1 n t0 t2 x y
    have z := Heap.get?_update_self (Obj.putSet e1 t2) x (by rw [putSet_of e1 t2 y]; rfl)
    rw [putSet_of e1 t2 y] at z
    exact z
  have o1 := put (e1 := es1) (t2 := t1) ho hd
  have b1 := Heap.SameBut.update s.heap a (Obj.putSet es1 t1)
  refine wpAny_bind (wpAny_storeSet_of ho hd ?_ (fits_of_scanBound hb))
  by_cases full : (!was && t1.tooFull) = true
  · rw [if_pos full]
    have q1 := relayAll_perm t1 es1 (SetTable.grown es1.size)
    have q2 := relayAll_fits t1 es1 (SetTable.grown es1.size)
    have q3 := relayAll_ris t1 es1 (SetTable.grown es1.size)
    have q4 := relayAll_led t1 es1 (SetTable.grown es1.size)
    revert q1 q2 q3 q4
    generalize relayAll t1 es1 (SetTable.grown es1.size) = Z
    obtain ⟨e2, t2, gv⟩ := Z
    intro q1 q2 q3 q4
    have sz : e2.size = es1.size := by
      have z := q1.length_eq
      rwa [Array.length_toList, Array.length_toList] at z
    refine wpAny_bind (hg _ _ _ (wpAny_bind (wpAny_storeSet_of o1 rfl (wpAny_pure (k _ (b1.trans (Heap.SameBut.update _ a _)) ?_)) (fits_of_scanBound (by rw [sz]; exact hb)))))
    refine ⟨_, e2, _, t2, put o1 rfl, hx, rfl, fun e he => g1 e (q1.mem_iff.mp he), (q1.map keyS).trans pm, nd, by rw [sz]; exact hb, q2, q3, ?_⟩
    rcases hl with z | z
    · exact .inl z
    · exact .inr (q4.trans z)
  · rw [if_neg full]
    exact wpAny_pure (k _ b1 ⟨_, es1, _, t1, o1, hx, rfl, g1, pm, nd, hb, hf, hr, hl⟩)
theorem lay_in {k : Str} {tk : Tok} {Q : Bool → Shared → Prop} (R : SetS w s.heap a ks) (room : ks.length + 1 < scanBound)
    (q : ∀ h', Heap.SameBut a s.heap h' → SetS w h' a (addN ks k) → ∀ b, Q b { s with heap := h' }) : wpAny (model P w) A (setAddHashed a (.str k tk) ((PySem.strKind P w).hash k)) Q E s := by
  obtain ⟨o, es, ep, t, ho, hx, hd, g, pm, nd, hb, hf, hr, hl⟩ := R
  have hel : ElemsOf (PySem.strKind P w) es.toList := goodS_elems g
  have me : (PySem.strKind P w).is k (.str k tk) = true := by
    show Value.isStrOf k (.str k tk) = true
    simp [Value.isStrOf]
  have sc : (Value.str k tk).scannable = true := rfl
  have quiet : ∀ (b : Bool) (s1 : Shared) (Q' : Unit → Shared → Prop), Q' () s1 → wpAny (model P w) A (match b with | true => rule "set.scan.the-table-gave-way" | false => pure ()) Q' E s1 := fun b s1 Q' z => by
    cases b
    · exact wpAny_pure z
    · exact wpAny_rule z
  unfold setAddHashed setAddHashedIn
  refine wpAny_holding (wpAny_bind (wpAny_setState_of ho hd hf ?_))
  dsimp only
  rw [byScan_of sc hb hel]
  simp only [↓reduceIte]
  unfold setAddByScan
  refine wpAny_bind (wpAny_bind (wpAny_rule (wpAny_bind (wpAny_setScan_of me ho hd hf hel ?_))))
  cases hi : List.findIdx? (fun e => (PySem.strKind P w).is k e.2) es.toList with
  | some j =>
    dsimp only
    obtain ⟨hj, pj, _⟩ := List.findIdx?_eq_some_iff_getElem.mp hi
    have inn : k ∈ ks := by
      refine pm.mem_iff.mp (List.mem_map.mpr ⟨es.toList[j], List.getElem_mem hj, ?_⟩)
      exact (goodS_is (P := P) (g _ (List.getElem_mem hj)) k).1 pj
    have e : addN ks k = ks := if_pos inn
    rw [e] at q
    exact wpAny_pure (wpAny_pure (q s.heap (Heap.SameBut.refl a s.heap) ⟨o, es, ep, t, ho, hx, hd, g, pm, nd, hb, hf, hr, hl⟩ _))
  | none =>
    dsimp only
    have out : k ∉ ks := fun z => by
      obtain ⟨e, he, ek⟩ := List.mem_map.mp (pm.mem_iff.mpr z)
      have c := List.findIdx?_eq_none_iff.mp hi e he
      rw [(goodS_is (P := P) (g e he) k).2 ek] at c
      cases c
    have e : addN ks k = ks ++ [k] := if_neg out
    have nd1 : (ks ++ [k]).Nodup := by
      rw [← e]
      exact addN_nodup nd
    have q1 := layNew_perm t es ((PySem.strKind P w).hash k) (.str k tk)
    have q2 := layNew_fits t es ((PySem.strKind P w).hash k) (.str k tk)
    have q3 := layNew_ris t es ((PySem.strKind P w).hash k) (.str k tk) hr
    have q4 := layNew_led t es ((PySem.strKind P w).hash k) (.str k tk)
    revert q1 q2 q3 q4
    generalize layNew t es ((PySem.strKind P w).hash k) (.str k tk) = Z
    obtain ⟨es1, t1, was, gave⟩ := Z
    intro q1 q2 q3 q4
    dsimp only at q1 q2 q3 q4 ⊢
    rw [Array.toList_push] at q1
    have g1 : ∀ x ∈ es1.toList, goodS w x := fun x hx => by
      rcases List.mem_append.mp (q1.mem_iff.mp hx) with z | z
      · exact g x z
      · rw [List.mem_singleton.mp z]
        exact ⟨k, tk, rfl⟩
    have pm1 : (es1.toList.map keyS).Perm (ks ++ [k]) := by
      have z := q1.map keyS
      rw [List.map_append] at z
      exact z.trans (List.Perm.append_right _ pm)
    have sz : es1.size < scanBound := by
      have z := pm1.length_eq
      rw [List.length_map, Array.length_toList, List.length_append] at z
      rw [z]
      exact room
    have l1 : w.params.followText "set-order" = true ∨ t1.led = true := by
      rcases hl with z | z
      · exact .inl z
      · exact .inr (q4.trans z)
    rw [e] at q
    refine wpAny_bind (quiet _ _ _ ?_)
    split
    · refine wpAny_bind ?_
      rw [hashByValue_scannable 8 sc]
      refine wpAny_pure ?_
      refine lay_S ?_ ho hx hd g1 pm1 nd1 sz ?_ ?_ ?_ fun h' sb r => ?_
      · intro b s1 Q' z
        cases b <;> first | exact wpAny_pure z | exact wpAny_rule z
      · first | exact q2 | (split <;> first | exact q2 | exact SetTable.fits_plain_off q2)
      · first | exact q3 | (split <;> exact q3)
      · first | exact l1 | (split <;> exact l1)
      · exact wpAny_pure (q h' sb r _)
    · refine wpAny_bind (wpAny_pure ?_)
      simp only [↓reduceIte]
      refine lay_S ?_ ho hx hd g1 pm1 nd1 sz q2 q3 l1 fun h' sb r => ?_
      · intro b s1 Q' z
        cases b <;> first | exact wpAny_pure z | exact wpAny_rule z
      · exact wpAny_pure (q h' sb r _)
/-- a text comes into a set -/
theorem add_S {k : Str} {tk : Tok} {Q : Value → Shared → Prop} (R : SetS w s.heap a ks) (room : ks.length + 1 < scanBound)
    (q : ∀ h', Heap.SameBut a s.heap h' → SetS w h' a (addN ks k) → Q .none { s with heap := h', toks := s.toks + 1 }) : wpAny (model P w) A (call (.builtin "set.add") [.ref a, .str k tk]) Q E s := by
  have me : (PySem.strKind P w).is k (.str k tk) = true := by
    show Value.isStrOf k (.str k tk) = true
    simp [Value.isStrOf]
  refine wpAny_call_entry F.slot_set_add (R.kind (P := P)).typeIs F.entry_set_add ?_ (F.args_set_add_2 _ _)
  unfold Builtin.«set.add» Builtin.Frozenset.oneOther
  simp only [List.isEmpty_nil, bind_assoc]
  unfold Builtin.Frozenset.addrOf setAdd
  refine wpAny_bind (wpAny_pure ?_)
  try dsimp only
  refine wpAny_bind (wpAny_pure ?_)
  try dsimp only
  refine wpAny_bind (wpAny_holding (wpAny_bind ((PySem.strKind P w).pyHash me ?_)))
  refine lay_in (s := { s with toks := s.toks + 1 }) R room fun h' sb r b => ?_
  show wpAny _ _ (ret Value.none) _ _ _
  exact wpAny_pure ⟨_, rfl, q h' sb r⟩
end
end Ev

/-! ## {text for .. in ..}, sorted of a set of texts -/
namespace Ev
open PySem PySem.Spec PyProof.Rows L2
def SetSO (w : World) (a : Addr) (ks : List Str) : HO := .ext fun h => SetS w h a ks
theorem setSO_ok {w : World} {P : Program} {H : Hp} {h : Heap} {a : Addr} {ks : List Str} (R : SetS w h a ks) : ObjOk P w H h a (SetSO w a ks) := by
  refine ⟨R, ?_, fun h1 h2 p k => p.at k⟩
  obtain ⟨o, _, _, _, ho, _⟩ := R
  exact ⟨o, ho⟩
section
variable {X : Cx}
theorem setSO_at {pins : List (Addr × Obj)} {σ : L2.St} {H : Hp} {s : Shared} {a : Addr} {ks : List Str} (I : Inv X pins σ H s) (ha : H a = some (SetSO X.w a ks)) : SetS X.w s.heap a ks := (I.hok a _ ha).1
theorem addSO {pins : List (Addr × Obj)} {σ : L2.St} {H : Hp} {s : Shared} {E : Value → Shared → Prop} {a : Addr} {ks : List Str} {k : Str} {tk : Tok} {Q : Value → Shared → Prop} (I : Inv X pins σ H s) (ha : H a = some (SetSO X.w a ks)) (room : ks.length + 1 < scanBound)
    (q : ∀ s', Inv X pins σ (upd H a (SetSO X.w a (addN ks k))) s' → Q .none s') : wpAny (model X.prog X.w) X.A (call (.builtin "set.add") [.ref a, .str k tk]) Q E s := by
  refine add_S (setSO_at I ha) room fun h' sb R => q _ ?_
  have he : ∃ u, h'.get? a = some u := by
    obtain ⟨o, _, _, _, ho, _⟩ := R
    exact ⟨o, ho⟩
  exact I.write (e := a) (t' := s.toks + 1) (by rw [ha]; trivial) (.inl rfl) (fun b u hb hu => (sb.2 b hb).trans hu) he (setSO_ok R)
/-- a set comprehension whose elements are texts -/
def tScS (w : World) (wi : TI) (g : TG) (tt : TT) (te : TE) (vs : List Nat) : TE := fun σ H Q => wi σ H fun J H1 => ∀ D, H1 D = none → ∃ W : Nat → Nat → Hp → Prop, (∃ m, W 0 m (upd H1 D (SetSO w D []))) ∧ ∀ i m H, W i m H →
  (J.stop i H ∧ Q (.ref D) H) ∨ (J.go i H ∧ ∃ Nx : Hp → Prop, (∀ H', Nx H' → ∃ m', m' < m ∧ W (i + 1) m' H') ∧ ∀ x H', J.yld i H x H' → g x (wipe σ vs) H' fun σ2 H2 => wipe σ2 vs = wipe σ vs ∧ tt σ2 H2 fun b H3 =>
    if b = true then te σ2 H3 fun y H4 => ∃ (c : Str) (ks : List Str), y = .str c ∧ H4 D = some (SetSO w D ks) ∧ ks.length + 1 < scanBound ∧ Nx (upd H4 D (SetSO w D (addN ks c))) else Nx H3)
theorem pe_scS {elt tg iter : Expr} {ifs : List Expr} {scope : Scope} {own : List (Str × Nat)} {pos : Pos} {wi : TI} {g : TG} {tt : TT} {te : TE} (hc : X.calm = true) (hN : X.N.Nodup) (hi : PI X tg iter wi) (ok : BlkOk X.N X.env.scope scope own)
    (hg : ∀ (s : Shared) (H : Hp) (C : Addr) (cl : List (Str × Addr)) (fp : List Addr), PG (X.blk s H scope (compEnvC scope cl C X.env) fp) tg g) (ht : ∀ (s : Shared) (H : Hp) (C : Addr) (cl : List (Str × Addr)) (fp : List Addr), PTs (X.blk s H scope (compEnvC scope cl C X.env) fp) ifs tt)
    (he : ∀ (s : Shared) (H : Hp) (C : Addr) (cl : List (Str × Addr)) (fp : List Addr), PE (X.blk s H scope (compEnvC scope cl C X.env) fp) elt te) (hs : ∀ x, foldedSetIterable iter X.env x = pure x := by intro _; rfl) :
    PE X (.SetComp elt [⟨tg, iter, ifs, 0⟩] scope pos) (tScS X.w wi g tt te (own.map (·.2))) := by
  refine ⟨fun pins s σ H Q I h => ?_⟩
  rw [PpSet.eval_SetComp]
  have fr : ∀ y ∈ scope.names, y.2 = .free → ∃ c, X.env.cells.lookup y.1 = some c := fun y hy e => (ok.free y hy e).elim (fun k => I.ok.has _ (.inl k)) fun k => I.ok.has _ (.inr k)
  refine wpAny_comprehension_free (use := none) rfl hs (closure_ok fr) ok.kind (fun y hy e => by rw [ok.uniq y hy, e]) (thn (hi.run pins s σ H _ I h) fun xv s1 hx => thn hx fun itv s2 h2 => ?_)
  obtain ⟨it, fp, tn, J, H2, rfl, I2, T, st2, f2, q⟩ := h2
  refine PpSet.newSet_ok (newEnv_comp ?_)
  -- the set, new at D, and the block's own context
  obtain ⟨D, hD⟩ : ∃ D, s2.heap.objs.size = D := ⟨_, rfl⟩
  obtain ⟨s3, hs3⟩ : ∃ s3 : Shared, { s2 with heap := s2.heap.push { cls := .type "set", dict := none, data := .set #[] 0 (.fresh 0 0 (!X.w.params.followText "set-order")) } } = s3 := ⟨_, rfl⟩
  have h3 : s3.heap = s2.heap.push { cls := .type "set", dict := none, data := .set #[] 0 (.fresh 0 0 (!X.w.params.followText "set-order")) } := by rw [← hs3]
  have old3 : ∀ b o, s2.heap.get? b = some o → s3.heap.get? b = some o := fun b o e => by
    rw [h3]
    exact Heap.get?_push_of_some _ e
  obtain ⟨W, ⟨m0, w0⟩, turn⟩ := q D (I2.hok.fresh (Nat.le_of_eq hD))
  obtain ⟨H3, hH3⟩ : ∃ H3 : Hp, upd H2 D (SetSO X.w D []) = H3 := ⟨_, rfl⟩
  rw [hH3] at w0
  have I3 : Inv X pins σ H3 s3 := by
    rw [← hs3, ← hH3, ← hD]
    exact I2.laid (t' := s2.toks) (fun b o e => Heap.get?_push_of_some _ e) (Nat.le_refl _) (setSO_ok (setS_new X.w s2.heap))
  have f3 : ∀ b ∈ fp, FpOk X pins H3 b ∧ b < s3.heap.objs.size := fun b hb => by
    obtain ⟨o, eo, _⟩ := T.obj _ _ st2 b hb
    have lt2 := Heap.lt_size eo
    have ne : b ≠ D := by
      rw [← hD]
      exact Nat.ne_of_lt lt2
    refine ⟨⟨?_, (f2 b hb).2⟩, Heap.lt_size (old3 b o eo)⟩
    rw [← hH3, upd_ne ne]
    exact (f2 b hb).1
  have I4 := block_start I3 ok hN f3
  have pg := hg s3 H3 s3.heap.objs.size (cellsFrom (s3.heap.objs.size + 1) scope.names (cloFrom X.env.cells scope.names [])) fp
  have pt := ht s3 H3 s3.heap.objs.size (cellsFrom (s3.heap.objs.size + 1) scope.names (cloFrom X.env.cells scope.names [])) fp
  have pe := he s3 H3 s3.heap.objs.size (cellsFrom (s3.heap.objs.size + 1) scope.names (cloFrom X.env.cells scope.names [])) fp
  rw [hs3]
  show codeAny _ _ (.compStart (.SetComp elt [⟨tg, iter, ifs, 0⟩] scope pos) 0 (.ref it) (.ref s2.heap.objs.size) (compEnvC scope (cellsFrom (s3.heap.objs.size + 1) scope.names (cloFrom X.env.cells scope.names [])) s3.heap.objs.size X.env)) (compPost (model X.prog X.w) X.A X.xe none _ (.ref s2.heap.objs.size) s3.heap.objs.size) { s3 with heap := pushCells (s3.heap.push { cls := .type "dict", data := .dict #[] }) scope.names }
  rw [hD]
  obtain ⟨ce, hce⟩ : ∃ ce, compEnvC scope (cellsFrom (s3.heap.objs.size + 1) scope.names (cloFrom X.env.cells scope.names [])) s3.heap.objs.size X.env = ce := ⟨_, rfl⟩
  have cL : ce.locals = s3.heap.objs.size := by
    rw [← hce]
    rfl
  obtain ⟨s4, hs4⟩ : ∃ s4 : Shared, { s3 with heap := pushCells (s3.heap.push { cls := .type "dict", data := .dict #[] }) scope.names } = s4 := ⟨_, rfl⟩
  rw [hce] at I4 pg pt pe ⊢
  rw [hs4] at I4 ⊢
  have st4 : tn 0 s4.heap := T.keep _ _ _ st2 fun b _ o e => by
    rw [← hs4]
    exact pushCells_keeps _ _ _ _ (Heap.get?_push_of_some _ (old3 b o e))
  let Y := X.blk s3 H3 scope ce fp
  have out : ∀ {σ' : L2.St} {H' : Hp} {s' : Shared}, Inv Y [] σ' H' s' → (∀ b ∈ fp, H' b = none) → ∀ b ∈ fp, FpOk Y [] H' b := fun {σ' H' s'} I' hn b hb =>
    ⟨hn b hb, (I'.ok.exf b hb).1, I'.ok.exfs b hb, .inl hb, fun x c e => (I'.ok.exf b hb).2 x c e, fun p hp => absurd (show p ∈ ([] : List (Addr × Obj)) ++ [] from hp) (by simp)⟩
  -- what holds between two turns
  let Mid : Nat → Shared → Prop := fun n s' => ∃ i H', Inv Y [] (wipe σ (own.map (·.2))) H' s' ∧ tn i s'.heap ∧ (∀ b ∈ fp, H' b = none) ∧ W i n H'
  have loop : codeAny (model X.prog X.w) X.A (.compLoop (.SetComp elt [⟨tg, iter, ifs, 0⟩] scope pos) 0 (.ref it) (.ref D) ce) (compPost (model X.prog X.w) X.A X.xe none (EP X pins σ Q) (.ref D) s3.heap.objs.size) s4 := by
    refine PpSet.compLoopS_any Mid (fun n s5 ⟨i, H5, I5, st5, n5, w5⟩ => ?_) m0 ⟨0, H3, I4, st4, fun b hb => (f3 b hb).1.1, w0⟩
    rcases turn i n H5 w5 with ⟨stop, qq⟩ | ⟨go, Nx, hNx, step⟩
    · refine thnF (T.done Y rfl rfl rfl hc i [] s5 _ H5 (fun _ _ => False) I5 (out I5 n5) st5 stop) fun r s6 ⟨hr, I6⟩ => ?_
      subst hr
      have I7 : Inv X pins σ H5 s6 := I3.call' (ch := fp) I6.os I6.base I6.hok I6.bare fun b hb => ⟨(f3 b hb).1.2.2.2.1, (f3 b hb).1.2.1, (f3 b hb).1.2.2.2.2.1, (f3 b hb).1.2.2.2.2.2⟩
      have nC : H5 s3.heap.objs.size = none := by
        rw [← cL]
        exact I6.free
      obtain ⟨m, hn, _⟩ := I6.loc
      have hn : s6.heap.Ns ce.locals m := hn
      rw [cL] at hn
      obtain ⟨z0, z1, _, z3, z4, z5⟩ := I3.fpOk (Nat.le_refl _) nC
      exact ⟨m, hn, fun h'' sb => ⟨.ref D, H5, I7.turned (t' := s6.toks) (fun b o hb e => (sb.2 b hb).trans e) z0 z1 z3 z4 z5, rfl, qq⟩⟩
    · refine thnF (T.item Y rfl rfl rfl hc i [] s5 _ H5 (fun _ _ => False) I5 (out I5 n5) st5 go) fun r s6 ⟨u, hr, h6⟩ => ?_
      subst hr
      refine thnF h6 fun _ s7 ⟨x, H7, I7, r7, y7, st7, n7⟩ => ?_
      refine thnF (pg.run _ s7 _ H7 x u _ (I7.pinned (out I7 n7) (T.obj _ _ st7)) r7 (step x H7 y7)) fun _ s8 ⟨σ8, H8, I8, hw8, q8⟩ => ?_
      refine thnF (pt.run _ s8 σ8 H8 _ I8 q8) fun b s9 ⟨H9, I9, q9⟩ => ?_
      have next : ∀ {s' : Shared} {H' : Hp}, Inv Y ([] ++ pinsAt fp s7.heap) σ8 H' s' → Nx H' → ∃ m, m < n ∧ Mid m s' := fun {s' H'} I' nx => by
        obtain ⟨m', hm, w'⟩ := hNx H' nx
        have pin' : ∀ b ∈ fp, ∀ o, s7.heap.get? b = some o → s'.heap.get? b = some o ∧ H' b = none := fun b hb o e => by
          have z := I'.pin (b, o) (List.mem_append_right _ (List.mem_append_right _ (mem_pinsAt hb e)))
          exact ⟨z.1, z.2.1⟩
        have hl : (wipe σ (own.map (·.2))).length = σ8.length := by
          rw [← hw8, wipe_length]
        refine ⟨m', hm, i + 1, H', (I'.unpinned (pins := [])).weak hl (fun j v e => ?_), T.keep _ _ _ st7 fun b hb o e => (pin' b hb o e).1, fun b hb => ?_, w'⟩
        · rw [← hw8] at e
          exact (wipe_some e).1
        · obtain ⟨o, e, _⟩ := T.obj _ _ st7 b hb
          exact (pin' b hb o e).2
      dsimp only at q9
      by_cases hb : b = true
      · subst hb
        rw [if_pos rfl] at q9 ⊢
        refine thnF (pe.run _ s9 σ8 H9 _ I9 q9) fun z s10 ⟨yv, H10, I10, r10, c0, ks, ey, hD10, hz10, nx⟩ => ?_
        subst ey
        obtain ⟨tk, rfl⟩ := (show ∃ tk, z = Value.str c0 tk from r10)
        exact addSO (X := Y) I10 hD10 hz10 fun s11 I11 => next I11 nx
      · rw [if_neg hb] at q9 ⊢
        exact next I9 q9
  exact PpSet.codeAny_compStart_set loop (T.self X.A 0 _ _ _ st4 loop)
end
end Ev

/-! ## sorted(set of texts), set(list of texts) -/
namespace Ev
open PySem PySem.Spec PyProof.Rows L2
section
variable {P : Program} {w : World} {A : Around} {E : Value → Shared → Prop} {s : Shared} {a : Addr} {ks : List Str}
theorem strs_map {w : World} : ∀ {vs : List Value}, (∀ v ∈ vs, ∃ x tk, v = Value.str x tk) → StrsAre vs (vs.map fun v => keyS (0, v))
  | [], _ => .nil
  | v :: vs, h => by
    obtain ⟨x, tk, rfl⟩ := h v (List.mem_cons_self ..)
    exact .cons x tk (strs_map (w := w) fun u hu => h u (List.mem_cons_of_mem _ hu))
theorem sorted_S {Q : Value → Shared → Prop} (R : SetS w s.heap a ks) (hh : A.handled = none) (few : ks.length < 64)
    (q : ∀ s' p (out : Array Value) (c : Nat) (ys : List Str), (∀ b o, s.heap.get? b = some o → s'.heap.get? b = some o) → s'.gens = s.gens → s'.os = s.os → s.heap.objs.size ≤ p →
      s'.heap.get? p = some (seqObj "list" out c) → StrsAre out.toList ys → ys.Perm ks → sortedS ys = true → Q (.ref p) s') : wpAny (model P w) A (call (.builtin "sorted") [.ref a]) Q E s := by
  obtain ⟨o, es, ep, t, ho, hx, hd, g, pm, nd, hb, hf, hr, hl⟩ := R
  refine Calls.call_function_entry kind_sorted plain_sorted entry_sorted (args_sorted1 _) ?_
  unfold Builtin.«sorted»
  refine wpAny_bind (m := checkCount "sorted" 1 1 _) (wpAny_pure ?_)
  refine wpAny_bind (collect_set (A := A.in1) hh ⟨o, ho, hx.1, hd⟩ hf hb hr hl fun s1 vs k1 hz g1 o1 pv => ?_)
  have all : ∀ v ∈ vs, ∃ x tk, v = Value.str x tk := fun v hv => by
    obtain ⟨e, he, rfl⟩ := List.mem_map.mp (pv.mem_iff.mp hv)
    obtain ⟨x, tk, rfl⟩ := g e he
    exact ⟨x, tk, rfl⟩
  have hS := strs_map (w := w) all
  have pk : (vs.map fun v => keyS (0, v)).Perm ks := by
    refine (pv.map fun v => keyS (0, v)).trans ?_
    rw [List.map_map]
    exact pm
  have hvl : vs.length = ks.length := by
    have z := pk.length_eq
    rw [List.length_map] at z
    exact z
  refine wpAny_bind (wpAny_newList ?_ (by rw [hvl, sizeLine_eq]; omega))
  have hoL : (s1.heap.push (seqObj "list" vs.toArray 0)).get? s1.heap.objs.size = some (seqObj "list" vs.toArray 0) := Heap.get?_push_size _ rfl
  refine wpAny_bind (wpAny_holding (wpAny_call_entry slot_list_sort ⟨_, hoL, rfl⟩ entry_list_sort
    (list_sort_treeK strKind_oneLt hoL hS.keysOf (fun v₁ v₂ rest e => keyKind_strs (by rw [← e]; exact hS)) (by rw [hvl]; exact few) fun st' hp hs => ⟨_, rfl, ?_⟩) (args_list_sort _)))
  obtain ⟨ys, y1, y2, y3⟩ := sorted_out_str hS hp hs
  obtain ⟨c, hc⟩ := sortedHeap_at (vs := vs) (out := (arrOf st').map (·.2)) hoL
  refine wpAny_pure ⟨_, rfl, q _ s1.heap.objs.size _ c ys (fun b u e => ?_) g1 o1 hz hc y1 (y2.trans pk) y3⟩
  have z := k1 b u e
  have lt := Heap.lt_size z
  show (sortedHeap (s1.heap.push (seqObj "list" vs.toArray 0)) s1.heap.objs.size vs ((arrOf st').map (·.2))).get? b = some u
  rw [sortedHeap_old (Nat.ne_of_lt lt) (by rw [size_push']; exact Nat.lt_succ_of_lt lt)]
  exact Heap.get?_push_of_some _ z
/-- the members, in the order in which they came -/
def uniq : List Str → List Str → List Str
  | acc, [] => acc
  | acc, x :: xs => uniq (addN acc x) xs
theorem uniq_snoc : ∀ (xs acc : List Str) (x : Str), uniq acc (xs ++ [x]) = addN (uniq acc xs) x
  | [], _, _ => rfl
  | y :: xs, acc, x => uniq_snoc xs (addN acc y) x
theorem uniq_len : ∀ (xs acc : List Str), (uniq acc xs).length ≤ acc.length + xs.length
  | [], _ => Nat.le_refl _
  | x :: xs, acc => by
    have h := uniq_len xs (addN acc x)
    have h2 := addN_len (ks := acc) (k := x)
    show (uniq (addN acc x) xs).length ≤ acc.length + (xs.length + 1)
    omega
theorem uniq_mem : ∀ (xs acc : List Str) (z : Str), z ∈ uniq acc xs ↔ z ∈ acc ∨ z ∈ xs
  | [], acc, z => by
    rw [show uniq acc [] = acc from rfl]
    simp
  | x :: xs, acc, z => by
    show z ∈ uniq (addN acc x) xs ↔ _
    rw [uniq_mem xs, mem_addN, List.mem_cons, or_assoc]
theorem uniq_nodup : ∀ (xs acc : List Str), acc.Nodup → (uniq acc xs).Nodup
  | [], _, h => h
  | x :: xs, acc, h => uniq_nodup xs (addN acc x) (addN_nodup h)
/-- the loop of set.update, over texts -/
theorem update_S {I : Addr} {fp wr : List Addr} {G : Array GenState → Array GenState → Prop} {n : Nat} {Pv : Nat → Value → Prop} {St : Nat → Shared → Prop} {R : Result → Shared → Prop} (W : WalksS P w A.in1 I fp wr G n Pv St) (D : Addr) (hDf : D ∉ fp)
    (zs : List Str) (hn : n = zs.length) (hv : ∀ i v, Pv i v → ∃ x tk, zs[i]? = some x ∧ v = .str x tk) (few : zs.length + 1 < scanBound) :
    ∀ (k i : Nat) (s : Shared), n - i = k → i ≤ n → St i s → SetS w s.heap D (uniq [] (zs.take i)) → (∀ s', Moved (D :: wr) G s s' → SetS w s'.heap D (uniq [] zs) → R (.ok (.ret .none)) s') →
      codeAny (model P w) A (.builtin "set.update.loop" ⟨[.ref D, .ref I], []⟩) R s := by
  have hDw : D ∉ wr := fun z => hDf (W.sub _ z)
  have sub : ∀ b ∈ wr, b ∈ D :: wr := fun b hb => List.mem_cons_of_mem _ hb
  intro k
  induction k with
  | zero =>
    intro i s hk hi hst hS q
    have hin : i = zs.length := by omega
    rw [hin, List.take_length] at hS
    have hin' : i = n := by omega
    subst hin'
    refine codeAny_builtin F.entry_set_update_loop ?_
    rw [Around.under_plainId F.plain_set_update_loop _]
    show wpAny _ A.in1 (pyNext (.ref I) >>= _) _ _ s
    refine wpAny_bind (W.done s _ _ hst fun s' hm => ?_)
    show wpAny _ A.in1 (ret Value.none) _ _ s'
    exact wpAny_pure (q s' (hm.mono sub) (hS.at fun o e => hm.heap D o hDw e))
  | succ k ih =>
    intro i s hk hi hst hS q
    have hlt : i < n := by omega
    refine codeAny_builtin F.entry_set_update_loop ?_
    rw [Around.under_plainId F.plain_set_update_loop _]
    show wpAny _ A.in1 (pyNext (.ref I) >>= _) _ _ s
    refine wpAny_bind (W.item i s _ _ hlt hst fun v s' hP hst' hm => ?_)
    obtain ⟨x, tk, hx, rfl⟩ := hv i v hP
    have hS' : SetS w s'.heap D (uniq [] (zs.take i)) := hS.at fun o e => hm.heap D o hDw e
    show wpAny _ A.in1 (holding [Value.str x tk] (setAdd D (.str x tk)) >>= _) _ _ s'
    refine wpAny_bind (wpAny_holding ?_)
    unfold setAdd
    have me : (PySem.strKind P w).is x (.str x tk) = true := by
      show Value.isStrOf x (.str x tk) = true
      simp [Value.isStrOf]
    refine wpAny_holding (wpAny_bind ((PySem.strKind P w).pyHash me ?_))
    have room : (uniq [] (zs.take i)).length + 1 < scanBound := by
      have z := uniq_len (zs.take i) []
      rw [List.length_take] at z
      have z0 : ([] : List Str).length = 0 := rfl
      omega
    refine lay_in (s := { s' with toks := s'.toks + 1 }) hS' room fun h' sb R2 b => ?_
    rw [← uniq_snoc, show zs.take i ++ [x] = zs.take (i + 1) by rw [List.take_add_one, hx]; rfl] at R2
    refine wpAny_pure ⟨plainId_quiet F.plain_set_update_loop _, ih (i + 1) _ (by omega) hlt (W.frame _ s' _ _ hst' (Nat.le_add_right _ _) fun b hb o e => ?_) R2 fun s'' hm'' hS'' => ?_⟩
    · rw [sb.2 b (fun z : b = D => hDf (by rw [← z]; exact hb))]
      exact e
    · refine q s'' (Moved.trans W.gtrans ((hm.mono sub).then_heap (Nat.le_add_right _ _) fun b o hb e => ?_) hm'') hS''
      rw [sb.2 b (fun z : b = D => hb (by rw [z]; exact List.mem_cons_self))]
      exact e
end
section
variable {X : Cx}
/-- sorted(set of texts) -/
def rSortSS (w : World) : List V → Hp → VK → Prop := fun vs H Q => ∃ (a : Addr) (ks : List Str), vs = [V.ref a] ∧ H a = some (SetSO w a ks) ∧ ks.length < 64 ∧ ∀ (ys : List Str) (p : Addr), ys.Perm ks → sortedS ys = true → H p = none → Q (.ref p) (upd H p (.lst (ys.map V.str)))
theorem cr_sortSS (hc : X.calm = true) : CallR X (.builtin "sorted") (rSortSS X.w) := by
  intro pins s σ H vs us Q I r h
  obtain ⟨a, ks, rfl, ha, few, q⟩ := h
  rw [Vals.ref1 r]
  refine sorted_S (setSO_at I ha) (I.ok.hd hc) few fun s' p out c ys k g o hp hg hi pm hs => ?_
  have hn : H p = none := I.hok.fresh hp
  have hlen : (ys.map V.str).length ≤ sizeLine := by
    have z := pm.length_eq
    rw [List.length_map, sizeLine_eq]
    omega
  have J : Inv X pins σ (upd H p (.lst (ys.map V.str))) { s with heap := s'.heap, gens := s'.gens, drawn := s'.drawn, toks := s'.toks } :=
    I.call (ch := []) (Un.laid k hp hn) (I.hok.laid k hp ⟨hlen, out.toList, c, vals_of_strs hi, hg⟩) (by rw [g]; exact I.bare) (fun _ z => nomatch z)
  have e : s' = { s with heap := s'.heap, gens := s'.gens, drawn := s'.drawn, toks := s'.toks } := by
    cases s'
    cases s
    cases o
    rfl
  rw [e]
  exact ⟨.ref p, _, J, rfl, q ys p pm hs hn⟩
end
end Ev

/-! ## set(list of texts) -/
namespace Ev
open PySem PySem.Spec PyProof.Rows L2
section
variable {P : Program} {w : World} {A : Around} {E : Value → Shared → Prop} {s : Shared}
theorem strs_get : ∀ {vs : List Value} {zs : List Str} {i : Nat} {v : Value}, StrsAre vs zs → vs[i]? = some v → ∃ x tk, zs[i]? = some x ∧ v = .str x tk
  | _, _, _, _, .nil, e => by cases e
  | _, _, 0, _, .cons x tk _, e => by
    cases e
    exact ⟨x, tk, rfl, rfl⟩
  | _, _, i + 1, _, .cons _ _ h, e => strs_get (i := i) h e
/-- a new empty set behind the heap -/
abbrev emp (w : World) (h : Heap) : Heap := h.push { cls := .type "set", dict := none, data := .set #[] 0 (.fresh 0 0 (!w.params.followText "set-order")) }
theorem set_S {l : Addr} {items : Array Value} {zs : List Str} {Q : Value → Shared → Prop} (hh : A.handled = none) (hl : s.heap.IsList l items) (hit : StrsAre items.toList zs) (few : zs.length + 1 < scanBound)
    (q : ∀ (h' : Heap) (tk : Nat), SetS w h' s.heap.objs.size (uniq [] zs) → (∀ b o, s.heap.get? b = some o → h'.get? b = some o) → Q (.ref s.heap.objs.size) { s with heap := h', toks := tk }) :
    wpAny (model P w) A (call (.type "set") [.ref l]) Q E s := by
  have hz : items.size = zs.length := by
    have z := hit.length
    rw [Array.length_toList] at z
    exact z
  obtain ⟨c, tl, hmro⟩ := F.called_set.mro
  have f1 := F.called_set.made
  have f2 := F.called_set.sub
  have f3 := F.called_set.notType
  have f4 := F.called_set.canCreate
  have f5 := F.typeCall_set_1 (.ref l)
  refine wpAny_call (codeAny_of_tree ?_)
  show wpAny _ _ (callAny (.type "set") _) _ _ _
  refine wpAny_pure ⟨Code.quiet_builtin _ (by decide +kernel), codeAny_builtin F.entry_type_call ?_⟩
  rw [Around.under_plain (weight_type_call_type "set" [.ref l] []) rfl]
  repeat (any_goals (first | assumption | wp_step))
  refine codeAny_mono (code_set_led1 (.ref l) (E := E) (Q₁ := fun v s1 => v = .ref s.heap.objs.size ∧ s1 = { s with heap := emp w s.heap }) ⟨rfl, rfl⟩) fun r s1 hr => ?_
  match r, hr with
  | .error e, hr => exact hr
  | .ok (.ret v), hr =>
    obtain ⟨rfl, rfl⟩ := hr
    have hD : (emp w s.heap).get? s.heap.objs.size = some { cls := .type "set", dict := none, data := .set #[] 0 (.fresh 0 0 (!w.params.followText "set-order")) } := Heap.get?_push_size _ rfl
    have hT : Shared.TypeIs { s with heap := emp w s.heap } (.ref s.heap.objs.size) "set" := ⟨_, hD, rfl⟩
    have f6 := F.called_set.init.lookup
    have f7 := F.called_set.init.bind (.ref s.heap.objs.size)
    repeat (any_goals (first | assumption | wp_step))
    refine codeAny_mono (codeAny_call_builtin (R := wants (fun r s2 => r = .none ∧ ∃ h' tk, s2 = { s with heap := h', toks := tk } ∧ SetS w h' s.heap.objs.size (uniq [] zs) ∧ ∀ b o, s.heap.get? b = some o → h'.get? b = some o) E)
      F.called_set.init.plain F.entry_set_init (check_set_init_1 hT ?_)) fun r2 s2 hr2 => ?_
    · obtain ⟨⟨oc, od, odt, osl⟩, ho, hc, nl, hd⟩ := hl
      simp only at hc hd
      subst hc hd
      have ho1 : (emp w s.heap).get? l = some { cls := .type "list", dict := od, data := .seq items nl, slots := osl } := Heap.get?_push_of_some _ ho
      have l1 : (emp w s.heap).IsList l items := ⟨_, ho1, rfl, nl, rfl⟩
      have f8 := F.sub_list_set
      have f9 := F.sub_list_frozenset
      have f10 : (Value.type "list" == Value.type "dict") = false := by decide
      unfold Builtin.«set.__init__» noKeywords Builtin.Frozenset.updateFrom
      generalize hPI : pyIter = PI
      wp_walk
      subst hPI
      refine wpAny_pyIter_list l1 (wpAny_bind (wpAny_runValue ?_))
      have lt : l < s.heap.objs.size := Heap.lt_size ho
      have h3 : A.in1.in1.in1.handled = none := by simp [hh]
      have sz : (emp w s.heap).objs.size = s.heap.objs.size + 1 := Heap.size_push ..
      have neI : l ≠ (emp w s.heap).objs.size := by
        rw [sz]
        exact Nat.ne_of_lt (Nat.lt_succ_of_lt lt)
      have nf : s.heap.objs.size ∉ [(emp w s.heap).objs.size, l] := by
        rw [sz, List.mem_cons, List.mem_singleton, not_or]
        exact ⟨Nat.ne_of_lt (Nat.lt_succ_self _), Nat.ne_of_gt lt⟩
      have hv : ∀ (i : Nat) (v : Value), items[i]? = some v → ∃ x tk, zs[i]? = some x ∧ v = .str x tk := fun i v e => by
        have z : items.toList[i]? = some v := by
          rw [Array.getElem?_toList]
          exact e
        exact strs_get hit z
      refine update_S ((Walks.list h3 _ l neI items).toS) s.heap.objs.size nf zs hz hv few (items.size - 0) 0 _ (by omega) (Nat.zero_le _) ⟨⟨_, Heap.get?_push_size _ rfl, rfl, rfl⟩, l1.push _⟩
        ((setS_new w s.heap).at fun o e => Heap.get?_push_of_some _ e) fun s' hm hS' => ?_
      obtain ⟨h', g2, d', tk', os'⟩ := s'
      have eg : g2 = s.gens := hm.gens
      have ed : d' = s.drawn := hm.drawn
      have eo : os' = s.os := hm.os
      subst eg
      subst ed
      subst eo
      show wpAny _ _ _ _ _ _
      refine wpAny_pure ?_
      show wpAny _ _ (ret Value.none) _ _ _
      refine wpAny_pure ⟨rfl, h', tk', rfl, hS', fun b o e => ?_⟩
      have lb := Heap.lt_size e
      refine hm.heap b o (fun z => ?_) (Heap.get?_push_of_some _ (Heap.get?_push_of_some _ e))
      rcases List.mem_cons.mp z with z | z
      · rw [z] at lb
        exact Nat.lt_irrefl _ lb
      · have z := List.mem_singleton.mp z
        rw [z, sz] at lb
        exact Nat.not_lt_of_le (Nat.le_succ _) lb
    · match r2, hr2 with
      | .error e, hr2 => exact hr2
      | .ok (.ret v), hr2 =>
        obtain ⟨rfl, h', tk, rfl, hS', hk⟩ := hr2
        repeat (any_goals (first | assumption | wp_step))
        exact q _ _ hS' hk
      | .ok .next, hr2 => exact hr2.elim
      | .ok .brk, hr2 => exact hr2.elim
      | .ok .cont, hr2 => exact hr2.elim
  | .ok .next, hr => exact hr.elim
  | .ok .brk, hr => exact hr.elim
  | .ok .cont, hr => exact hr.elim
end
section
variable {X : Cx}
/-- set(list of texts) -/
def rSetS (K : PySem.W.Frag) (w : World) : List V → Hp → VK → Prop := fun xs H Q => ∃ (l : Addr) (zs : List Str), xs = [V.ref l] ∧ SqL K H l (zs.map V.str) ∧ zs.length < 4000 ∧ ∀ a, H a = none → Q (.ref a) (upd H a (SetSO w a (uniq [] zs)))
theorem cr_setS (hc : X.calm = true) : CallR X (.type "set") (rSetS X.K X.w) := by
  intro pins s σ H xs us Q I r h
  obtain ⟨l, zs, rfl, hl, few, q⟩ := h
  rw [Vals.ref1 r]
  obtain ⟨its, rv, pl, hz⟩ := I.list hl
  have hn : H s.heap.objs.size = none := I.hok.fresh (Nat.le_refl _)
  have hb : scanBound = 4096 := rfl
  refine set_S (P := X.prog) (w := X.w) (I.ok.hd hc) pl.isList (by simpa using rv.strs) (by omega) fun h' tk R k => ?_
  exact ⟨.ref s.heap.objs.size, upd H s.heap.objs.size (SetSO X.w s.heap.objs.size (uniq [] zs)), I.laid (t' := tk) k (Nat.le_refl _) (setSO_ok R), rfl, q _ hn⟩
end
end Ev

/-! ## Programs, pairs, and what comprehensions over them give -/
namespace Ev
open PySem PySem.Spec PyProof.Rows L2
/-- a statement that is never reached -/
theorem ps_dead {X : Cx} {st : Stmt} : PS X st (fun _ _ _ => False) := ⟨fun _ _ _ _ _ _ h => h.elim⟩
theorem pss_dead {X : Cx} {b : List Stmt} : PSs X b (fun _ _ _ => False) := ⟨fun _ _ _ _ _ _ h => h.elim⟩
inductive It where
  | line (x : Str) (t : Int)
  | loop (r : Int) (is : List It)
mutual
def It.d : It → PyData
  | .line x t => .tuple [.str "line", .str x, .int t]
  | .loop r is => .tuple [.str "loop", .int r, .tuple (Its.d is)]
def Its.d : List It → List PyData
  | [] => []
  | i :: is => It.d i :: Its.d is
end
theorem Its.d_map : ∀ is : List It, Its.d is = is.map It.d
  | [] => by rw [Its.d]; rfl
  | i :: is => by rw [Its.d, Its.d_map is]; rfl
/-- loops at most n deep, numbers from 0 below 2 ^ B -/
def Okp (B : Nat) : Nat → It → Prop
  | _, .line _ t => 0 ≤ t ∧ t < (2 ^ B : Nat)
  | 0, .loop _ _ => False
  | n + 1, .loop r is => 0 ≤ r ∧ r < (2 ^ B : Nat) ∧ ∀ i ∈ is, Okp B n i
theorem okp_line {B n : Nat} {x : Str} {t : Int} : Okp B n (.line x t) ↔ 0 ≤ t ∧ t < (2 ^ B : Nat) := by
  cases n <;> exact Iff.rfl
mutual
/-- the lines with their ticks, all rounds r times -/
def It.sp (r : Int) : It → List (Str × Int)
  | .line x t => [(x, r * t)]
  | .loop k is => Its.sp (r * k) is
def Its.sp (r : Int) : List It → List (Str × Int)
  | [] => []
  | i :: is => It.sp r i ++ Its.sp r is
end
theorem Its.sp_app (r : Int) : ∀ is js : List It, Its.sp r (is ++ js) = Its.sp r is ++ Its.sp r js
  | [], js => by
    rw [List.nil_append, Its.sp]
    rfl
  | i :: is, js => by
    rw [List.cons_append, Its.sp, Its.sp, Its.sp_app r is js, List.append_assoc]
theorem Its.sp_one (r : Int) (i : It) : Its.sp r [i] = It.sp r i := by
  rw [Its.sp, Its.sp, List.append_nil]
mutual
/-- how many lines there are -/
def It.nl : It → Nat
  | .line _ _ => 1
  | .loop _ is => Its.nl is
def Its.nl : List It → Nat
  | [] => 0
  | i :: is => It.nl i + Its.nl is
end
mutual
theorem It.sp_len (r : Int) : ∀ i : It, (It.sp r i).length = It.nl i
  | .line x t => by
    rw [It.sp, It.nl]
    rfl
  | .loop k is => by
    rw [It.sp, It.nl, Its.sp_len (r * k) is]
theorem Its.sp_len (r : Int) : ∀ is : List It, (Its.sp r is).length = Its.nl is
  | [] => by
    rw [Its.sp, Its.nl]
    rfl
  | i :: is => by
    rw [Its.sp, Its.nl, List.length_append, It.sp_len r i, Its.sp_len r is]
end
theorem Its.nl_app : ∀ is js : List It, Its.nl (is ++ js) = Its.nl is + Its.nl js
  | [], js => by
    rw [List.nil_append, Its.nl, Nat.zero_add]
  | i :: is, js => by
    rw [List.cons_append, Its.nl, Its.nl, Its.nl_app is js, Nat.add_assoc]
theorem Its.nl_mem : ∀ {is : List It} {i : It}, i ∈ is → It.nl i ≤ Its.nl is
  | j :: is, i, h => by
    rw [Its.nl]
    rcases List.mem_cons.mp h with rfl | h
    · exact Nat.le_add_right _ _
    · exact Nat.le_trans (Its.nl_mem h) (Nat.le_add_left _ _)
/-! ### pairs -/
def pairD (p : Str × Int) : PyData := .tuple [.str p.1, .int p.2]
/-- a list of pairs -/
def gPl (K : PySem.W.Frag) (ps : List (Str × Int)) : GP := ⟨fun H u => ∃ l us, u = .ref l ∧ H l = some (.lst us) ∧ DaAll K H us (ps.map pairD), fun s ⟨l, us, h1, h2, h3⟩ => ⟨l, us, h1, s _ _ h2, h3.mono s⟩⟩
section
variable {K : PySem.W.Frag} {H H' : Hp}
theorem da_app {us vs : List V} {ds es : List PyData} : DaAll K H us ds → DaAll K H vs es → DaAll K H (us ++ vs) (ds ++ es)
  | .nil, k => k
  | .cons h t, k => .cons h (da_app t k)
theorem daAll_len : ∀ {vs : List V} {ds : List PyData}, DaAll K H vs ds → vs.length = ds.length
  | _, _, .nil => rfl
  | _, _, .cons _ t => by
    rw [List.length_cons, List.length_cons, daAll_len t]
theorem daAll_at : ∀ {vs : List V} {ds : List PyData} {j : Nat} {x : V}, DaAll K H vs ds → vs[j]? = some x → ∃ d, ds[j]? = some d ∧ Da K H x d
  | _, _, _, _, .nil, e => by cases e
  | _, _, 0, _, .cons h _, e => by
    cases e
    exact ⟨_, rfl, h⟩
  | _, _, j + 1, _, .cons _ t, e => daAll_at (j := j) t e
mutual
/-- made of tuples alone -/
def tupD : PyData → Bool
  | .tuple ds => tupDs ds
  | .list _ => false
  | .dict _ => false
  | _ => true
def tupDs : List PyData → Bool
  | [] => true
  | d :: ds => tupD d && tupDs ds
end
/-- what is no list stays -/
def Kt (H H' : Hp) : Prop := ∀ b o, H b = some o → (∀ xs, o ≠ .lst xs) → H' b = some o
theorem Kt.of {H H' : Hp} (s : Same H H') : Kt H H' := fun b o e _ => s b o e
theorem Kt.put {H : Hp} {l : Addr} {xs : List V} {o : HO} (h : H l = some (.lst xs)) : Kt H (upd H l o) := fun b u e n => by
  have z : b ≠ l := fun z => by
    rw [z, h] at e
    cases e
    exact n xs rfl
  rw [upd_ne z]
  exact e
theorem Kt.trans {H1 H2 H3 : Hp} (a : Kt H1 H2) (b : Kt H2 H3) : Kt H1 H3 := fun x o e n => b x o (a x o e n) n
mutual
theorem Da.kt (k : Kt H H') : ∀ {v : V} {d : PyData}, tupD d = true → Da K H v d → Da K H' v d
  | _, _, _, .non => .non
  | _, _, _, .bl b => .bl b
  | _, _, _, .int i => .int i
  | _, _, _, .str x => .str x
  | _, _, n, .lst _ _ => by
    rw [tupD] at n
    cases n
  | _, _, n, .tup h t => by
    rw [tupD] at n
    refine .tup ?_ (DaAll.kt k n t)
    rcases h with (e | ⟨o, e⟩) | e
    · exact .inl (.inl (k _ _ e fun xs z => by cases z))
    · exact .inl (.inr ⟨o, k _ _ e fun xs z => by cases z⟩)
    · exact .inr e
  | _, _, n, .dic _ _ => by
    rw [tupD] at n
    cases n
theorem DaAll.kt (k : Kt H H') : ∀ {vs : List V} {ds : List PyData}, tupDs ds = true → DaAll K H vs ds → DaAll K H' vs ds
  | _, _, _, .nil => .nil
  | _, _, n, .cons h t => by
    rw [tupDs, Bool.and_eq_true] at n
    exact .cons (Da.kt k n.1 h) (DaAll.kt k n.2 t)
end
theorem tup_pairs : ∀ ps : List (Str × Int), tupDs (ps.map pairD) = true
  | [] => by rw [List.map_nil, tupDs]
  | p :: ps => by
    rw [List.map_cons, tupDs, tup_pairs ps, Bool.and_true]
    unfold pairD
    simp [tupD, tupDs]
theorem da_pair {x : V} {p : Str × Int} (h : Da K H x (pairD p)) : ∃ a, x = .ref a ∧ SqT K H a [.str p.1, .int p.2] := by
  unfold pairD at h
  cases h with
  | @tup a xs _ hs ha =>
  cases ha with
  | cons h1 ha =>
  cases ha with
  | cons h2 ha =>
  cases ha
  cases h1
  cases h2
  exact ⟨a, rfl, hs⟩
end
/-! ### comprehensions whose elements are plain values -/
section
variable {K : PySem.W.Frag} {H0 : Hp} {σ : L2.St} {te ti : TE} {tt : TT}
/-- over a list that an expression gives -/
theorem g_lcF {ds : List PyData} {f : Nat → Bool} {y : Nat → V} {g : TG} {vs : List Nat} (hi : ∀ (H : Hp) (Q : VK), Same H0 H → (∀ H' l us, Same H H' → SqL K H' l us → DaAll K H' us ds → Q (.ref l) H') → ti σ H Q) (hz : ds.length ≤ 1000000)
    (he : ∀ (j : Nat) (x : V) (d : PyData), ds[j]? = some d → ∀ (H : Hp) (R : VK) (N : Hp → Prop), Same H0 H → Da K H x d → (f j = true → ∀ H', Same H H' → R (y j) H') → (f j = false → ∀ H', Same H H' → N H') →
      g x (wipe σ vs) H fun σ2 H2 => wipe σ2 vs = wipe σ vs ∧ tt σ2 H2 fun b H3 => if b = true then te σ2 H3 R else N H3) :
    Gives H0 (tLc (iList K ti) g tt te vs) (gLst ((((List.range ds.length).filter f).map y).map gEq)) σ := fun H Q s q => by
  refine hi H _ s fun H1 l us s1 hl ha => ⟨l, rfl, ⟨us, hl⟩, fun D nD => ?_⟩
  have sl := sizeLine_eq
  have hlen := daAll_len ha
  refine lc_list (K := K) (a := l) (xs := us) (fun k H' => Same H1 H' ∧ H' D = some (.lst (((List.range k).filter f).map y))) ⟨same_put nD, upd_same⟩ (fun k H' _ ⟨s', _⟩ => s'.seq hl) ?_ ?_
  · rintro k x H' hk ⟨s', eD⟩
    obtain ⟨d, hd, hx⟩ := daAll_at ha hk
    have hkl : k < ds.length := (List.getElem?_eq_some_iff.mp hd).1
    have hll : (((List.range k).filter f).map y).length < sizeLine := by
      rw [List.length_map]
      have z := List.length_filter_le f (List.range k)
      rw [List.length_range] at z
      omega
    refine cast ?_ (he k x d hd H' (fun y' H4 => ∃ acc, H4 D = some (.lst acc) ∧ acc.length < sizeLine ∧ Same H1 (upd H4 D (.lst (acc ++ [y']))) ∧ upd H4 D (.lst (acc ++ [y'])) D = some (.lst (((List.range (k + 1)).filter f).map y)))
      (fun H4 => Same H1 H4 ∧ H4 D = some (.lst (((List.range (k + 1)).filter f).map y))) (s.trans (s1.trans s')) (hx.mono s') (fun e H4 s4 => ⟨_, s4 _ _ eD, hll, ?_, ?_⟩) (fun e H4 s4 => ⟨s'.trans s4, ?_⟩))
    · rfl
    · intro b o e
      rw [upd_ne (ne_of_none e nD)]
      exact s4 _ _ (s' _ _ e)
    · rw [upd_same, List.range_succ, List.filter_append, List.map_append]
      simp [e]
    · rw [List.range_succ, List.filter_append]
      simp [e]
      exact s4 _ _ eD
  · rintro H' ⟨s', eD⟩
    rw [hlen] at eD
    exact q H' _ (s1.trans s') ⟨D, _, rfl, eD, allEq⟩
theorem range_map {α β : Type} (l : List α) (f : α → β) (d : β) : (List.range l.length).map (fun j => ((l[j]?).map f).getD d) = l.map f := by
  apply List.ext_getElem
  · rw [List.length_map, List.length_range, List.length_map]
  · intro i h1 h2
    rw [List.getElem_map, List.getElem_range, List.getElem_map]
    rw [List.length_map] at h2
    rw [List.getElem?_eq_getElem h2]
    rfl
/-- sum of a list of numbers -/
theorem g_sum {ns : List Int} (h : Gives H0 te (gLst ((ns.map V.int).map gEq)) σ) : Gives H0 (tCB (rSum K) (tCons te tNil)) (gEq (.int ns.sum)) σ := fun H Q s q =>
  h H _ s fun H1 u s1 ⟨p, us, e, hp, ha⟩ => by
    have eu := all_eq ha
    subst eu
    subst e
    exact ⟨p, ns, rfl, .inl (.inl hp), q H1 _ s1 rfl⟩
end
end Ev

/-! ## Texts in order -/
namespace Ev
open PySem PySem.Spec PyProof.Rows
theorem lt_irr : ∀ a : List Nat, ltCps a a = false
  | [] => rfl
  | x :: a => by
    show (decide (x < x) || (x == x && ltCps a a)) = false
    rw [lt_irr a]
    simp
theorem lt_tri : ∀ a b : List Nat, ltCps a b = false → ltCps b a = false → a = b
  | [], [], _, _ => rfl
  | [], _ :: _, h, _ => by cases h
  | _ :: _, [], _, h => by cases h
  | x :: a, y :: b, h1, h2 => by
    have h1 : (decide (x < y) || (x == y && ltCps a b)) = false := h1
    have h2 : (decide (y < x) || (y == x && ltCps b a)) = false := h2
    rw [Bool.or_eq_false_iff, decide_eq_false_iff_not] at h1 h2
    have e : x = y := by omega
    subst e
    rw [beq_self_eq_true, Bool.true_and] at h1 h2
    rw [lt_tri a b h1.2 h2.2]
/-- not greater is transitive -/
theorem le_tr : ∀ a b c : List Nat, ltCps b a = false → ltCps c b = false → ltCps c a = false
  | [], [], c, _, h => h
  | [], _ :: _, [], _, h => by cases h
  | [], _ :: _, _ :: _, _, _ => rfl
  | _ :: _, [], _, h, _ => by cases h
  | _ :: _, _ :: _, [], _, h => by cases h
  | x :: a, y :: b, z :: c, h1, h2 => by
    have h1 : (decide (y < x) || (y == x && ltCps b a)) = false := h1
    have h2 : (decide (z < y) || (z == y && ltCps c b)) = false := h2
    show (decide (z < x) || (z == x && ltCps c a)) = false
    rw [Bool.or_eq_false_iff, decide_eq_false_iff_not] at h1 h2 ⊢
    refine ⟨by omega, ?_⟩
    by_cases e : z = x
    · subst e
      have e2 : y = z := by omega
      subst e2
      rw [beq_self_eq_true, Bool.true_and] at h1 h2 ⊢
      exact le_tr a b c h1.2 h2.2
    · have : (z == x) = false := by simpa using e
      rw [this, Bool.false_and]
def LeS (a b : Str) : Prop := ltCps b.cps.toList a.cps.toList = false
theorem LeS.rfl' (a : Str) : LeS a a := lt_irr _
theorem LeS.tr {a b c : Str} (h : LeS a b) (k : LeS b c) : LeS a c := le_tr _ _ _ h k
theorem LeS.anti {a b : Str} (h : LeS a b) (k : LeS b a) : a = b := by
  have e := lt_tri _ _ k h
  obtain ⟨x⟩ := a
  obtain ⟨y⟩ := b
  have e : x.toList = y.toList := e
  rw [Array.toList_inj.mp e]
theorem rising_pw : ∀ (r : List Str) (p : Str), risingS p r = true → (p :: r).Pairwise LeS
  | [], _, _ => List.pairwise_singleton _ _
  | x :: r, p, h => by
    have h : (!ltCps x.cps.toList p.cps.toList && risingS x r) = true := h
    rw [Bool.and_eq_true] at h
    have ih := rising_pw r x h.2
    have px : LeS p x := by
      show ltCps x.cps.toList p.cps.toList = false
      have := h.1
      revert this
      cases ltCps x.cps.toList p.cps.toList <;> simp
    refine List.pairwise_cons.mpr ⟨fun y hy => ?_, ih⟩
    rcases List.mem_cons.mp hy with rfl | hy
    · exact px
    · exact px.tr ((List.pairwise_cons.mp ih).1 y hy)
theorem sorted_pw : ∀ {l : List Str}, sortedS l = true → l.Pairwise LeS
  | [], _ => .nil
  | x :: r, h => rising_pw r x h
/-- two rows in order with the same members are one -/
theorem pw_same : ∀ {l m : List Str}, l.Pairwise LeS → m.Pairwise LeS → l.Perm m → l = m
  | [], m, _, _, p => p.nil_eq
  | x :: l, [], _, _, p => by
    have := p.length_eq
    cases this
  | x :: l, y :: m, h, k, p => by
    obtain ⟨h1, h2⟩ := List.pairwise_cons.mp h
    obtain ⟨k1, k2⟩ := List.pairwise_cons.mp k
    have e : x = y := by
      have xy : LeS x y := by
        rcases List.mem_cons.mp (p.mem_iff.mpr (List.mem_cons_self ..)) with e | e
        · rw [e]
          exact LeS.rfl' _
        · exact h1 y e
      have yx : LeS y x := by
        rcases List.mem_cons.mp (p.mem_iff.mp (List.mem_cons_self ..)) with e | e
        · rw [e]
          exact LeS.rfl' _
        · exact k1 x e
      exact xy.anti yx
    subst e
    rw [pw_same h2 k2 p.cons_inv]
theorem sorted_same {l m : List Str} (h : sortedS l = true) (k : sortedS m = true) (p : l.Perm m) : l = m := pw_same (sorted_pw h) (sorted_pw k) p
theorem lt_two : ∀ a b : List Nat, ltCps a b = true → ltCps b a = true → False
  | [], [], h, _ => by cases h
  | [], _ :: _, _, h => by cases h
  | _ :: _, [], h, _ => by cases h
  | x :: a, y :: b, h1, h2 => by
    have h1 : (decide (x < y) || (x == y && ltCps a b)) = true := h1
    have h2 : (decide (y < x) || (y == x && ltCps b a)) = true := h2
    rw [Bool.or_eq_true, decide_eq_true_iff, Bool.and_eq_true, beq_iff_eq] at h1 h2
    rcases h1 with h1 | h1
    · rcases h2 with h2 | h2
      · omega
      · omega
    · rcases h2 with h2 | h2
      · omega
      · exact lt_two a b h1.2 h2.2
def insS (x : Str) : List Str → List Str
  | [] => [x]
  | y :: r => if ltCps y.cps.toList x.cps.toList = true then y :: insS x r else x :: y :: r
theorem ins_perm (x : Str) : ∀ l : List Str, (insS x l).Perm (x :: l)
  | [] => .refl _
  | y :: r => by
    unfold insS
    split
    · exact ((ins_perm x r).cons y).trans (List.Perm.swap x y r)
    · exact .refl _
theorem ins_pw (x : Str) : ∀ l : List Str, l.Pairwise LeS → (insS x l).Pairwise LeS
  | [], _ => List.pairwise_singleton _ _
  | y :: r, h => by
    obtain ⟨h1, h2⟩ := List.pairwise_cons.mp h
    unfold insS
    split
    · rename_i c
      refine List.pairwise_cons.mpr ⟨fun z hz => ?_, ins_pw x r h2⟩
      rcases List.mem_cons.mp ((ins_perm x r).mem_iff.mp hz) with rfl | hz
      · show ltCps z.cps.toList y.cps.toList = false
        by_cases e : ltCps z.cps.toList y.cps.toList = true
        · exact (lt_two _ _ c e).elim
        · exact Bool.eq_false_iff.mpr e
      · exact h1 z hz
    · rename_i c
      have xy : LeS x y := Bool.eq_false_iff.mpr c
      refine List.pairwise_cons.mpr ⟨fun z hz => ?_, h⟩
      rcases List.mem_cons.mp hz with rfl | hz
      · exact xy
      · exact xy.tr (h1 z hz)
def srtS : List Str → List Str
  | [] => []
  | x :: l => insS x (srtS l)
theorem srt_perm : ∀ l : List Str, (srtS l).Perm l
  | [] => .refl _
  | x :: l => (ins_perm x _).trans ((srt_perm l).cons x)
theorem srt_pw : ∀ l : List Str, (srtS l).Pairwise LeS
  | [] => .nil
  | x :: l => ins_pw x _ (srt_pw l)
theorem srt_is {l ys : List Str} (p : ys.Perm l) (h : sortedS ys = true) : ys = srtS l := pw_same (sorted_pw h) (srt_pw l) (p.trans (srt_perm l).symm)
/-- the same members, in order -/
theorem srt_eq {l m : List Str} (h : l.Nodup) (k : m.Nodup) (e : ∀ x, x ∈ l ↔ x ∈ m) : srtS l = srtS m :=
  pw_same (srt_pw l) (srt_pw m) ((srt_perm l).trans (((List.perm_ext_iff_of_nodup h k).mpr e).trans (srt_perm m).symm))
end Ev

/-! ## Items, taken apart -/
namespace Ev
open PySem PySem.Spec PyProof.Rows L2
theorem dec_str (x : Str) : decide (V.str x = V.str x) = true := decide_eq_true rfl
theorem dec_ll : decide (V.str "loop" = V.str "line") = false := decide_eq_false fun h => absurd (V.str.inj h) (by decide)
theorem s_ret2 {r1 r2 : List V → Hp → VK → Prop} {te : TE} {D : Ends} {σ : L2.St} {H : Hp} (h : te σ H fun x H1 => r2 [x] H1 fun y H2 => r1 [y] H2 D.rt) : tRet (tCB r1 (tCons (tCB r2 (tCons te tNil)) tNil)) D σ H := h
theorem abs_lt {t : Int} {B : Nat} (h0 : 0 ≤ t) (h1 : t < (2 ^ B : Nat)) : t.natAbs < 2 ^ B := by omega
/-- an item, taken apart -/
theorem da_line {K : PySem.W.Frag} {H : Hp} {v : V} {x : Str} {t : Int} (h : Da K H v (It.d (.line x t))) : ∃ b, v = .ref b ∧ SqT K H b [.str "line", .str x, .int t] := by
  rw [It.d] at h
  cases h with
  | @tup b xs _ hs ha =>
  cases ha with
  | cons h1 ha =>
  cases ha with
  | cons h2 ha =>
  cases ha with
  | cons h3 ha =>
  cases ha
  cases h1
  cases h2
  cases h3
  exact ⟨b, rfl, hs⟩
theorem da_loop {K : PySem.W.Frag} {H : Hp} {v : V} {r : Int} {is : List It} (h : Da K H v (It.d (.loop r is))) : ∃ b w, v = .ref b ∧ SqT K H b [.str "loop", .int r, w] ∧ Da K H w (.tuple (is.map It.d)) := by
  rw [It.d, Its.d_map] at h
  cases h with
  | @tup b xs _ hs ha =>
  cases ha with
  | cons h1 ha =>
  cases ha with
  | cons h2 ha =>
  cases ha with
  | @cons w _ _ _ h3 ha =>
  cases ha
  cases h1
  cases h2
  exact ⟨b, w, rfl, hs, h3⟩
theorem da_prog {K : PySem.W.Frag} {H : Hp} {v : V} {ds : List PyData} (h : Da K H v (.tuple ds)) : ∃ a xs, v = .ref a ∧ SqT K H a xs ∧ DaAll K H xs ds := by
  cases h with
  | tup hs ha => exact ⟨_, _, rfl, hs, ha⟩
theorem sp_take {r : Int} {is : List It} {i : Nat} {it : It} (h : is[i]? = some it) : Its.sp r (is.take (i + 1)) = Its.sp r (is.take i) ++ It.sp r it := by
  rw [List.take_add_one, h, Its.sp_app]
  show _ ++ Its.sp r [it] = _
  rw [Its.sp_one]
theorem nl_take {is : List It} {i : Nat} {it : It} (h : is[i]? = some it) : Its.nl (is.take i) + It.nl it ≤ Its.nl is := by
  have e : is = is.take i ++ is.drop i := (List.take_append_drop i is).symm
  obtain ⟨hi, hx⟩ := List.getElem?_eq_some_iff.mp h
  rw [List.drop_eq_getElem_cons hi, hx] at e
  have z := congrArg Its.nl e
  rw [Its.nl_app, Its.nl] at z
  omega
section
variable {P : Program} {w : World} {K : PySem.W.Frag} {mg : Str → Option Value} {base : Heap}
theorem no_fn {CX : CXT} {k : Nat} {f : Addr} {fd : FuncData} {ps : List Str} : FnOk P w K mg base CX k f fd ps (fun _ _ _ _ => False) :=
  ⟨fun _ _ _ _ h => h.elim, fun _ _ _ _ _ _ _ _ _ _ _ _ _ h => h.elim⟩
/-- what a program must be, to be asked about -/
structure Prg (K : PySem.W.Frag) (B dep : Nat) (H : Hp) (x : V) (is : List It) : Prop where
  da : Da K H x (.tuple (is.map It.d))
  ok : ∀ i ∈ is, Okp B dep i
  few : Its.nl is ≤ 100000
theorem Prg.same {B dep : Nat} {H H' : Hp} {x : V} {is : List It} (h : Prg K B dep H x is) (s : Same H H') : Prg K B dep H' x is := ⟨h.da.mono s, h.ok, h.few⟩
/-- bounds for numbers -/
def Room2 (B dep : Nat) : Prop := 0 < B ∧ 64 + (dep + 1) * B ≤ 900000
def lenI (is : List It) : Int := ((Its.sp 1 is).map (·.2)).sum
end
def linesI (is : List It) : List Str := srtS (uniq [] ((Its.sp 1 is).map (·.1)))
end Ev

/-! ## How long a text of data is; whiles; items as tuples -/
namespace Ev
open PySem PySem.Spec PyProof.Rows L2
/-- a while by an invariant with a number that falls -/
theorem while_w {c : TT} {tb : TS} {D : Ends} {σ : L2.St} {H : Hp} (W : Nat → L2.St → Hp → Prop) (h0 : ∃ m, W m σ H)
    (hs : ∀ m σ H, W m σ H → c σ H fun b H1 => if b = true then tb { D with nx := fun σ' H' => ∃ m', m' < m ∧ W m' σ' H', ct := fun σ' H' => ∃ m', m' < m ∧ W m' σ' H', bk := D.nx } σ H1 else D.nx σ H1)
    (mono : ∀ σ H Q Q', (∀ b H1, Q b H1 → Q' b H1) → c σ H Q → c σ H Q') : tWhile c tb D σ H := by
  refine ⟨W, h0, fun m σ' H' w => mono σ' H' _ _ (fun b H1 h => ?_) (hs m σ' H' w)⟩
  by_cases e : b = true
  · rw [if_pos e] at h ⊢
    exact ⟨_, fun σ2 H2 n => n, h⟩
  · rw [if_neg e] at h ⊢
    exact h
mutual
def It.sz : It → Nat
  | .line _ _ => 1
  | .loop _ is => 1 + Its.sz is
def Its.sz : List It → Nat
  | [] => 0
  | i :: is => It.sz i + Its.sz is
end
theorem sz_mem : ∀ {is : List It} {i : It}, i ∈ is → It.sz i ≤ Its.sz is
  | j :: is, i, h => by
    rw [Its.sz]
    rcases List.mem_cons.mp h with rfl | h
    · exact Nat.le_add_right _ _
    · exact Nat.le_trans (sz_mem h) (Nat.le_add_left _ _)
theorem drop_one {is : List It} {i : Nat} {it : It} (h : is[i]? = some it) : (is.drop i).take 1 = [it] := by
  obtain ⟨hi, hx⟩ := List.getElem?_eq_some_iff.mp h
  rw [List.drop_eq_getElem_cons hi, hx]
  rfl
theorem atI_of {xs : List V} {i : Nat} {v : V} (h : xs[i]? = some v) : atI xs (i : Nat) = some v := atI_nat h
section
variable {K : PySem.W.Frag}
/-- a part of a program -/
theorem Prg.part {B dep : Nat} {H : Hp} {u x : V} {is js : List It} (hp : Prg K B dep H x is) (hu : Da K H u (.tuple (js.map It.d))) (hm : ∀ i ∈ js, i ∈ is) (hn : Its.nl js ≤ Its.nl is) : Prg K B dep H u js :=
  ⟨hu, fun i hi => hp.ok i (hm i hi), Nat.le_trans hn hp.few⟩
theorem nl_take_le (is : List It) (n : Nat) : Its.nl (is.take n) ≤ Its.nl is := by
  have z := congrArg Its.nl (List.take_append_drop n is)
  rw [Its.nl_app] at z
  omega
theorem nl_drop_le (is : List It) (n : Nat) : Its.nl (is.drop n) ≤ Its.nl is := by
  have z := congrArg Its.nl (List.take_append_drop n is)
  rw [Its.nl_app] at z
  omega
theorem map_take {α β : Type} (f : α → β) (l : List α) (n : Nat) : (l.map f).take n = (l.take n).map f := (List.map_take ..).symm
end
structure Sz (e w : Nat) (d : PyData) : Prop where
  sh : d.showable = true
  ls : d.leavesShort 1000 = true
  dp : d.depth ≤ e
  wt : d.weight ≤ w
theorem Sz.up {e e' w w' : Nat} {d : PyData} (h : Sz e w d) (he : e ≤ e') (hw : w ≤ w') : Sz e' w' d := ⟨h.sh, h.ls, Nat.le_trans h.dp he, Nat.le_trans h.wt hw⟩
theorem Sz.fits {e w : Nat} {d : PyData} (h : Sz e w d) (he : e ≤ 64) (hw : w ≤ 16000) : d.showable = true ∧ d.depth ≤ 64 ∧ d.shown.length ≤ sizeLine := by
  refine ⟨h.sh, Nat.le_trans h.dp he, ?_⟩
  have z := PyData.shown_le 1000 (by decide) d h.ls
  have y := sizeLine_eq
  have h1 : (1000 + 2) * d.weight ≤ 1002 * 16000 := Nat.mul_le_mul_left _ (Nat.le_trans h.wt hw)
  omega
theorem sz_int {i : Int} {k : Nat} (h : i.natAbs < 2 ^ k) (h0 : 0 < k) (hk : k ≤ 900) : Sz 0 k (.int i) := by
  have hl := PySem.Flt.log2_lt_of h0 h
  refine ⟨?_, ?_, ?_, ?_⟩
  · rw [PyData.showable]
    exact decide_eq_true (by omega)
  · rw [PyData.leavesShort]
    refine decide_eq_true ?_
    have z := int_text_length_le h0 hl
    have e : (PyData.shown (.int i)).length = (toString i).length := by
      rw [PyData.shown, PySem.ofString_length]
    omega
  · rw [PyData.depth]
    exact Nat.le_refl _
  · rw [PyData.weight]
    split <;> omega
theorem sz_str {x : Str} {n : Nat} (h : x.cps.size ≤ n) (hc : (x.cps.toList.all fun c => decide (c < 16 ^ 8)) = true) : Sz 0 n (.str x) := by
  refine ⟨by rw [PyData.showable], ?_, ?_, ?_⟩
  · rw [PyData.leavesShort]
    exact hc
  · rw [PyData.depth]
    exact Nat.le_refl _
  · rw [PyData.weight]
    exact h
theorem sz_all {e w : Nat} : ∀ {ds : List PyData}, (∀ d ∈ ds, Sz e w d) → PyData.showableAll ds = true ∧ PyData.leavesShortAll 1000 ds = true ∧ PyData.depthAll ds ≤ e ∧ PyData.weightAll ds ≤ ds.length * (w + 1)
  | [], _ => by
    refine ⟨by rw [PyData.showableAll], by rw [PyData.leavesShortAll], ?_, ?_⟩
    · rw [PyData.depthAll]
      exact Nat.zero_le _
    · rw [PyData.weightAll]
      exact Nat.zero_le _
  | d :: ds, h => by
    obtain ⟨h1, h2, h3, h4⟩ := h d (List.mem_cons_self ..)
    obtain ⟨k1, k2, k3, k4⟩ := sz_all fun x hx => h x (List.mem_cons_of_mem _ hx)
    refine ⟨by rw [PyData.showableAll, h1, k1]; rfl, by rw [PyData.leavesShortAll, h2, k2]; rfl, ?_, ?_⟩
    · rw [PyData.depthAll]
      exact Nat.max_le.mpr ⟨h3, k3⟩
    · rw [PyData.weightAll, List.length_cons, Nat.succ_mul]
      omega
theorem sz_tup {e w : Nat} {ds : List PyData} (h : ∀ d ∈ ds, Sz e w d) : Sz (e + 1) (ds.length * (w + 1)) (.tuple ds) := by
  obtain ⟨k1, k2, k3, k4⟩ := sz_all h
  refine ⟨by rw [PyData.showable]; exact k1, by rw [PyData.leavesShort]; exact k2, ?_, by rw [PyData.weight]; exact k4⟩
  rw [PyData.depth]
  omega
theorem sz_lst {e w : Nat} {ds : List PyData} (h : ∀ d ∈ ds, Sz e w d) : Sz (e + 1) (ds.length * (w + 1)) (.list ds) := by
  obtain ⟨k1, k2, k3, k4⟩ := sz_all h
  refine ⟨by rw [PyData.showable]; exact k1, by rw [PyData.leavesShort]; exact k2, ?_, by rw [PyData.weight]; exact k4⟩
  rw [PyData.depth]
  omega
def nmB (x : Str) : Bool := (decide (x.cps.size ≤ 8) && x.cps.toList.all fun c => decide (c < 16 ^ 8)) && PyData.strOk x
theorem nm_sz {x : Str} (h : nmB x = true) : Sz 0 8 (.str x) := by
  unfold nmB at h
  rw [Bool.and_eq_true, Bool.and_eq_true] at h
  exact sz_str (of_decide_eq_true h.1.1) h.1.2
theorem nm_ok {x : Str} (h : nmB x = true) : PyData.strOk x = true := by
  unfold nmB at h
  rw [Bool.and_eq_true] at h
  exact h.2
mutual
/-- names and numbers are short -/
def It.nm : It → Prop
  | .line x t => nmB x = true ∧ t.natAbs < 2 ^ 128
  | .loop r is => r.natAbs < 2 ^ 128 ∧ Its.nm is
def Its.nm : List It → Prop
  | [] => True
  | i :: is => It.nm i ∧ Its.nm is
end
mutual
def It.ni : It → Nat
  | .line _ _ => 1
  | .loop _ is => 1 + Its.ni is
def Its.ni : List It → Nat
  | [] => 0
  | i :: is => It.ni i + Its.ni is
end
theorem lit_sz : Sz 0 8 (.str "line") ∧ Sz 0 8 (.str "loop") := ⟨nm_sz (by decide +kernel), nm_sz (by decide +kernel)⟩
mutual
theorem It.szd : ∀ (n : Nat) (B : Nat) (i : It), Okp B n i → It.nm i → (It.d i).showable = true ∧ (It.d i).leavesShort 1000 = true ∧ (It.d i).depth ≤ 2 * n + 1 ∧ (It.d i).weight + 1 ≤ 165 * It.ni i
  | n, B, .line x t, _, h => by
    rw [It.nm] at h
    rw [It.d, It.ni]
    have z := sz_tup (e := 0) (w := 128) (ds := [.str "line", .str x, .int t]) fun d hd => by
      rcases List.mem_cons.mp hd with rfl | hd
      · exact lit_sz.1.up (Nat.le_refl _) (by decide)
      rcases List.mem_cons.mp hd with rfl | hd
      · exact (nm_sz h.1).up (Nat.le_refl _) (by decide)
      rcases List.mem_cons.mp hd with rfl | hd
      · exact sz_int h.2 (by decide) (by decide)
      cases hd
    refine ⟨z.sh, z.ls, Nat.le_trans z.dp (by omega), ?_⟩
    rw [PyData.weight, PyData.weightAll, PyData.weightAll, PyData.weightAll, PyData.weightAll]
    have w1 := lit_sz.1.wt
    have w2 := (nm_sz h.1).wt
    have w3 := (sz_int (i := t) h.2 (by decide) (by decide)).wt
    omega
  | 0, B, .loop r is, h, _ => h.elim
  | n + 1, B, .loop r is, ho, h => by
    rw [It.nm] at h
    obtain ⟨_, _, hj⟩ : 0 ≤ r ∧ r < (2 ^ B : Nat) ∧ ∀ i ∈ is, Okp B n i := ho
    obtain ⟨k1, k2, k3, k4⟩ := Its.szd n B is hj h.2
    have z1 := lit_sz.2
    have z2 := sz_int (i := r) h.1 (by decide) (by decide)
    rw [It.d, Its.d_map, It.ni]
    refine ⟨?_, ?_, ?_, ?_⟩
    · rw [PyData.showable, PyData.showableAll, PyData.showableAll, PyData.showableAll, PyData.showableAll, z1.sh, z2.sh]
      rw [PyData.showable, k1]
      rfl
    · rw [PyData.leavesShort, PyData.leavesShortAll, PyData.leavesShortAll, PyData.leavesShortAll, PyData.leavesShortAll, z1.ls, z2.ls]
      rw [PyData.leavesShort, k2]
      rfl
    · rw [PyData.depth, PyData.depthAll, PyData.depthAll, PyData.depthAll, PyData.depthAll]
      have d1 := z1.dp
      have d2 := z2.dp
      have d3 : (PyData.tuple (is.map It.d)).depth ≤ 2 * n + 2 := by
        rw [PyData.depth]
        omega
      have : max (PyData.str "loop").depth (max (PyData.int r).depth (max (PyData.tuple (is.map It.d)).depth 0)) ≤ 2 * n + 2 := by
        refine Nat.max_le.mpr ⟨by omega, Nat.max_le.mpr ⟨by omega, Nat.max_le.mpr ⟨d3, by omega⟩⟩⟩
      omega
    · rw [PyData.weight, PyData.weightAll, PyData.weightAll, PyData.weightAll, PyData.weightAll]
      rw [show (PyData.tuple (is.map It.d)).weight = PyData.weightAll (is.map It.d) by rw [PyData.weight]]
      have w1 := z1.wt
      have w2 := z2.wt
      have h5 : PyData.weightAll (is.map It.d) ≤ 165 * Its.ni is := k4
      omega
theorem Its.szd : ∀ (n : Nat) (B : Nat) (is : List It), (∀ i ∈ is, Okp B n i) → Its.nm is → PyData.showableAll (is.map It.d) = true ∧ PyData.leavesShortAll 1000 (is.map It.d) = true ∧ PyData.depthAll (is.map It.d) ≤ 2 * n + 1 ∧ PyData.weightAll (is.map It.d) ≤ 165 * Its.ni is
  | n, B, [], _, _ => by
    refine ⟨by rw [List.map_nil, PyData.showableAll], by rw [List.map_nil, PyData.leavesShortAll], ?_, ?_⟩
    · rw [List.map_nil, PyData.depthAll]
      exact Nat.zero_le _
    · rw [List.map_nil, PyData.weightAll]
      exact Nat.zero_le _
  | n, B, i :: is, ho, h => by
    rw [Its.nm] at h
    obtain ⟨h1, h2, h3, h4⟩ := It.szd n B i (ho i (List.mem_cons_self ..)) h.1
    obtain ⟨k1, k2, k3, k4⟩ := Its.szd n B is (fun j hj => ho j (List.mem_cons_of_mem _ hj)) h.2
    refine ⟨by rw [List.map_cons, PyData.showableAll, h1, k1]; rfl, by rw [List.map_cons, PyData.leavesShortAll, h2, k2]; rfl, ?_, ?_⟩
    · rw [List.map_cons, PyData.depthAll]
      exact Nat.max_le.mpr ⟨h3, k3⟩
    · rw [List.map_cons, PyData.weightAll, Its.ni]
      omega
end
theorem nm_of : ∀ {is : List It}, (∀ i ∈ is, It.nm i) → Its.nm is
  | [], _ => by
    rw [Its.nm]
    trivial
  | i :: is, h => by
    rw [Its.nm]
    exact ⟨h i (List.mem_cons_self ..), nm_of fun j hj => h j (List.mem_cons_of_mem _ hj)⟩
theorem ni_mul {W : Nat} : ∀ {is : List It}, (∀ i ∈ is, It.ni i ≤ W) → Its.ni is ≤ is.length * W
  | [], _ => by
    rw [Its.ni]
    exact Nat.zero_le _
  | i :: is, h => by
    rw [Its.ni, List.length_cons, Nat.succ_mul]
    have a := h i (List.mem_cons_self ..)
    have b := ni_mul fun j hj => h j (List.mem_cons_of_mem _ hj)
    omega
mutual
theorem It.nl_ni : ∀ i : It, It.nl i ≤ It.ni i
  | .line _ _ => by
    rw [It.nl, It.ni]
    exact Nat.le_refl _
  | .loop _ is => by
    rw [It.nl, It.ni]
    exact Nat.le_trans (Its.nl_ni is) (Nat.le_add_left _ _)
theorem Its.nl_ni : ∀ is : List It, Its.nl is ≤ Its.ni is
  | [] => by
    rw [Its.nl]
    exact Nat.zero_le _
  | i :: is => by
    rw [Its.nl, Its.ni]
    exact Nat.add_le_add (It.nl_ni i) (Its.nl_ni is)
end
mutual
theorem It.tupd : ∀ i : It, tupD (It.d i) = true
  | .line x t => by
    rw [It.d, tupD, tupDs, tupDs, tupDs, tupDs, tupD, tupD, tupD]
    rfl
    all_goals (intros; contradiction)
  | .loop r is => by
    rw [It.d, tupD, tupDs, tupDs, tupDs, tupDs, tupD, tupD, tupD, Its.tupd is]
    rfl
    all_goals (intros; contradiction)
theorem Its.tupd : ∀ is : List It, tupDs (Its.d is) = true
  | [] => by rw [Its.d, tupDs]
  | i :: is => by rw [Its.d, tupDs, It.tupd i, Its.tupd is]; rfl
end
theorem prog_tup (is : List It) : tupD (.tuple (is.map It.d)) = true := by
  rw [tupD, ← Its.d_map]
  exact Its.tupd is
theorem Bu.kt {p : Addr} {H H' : Hp} {xs : List V} (h : Bu p H H') (hp : H p = some (.lst xs)) : Kt H H' := fun b o e n => by
  refine h b o (fun z => ?_) e
  rw [z, hp] at e
  cases e
  exact n xs rfl
theorem Prg.kt {K : PySem.W.Frag} {B dep : Nat} {H H' : Hp} {x : V} {is : List It} (h : Prg K B dep H x is) (k : Kt H H') : Prg K B dep H' x is := ⟨h.da.kt k (prog_tup is), h.ok, h.few⟩
/-! ### the ticks, written out -/
mutual
def It.w : It → List Str
  | .line x t => List.replicate t.toNat x
  | .loop r is => (List.replicate r.toNat (Its.w is)).flatten
def Its.w : List It → List Str
  | [] => []
  | i :: is => It.w i ++ Its.w is
end
theorem w_app : ∀ is js : List It, Its.w (is ++ js) = Its.w is ++ Its.w js
  | [], js => by
    rw [List.nil_append, Its.w, List.nil_append]
  | i :: is, js => by
    rw [List.cons_append, Its.w, Its.w, w_app is js, List.append_assoc]
theorem w_one (i : It) : Its.w [i] = It.w i := by
  rw [Its.w, Its.w, List.append_nil]
mutual
/-- numbers from 0 -/
def It.nn : It → Prop
  | .line _ t => 0 ≤ t
  | .loop r is => 0 ≤ r ∧ Its.nn is
def Its.nn : List It → Prop
  | [] => True
  | i :: is => It.nn i ∧ Its.nn is
end
mutual
/-- numbers from 1, no empty loop -/
def It.ps : It → Prop
  | .line _ t => 1 ≤ t
  | .loop r is => 1 ≤ r ∧ is ≠ [] ∧ Its.ps is
def Its.ps : List It → Prop
  | [] => True
  | i :: is => It.ps i ∧ Its.ps is
end
mutual
theorem It.ps_nn : ∀ i : It, It.ps i → It.nn i
  | .line x t, h => by
    rw [It.ps] at h
    rw [It.nn]
    omega
  | .loop r is, h => by
    rw [It.ps] at h
    rw [It.nn]
    exact ⟨by omega, Its.ps_nn is h.2.2⟩
theorem Its.ps_nn : ∀ is : List It, Its.ps is → Its.nn is
  | [], _ => by
    rw [Its.nn]
    trivial
  | i :: is, h => by
    rw [Its.ps] at h
    rw [Its.nn]
    exact ⟨It.ps_nn i h.1, Its.ps_nn is h.2⟩
end
theorem ps_mem : ∀ {is : List It} {i : It}, Its.ps is → i ∈ is → It.ps i
  | j :: is, i, h, m => by
    rw [Its.ps] at h
    rcases List.mem_cons.mp m with rfl | m
    · exact h.1
    · exact ps_mem h.2 m
theorem ps_of : ∀ {is : List It}, (∀ i ∈ is, It.ps i) → Its.ps is
  | [], _ => by
    rw [Its.ps]
    trivial
  | i :: is, h => by
    rw [Its.ps]
    exact ⟨h i (List.mem_cons_self ..), ps_of fun j hj => h j (List.mem_cons_of_mem _ hj)⟩
theorem ps_take {is : List It} (h : Its.ps is) (n : Nat) : Its.ps (is.take n) := ps_of fun i hi => ps_mem h (List.mem_of_mem_take hi)
theorem ps_one {i : It} (h : It.ps i) : Its.ps [i] := ps_of fun j hj => by
  rw [List.mem_singleton.mp hj]
  exact h
theorem flat_count (x : Str) (l : List Str) : ∀ n : Nat, ((List.replicate n l).flatten.count x) = n * l.count x
  | 0 => by
    rw [List.replicate_zero, Nat.zero_mul]
    rfl
  | n + 1 => by
    rw [List.replicate_succ, List.flatten_cons, List.count_append, flat_count x l n, Nat.succ_mul]
    omega
theorem flat_len (l : List Str) : ∀ n : Nat, ((List.replicate n l).flatten.length) = n * l.length
  | 0 => by
    rw [List.replicate_zero, Nat.zero_mul]
    rfl
  | n + 1 => by
    rw [List.replicate_succ, List.flatten_cons, List.length_append, flat_len l n, Nat.succ_mul]
    omega
theorem mem_flat {x : Str} {l : List Str} {n : Nat} (h : 1 ≤ n) : x ∈ (List.replicate n l).flatten ↔ x ∈ l := by
  rw [List.mem_flatten]
  constructor
  · rintro ⟨m, h1, h2⟩
    rw [List.eq_of_mem_replicate h1] at h2
    exact h2
  · intro hx
    exact ⟨l, List.mem_replicate.mpr ⟨by omega, rfl⟩, hx⟩
mutual
theorem It.w_pos : ∀ i : It, It.ps i → 1 ≤ (It.w i).length
  | .line x t, h => by
    rw [It.ps] at h
    rw [It.w, List.length_replicate]
    omega
  | .loop r is, h => by
    rw [It.ps] at h
    rw [It.w, flat_len]
    have z := Its.w_pos is h.2.1 h.2.2
    have z2 : 1 * 1 ≤ r.toNat * (Its.w is).length := Nat.mul_le_mul (by omega) z
    omega
theorem Its.w_pos : ∀ is : List It, is ≠ [] → Its.ps is → 1 ≤ (Its.w is).length
  | [], n, _ => absurd rfl n
  | i :: is, _, h => by
    rw [Its.ps] at h
    rw [Its.w, List.length_append]
    have z := It.w_pos i h.1
    omega
end
/-- the ticks up to one within a loop -/
theorem flat_take {l : List Str} (hl : 1 ≤ l.length) : ∀ (n s : Nat), s < n * l.length → (List.replicate n l).flatten.take s = (List.replicate (s / l.length) l).flatten ++ l.take (s % l.length)
  | 0, s, h => by
    rw [Nat.zero_mul] at h
    omega
  | n + 1, s, h => by
    rw [List.replicate_succ, List.flatten_cons, List.take_append]
    by_cases c : s < l.length
    · rw [Nat.div_eq_of_lt c, Nat.mod_eq_of_lt c, Nat.sub_eq_zero_of_le (Nat.le_of_lt c)]
      simp
    · have e : s = (s - l.length) + l.length := by omega
      rw [Nat.succ_mul] at h
      have ih := flat_take hl n (s - l.length) (by omega)
      rw [List.take_of_length_le (by omega), ih]
      have d1 : s / l.length = (s - l.length) / l.length + 1 := by
        conv => lhs; rw [e]
        rw [Nat.add_div_right _ (by omega)]
      have d2 : s % l.length = (s - l.length) % l.length := by
        conv => lhs; rw [e]
        rw [Nat.add_mod_right]
      rw [d1, d2, List.replicate_succ, List.flatten_cons, List.append_assoc]
theorem flat_get {l : List Str} (hl : 1 ≤ l.length) : ∀ (n s : Nat), s < n * l.length → (List.replicate n l).flatten[s]? = l[s % l.length]?
  | 0, s, h => by
    rw [Nat.zero_mul] at h
    omega
  | n + 1, s, h => by
    rw [List.replicate_succ, List.flatten_cons]
    by_cases c : s < l.length
    · rw [List.getElem?_append_left c, Nat.mod_eq_of_lt c]
    · rw [Nat.succ_mul] at h
      rw [List.getElem?_append_right (by omega), flat_get hl n (s - l.length) (by omega)]
      congr 1
      exact (Nat.mod_eq_sub_mod (by omega)).symm
end Ev

/-! ## The numbers of a pot -/
namespace Ev
open PySem PySem.Spec PyProof.Rows L2
/-- the numbers of a pot out of which at most n draws came by reckoning -/
def PotL (n : Nat) (xs : List V) : Prop := ∃ x y c : Int, xs = [.int x, .int y, .int c] ∧ 0 ≤ x ∧ 0 ≤ y ∧ y < 2305843009213693921 ∧ 0 ≤ c ∧ c ≤ n
theorem own_nn (z m : Int) (b : Bool) (h : 0 < m) : 0 ≤ z % m * (if b = true then 1 else 0) := by
  refine Int.mul_nonneg (Int.emod_nonneg _ (by omega)) ?_
  cases b <;> decide
theorem flag_in (b : Bool) : -(2 ^ 64) < (if b = true then 1 else 0 : Int) ∧ (if b = true then 1 else 0 : Int) < 2 ^ 64 := by
  cases b <;> decide
theorem seq_nn {d : Int} {n : Nat} (h0 : 0 ≤ d) (h1 : d < n) : seqIndex? d n = some d.toNat := by
  unfold seqIndex?
  simp only []
  first
    | (rw [if_neg (by omega), if_pos (by omega)])
    | (split <;> simp_all <;> omega)
    | omega
/-- what len of a list or a tuple asks -/
def rLenK (K : PySem.W.Frag) : List V → Hp → VK → Prop := fun xs H Q => ∃ p ys, xs = [V.ref p] ∧ (SqL K H p ys ∨ SqT K H p ys) ∧ Q (.int (ys.length : Nat)) H
/-- what is tracked in H' and was not in H -/
def newer (H H' : Hp) : Hp := fun b => if H b = none then H' b else none
theorem newer_at {H H' : Hp} {b : Addr} (h : H b = none) : newer H H' b = H' b := if_pos h
theorem newer_le {A B A' B' : Hp} (h1 : ∀ b, A b = none → A' b = none) (h2 : ∀ b o, A b = none → B b = some o → B' b = some o) : Same (newer A B) (newer A' B') := fun b o e => by
  by_cases hb : A b = none
  · rw [newer_at hb] at e
    rw [newer_at (h1 b hb)]
    exact h2 b o hb e
  · have z : newer A B b = none := if_neg hb
    rw [z] at e
    cases e
theorem newer_sub {H H' : Hp} (h : ∀ b o, H b = none → H' b = some o → H' b = some o) : Same (newer H H') H' := fun b o e => by
  by_cases hb : H b = none
  · rw [newer_at hb] at e
    exact e
  · have z : newer H H' b = none := if_neg hb
    rw [z] at e
    cases e
theorem daAll_append {K : PySem.W.Frag} {H : Hp} {v : V} {d : PyData} (h : Da K H v d) : ∀ {vs : List V} {ds : List PyData}, DaAll K H vs ds → DaAll K H (vs ++ [v]) (ds ++ [d])
  | _, _, .nil => .cons h .nil
  | _, _, .cons a t => .cons a (daAll_append h t)
/-- tracked things stay tracked -/
theorem Bu.dom {p : Addr} {H H' : Hp} {o : HO} (h : Bu p H H') (hp : H' p = some o) (b : Addr) (e : H' b = none) : H b = none := by
  cases q : H b with
  | none => rfl
  | some u =>
    by_cases z : b = p
    · rw [z, hp] at e
      cases e
    · rw [h b u z q] at e
      cases e
theorem dom1 {p l : Addr} {H H' : Hp} {o1 o2 o3 : HO} (h : Bu p H H') (hp : H' p = some o1) (hl : H' l = some o2) {t : Addr} (e : H' t = none) : upd H l o3 t = none := by
  have ntl : t ≠ l := fun z => by
    rw [z, hl] at e
    cases e
  rw [upd_ne ntl]
  exact h.dom hp t e
theorem log_le {m : Int} (h1 : 1 ≤ m) (h2 : m ≤ 10 ^ 18) : m.natAbs.log2 < 9000 :=
  Nat.lt_of_lt_of_le (PySem.Flt.log2_lt_of (show 0 < 64 by decide) (show m.natAbs < 2 ^ 64 by omega)) (by decide)
theorem PotL.up {n m : Nat} {xs : List V} (h : PotL n xs) (k : n ≤ m) : PotL m xs := by
  obtain ⟨x, y, c, h1, h2, h3, h4, h5, h6⟩ := h
  exact ⟨x, y, c, h1, h2, h3, h4, h5, by omega⟩
theorem bu_seq {K : PySem.W.Frag} {p q : Addr} {H H' : Hp} {zs : List V} (n : q ≠ p) (h : Bu p H H') (s : SqL K H q zs) : SqL K H' q zs := by
  rcases s with (e | ⟨o, e⟩) | e
  · exact .inl (.inl (h _ _ n e))
  · exact .inl (.inr ⟨o, h _ _ n e⟩)
  · exact .inr e
end Ev

/-! ## isinstance of any datum; slices of tuples -/
namespace Ev
open PySem PySem.Spec PyProof.Rows L2
def tyD : PyData → String
  | .none => "NoneType"
  | .bool _ => "bool"
  | .int _ => "int"
  | .str _ => "str"
  | .list _ => "list"
  | .tuple _ => "tuple"
  | .dict _ => "dict"
theorem Da.ty {K : PySem.W.Frag} {H : Hp} {x : V} {d : PyData} (h : Da K H x d) : TyX K H x (.type (tyD d)) := by
  cases h with
  | non => exact .base .non
  | bl b => exact .base (.bl b)
  | int i => exact .base (.int i)
  | str x => exact .base (.str x)
  | lst hs ha =>
    rcases hs with (e | ⟨o, e⟩) | ⟨o, its, n, e, hc, _⟩
    · exact .base (.lst e)
    · exact .base (.frz e)
    · exact .kList e hc
  | tup hs ha =>
    rcases hs with (e | ⟨o, e⟩) | ⟨o, its, n, e, hc, _⟩
    · exact .base (.tup e)
    · exact .fTuple e
    · exact .kTuple e hc
  | dic e hk => exact .base (.dK e)
def isD (T : String) (d : PyData) : Bool := (kitB (tyD d) T).getD false
def OkT (T : String) : Prop := T = "int" ∨ T = "bool" ∨ T = "tuple" ∨ T = "str"
theorem kit_D {T : String} (hT : OkT T) (d : PyData) : kitB (tyD d) T = some (isD T d) := by
  rcases hT with rfl | rfl | rfl | rfl <;> cases d <;> kernel_rfl
theorem isD_int (d : PyData) : isD "int" d = (match d with | .int _ => true | .bool _ => true | _ => false) := by
  cases d <;> kernel_rfl
theorem isD_bool (d : PyData) : isD "bool" d = (match d with | .bool _ => true | _ => false) := by
  cases d <;> kernel_rfl
theorem isD_tuple (d : PyData) : isD "tuple" d = (match d with | .tuple _ => true | _ => false) := by
  cases d <;> kernel_rfl
theorem isD_str (d : PyData) : isD "str" d = (match d with | .str _ => true | _ => false) := by
  cases d <;> kernel_rfl
def tIsT (K : PySem.W.Frag) (T : String) (i : Nat) : TE := fun σ H Q => ∃ (x : V) (d : PyData), σ[i]? = some (some x) ∧ Da K H x d ∧ Q (.bl (isD T d)) H
section
variable {X : Cx} {x y : Str} {i : Nat} {p1 p2 q1 q2 : Pos}
theorem pe_isT {T : String} (hT : OkT T) (m : X.mg "isinstance" = none) (hv : ∀ pos, PE X (.Name y pos) (tVar i)) (hx : ∀ pos, PE X (.Name x pos) (tC (.ty T))) (hg : Gl X "isinstance" := by rfl) :
    PE X (.Call (.Name "isinstance" p1) [.Name y q1, .Name x q2] [] p2) (tIsT X.K T i) := by
  refine PE.imp (pe_callB call_isi hg m (by decide +kernel) (pa_cons (hv q1) (pa_cons (hx q2) pa_nil))) ?_
  rintro σ H Q ⟨x, d, h1, h2, h3⟩
  exact ⟨x, h1, x, .ty T, .type (tyD d), .type T, isD T d, rfl, .ty T, h2.ty, kit_ty (kit_D hT d), h3⟩
end
section
variable {K : PySem.W.Frag} {H0 : Hp} {σ : L2.St} {i : Nat} {x : V} {d : PyData} {T : String} {b c : Bool} {tt uu : TT} {t rest : TS} {D : Ends}
theorem t_isT (h : σ[i]? = some (some x)) (hd : Da K H0 x d) : GivesT H0 (tB (tIsT K T i)) (isD T d) σ := fun H Q s q => ⟨x, d, h, hd.mono s, _, rfl, q H Same.rfl'⟩
end
def intD (lo hi : Int) : PyData → Bool
  | .int i => decide (lo ≤ i) && decide (i ≤ hi)
  | _ => false
theorem ty_of {X : Cx} {x : Str} {T : String} {pos : Pos} (hg : Gl X x) (hm : X.mg x = none) (hb : bootBuiltins x = some (.type T)) (hn : x ≠ "__name__" := by decide) (hd : (x == ("__debug__" : Str)) = false := by decide) :
    PE X (.Name x pos) (tC (.ty T)) := pe_bltn (v := .ty T) hg hm hb (show RelV (.ty T) (.type T) from rfl) hn hd
def cutD (ds : List PyData) (lo hi : Option Int) : List PyData := (ds.drop (HT.sIx ds.length 0 lo)).take (HT.sIx ds.length ds.length hi - HT.sIx ds.length 0 lo)
theorem cut_to (ds : List PyData) (i : Nat) : cutD ds none (some (i : Nat)) = ds.take i := by
  unfold cutD
  rw [HT.sIx_none, HT.sIx_nat, List.drop_zero, Nat.sub_zero]
  by_cases h : i ≤ ds.length
  · rw [Nat.min_eq_left h]
  · rw [Nat.min_eq_right (by omega), List.take_of_length_le (by omega), List.take_of_length_le (by omega)]
theorem cut_mid (ds : List PyData) (i j : Nat) : cutD ds (some (i : Nat)) (some (j : Nat)) = (ds.drop i).take (j - i) := by
  unfold cutD
  rw [HT.sIx_nat, HT.sIx_nat]
  by_cases h : i ≤ ds.length
  · rw [Nat.min_eq_left h]
    by_cases k : j ≤ ds.length
    · rw [Nat.min_eq_left k]
    · rw [Nat.min_eq_right (by omega), List.take_of_length_le (by rw [List.length_drop]; omega), List.take_of_length_le (by rw [List.length_drop]; omega)]
  · have e : min i ds.length = ds.length := Nat.min_eq_right (by omega)
    rw [e, List.drop_of_length_le (Nat.le_refl _), List.drop_of_length_le (show ds.length ≤ i by omega), List.take_nil, List.take_nil]
theorem daAll_take {K : PySem.W.Frag} {H : Hp} : ∀ {vs : List V} {ds : List PyData} (n : Nat), DaAll K H vs ds → DaAll K H (vs.take n) (ds.take n)
  | _, _, 0, _ => .nil
  | _, _, _ + 1, .nil => .nil
  | _, _, n + 1, .cons a t => .cons a (daAll_take n t)
theorem daAll_drop {K : PySem.W.Frag} {H : Hp} : ∀ {vs : List V} {ds : List PyData} (n : Nat), DaAll K H vs ds → DaAll K H (vs.drop n) (ds.drop n)
  | _, _, 0, h => h
  | _, _, _ + 1, .nil => .nil
  | _, _, n + 1, .cons _ t => daAll_drop n t
/-- a slice of a tuple -/
theorem sl_val {K : PySem.W.Frag} {H : Hp} {x : V} {ds : List PyData} {lo hi : Option Int} {Q : VK} (hd : Da K H x (.tuple ds)) (q : ∀ H' u, Same H H' → Da K H' u (.tuple (cutD ds lo hi)) → Q u H') : rSlA K x lo hi H Q := by
  cases hd with
  | @tup a xs _ hs ha =>
  have hl := daAll_len ha
  refine ⟨a, xs, rfl, hs, fun e => ?_, fun e r nr => ?_⟩
  · refine q _ _ Same.rfl' ?_
    have z : cutD ds lo hi = ds := by
      unfold cutD
      rw [← hl, e.1, e.2, hl, List.drop_zero, Nat.sub_zero, List.take_length]
    rw [z]
    exact .tup hs ha
  · refine q _ _ (same_put nr) (.tup (xs := cutV xs lo hi) (.inl (.inl upd_same)) ?_)
    have z := (daAll_take (HT.sIx xs.length xs.length hi - HT.sIx xs.length 0 lo) (daAll_drop (HT.sIx xs.length 0 lo) ha)).mono (same_put (o := .tup (cutV xs lo hi)) nr)
    unfold cutV cutD
    rw [← hl]
    exact z
theorem cut_from (ds : List PyData) (i : Nat) : cutD ds (some (i : Nat)) none = ds.drop i := by
  unfold cutD
  rw [HT.sIx_none, HT.sIx_nat]
  by_cases h : i ≤ ds.length
  · rw [Nat.min_eq_left h, List.take_of_length_le (by rw [List.length_drop]; exact Nat.le_refl _)]
  · rw [Nat.min_eq_right (by omega), List.drop_of_length_le (Nat.le_refl _), List.drop_of_length_le (by omega), List.take_nil]
end Ev

/-! ## Defs by name: what stands there, and what it promises -/
namespace Ev
open PySem PySem.Spec PyProof.Rows L2
/-- a def of the module -/
structure Def (K : PySem.W.Frag) (mg : Str → Option Value) (x : Str) (st : Stmt) (ps : List Str) : Prop where
  ex : ∃ (f : Addr) (fd : FuncData), Fun K x x st f fd ∧ Binds K fd ps [] ∧ mg x = some (.ref f)
/-- a def that keeps a promise, ready to be called -/
structure Cal (P : Program) (w : World) (K : PySem.W.Frag) (mg : Str → Option Value) (base : Heap) (k : Nat) (x : Str) (ps : List Str) (sp : Sp) : Prop where
  ex : ∃ (f : Addr) (fd : FuncData), FnG P w K mg base CX0 k f fd ps sp ∧ Binds K fd ps [] ∧ mg x = some (.ref f) ∧ PySem.W.keepIn K (.ref f) = true
section
variable {P : Program} {w : World} {K : PySem.W.Frag} {mg : Str → Option Value} {base : Heap} {x : Str} {st : Stmt} {ps N : List Str} {sp : Sp} {k j : Nat}
theorem Cal.up (C : Cal P w K mg base j x ps sp) (h : j ≤ k) : Cal P w K mg base k x ps sp := by
  obtain ⟨f, fd, F, b, m, v⟩ := C.ex
  exact ⟨f, fd, F.up h, b, m, v⟩
theorem Cal.of {f : Addr} {fd : FuncData} (F : FnOk P w K mg base CX0 k f fd ps sp) (b : Binds K fd ps []) (m : mg x = some (.ref f)) (v : PySem.W.keepIn K (.ref f) = true) : Cal P w K mg base k x ps sp :=
  ⟨f, fd, .of F, b, m, v⟩
theorem Def.ok (D : Def K mg x st ps) (S : FnScope N ps (defScope st)) (len : ∀ vs H Q E, sp vs H Q E → vs.length = ps.length)
    (hbody : ∀ (f : Addr) (cdv : Value) (A : Around) (outer : List Env) (s : Shared) (H : Hp) (vs : List V) (Q : VK) (E : XK),
      Room k (A.deeper (envOfC x (defScope st) s.heap.objs.size f cdv)) → A.guards = some [] → sp vs H Q E →
      ∃ t, PSs (cxOf CX0 P w K mg base N x (defScope st) f cdv A outer s H E).nox (defBody st) t ∧
        t { nx := fun _ H' => Q .non H', rt := Q } (start N vs) H) : Cal P w K mg base (k + 1) x ps sp := by
  obtain ⟨f, fd, F, b, m⟩ := D.ex
  exact ⟨f, fd, okG F S len (hbody f), b, m, F.kp⟩
theorem no_cal (D : Def K mg x st ps) : Cal P w K mg base k x ps (fun _ _ _ _ => False) := by
  obtain ⟨f, fd, F, b, m⟩ := D.ex
  exact ⟨f, fd, .of no_fn, b, m, F.kp⟩
end
section
variable {X : Cx} {k : Nat} {ps : List Str} {sp : Sp} {x : Str} {p pos : Pos} {e : Expr} {es : List Expr} {t : TA}
theorem pcall (C : Cal X.prog X.w X.K X.mg X.base k x ps sp) (hr : Room k X.A) (gd : X.A.guards = some []) (hg : Gl X x) (ha : PA X (e :: es) t)
    (hdb : (x == ("__debug__" : Str)) = false := by decide) (he : starEach (e :: es) X.env = (false, eval e X.env) :: starEach es X.env := by rfl)
    (hpl : (backTo pos (starEach es X.env)).any (·.1) = false := by rfl) : PE X (.Call (.Name x p) (e :: es) [] pos) (tCall sp [] E0 t) := by
  obtain ⟨f, fd, F, hb, hm, hk⟩ := C.ex
  exact pe_callG F hr gd hg hm hk hb .nil pass0 ha hdb he hpl
theorem pcall0 (C : Cal X.prog X.w X.K X.mg X.base k x ps sp) (hr : Room k X.A) (gd : X.A.guards = some []) (hg : Gl X x)
    (hdb : (x == ("__debug__" : Str)) = false := by decide) : PE X (.Call (.Name x p) [] [] pos) (tCall sp [] E0 tNil) := by
  obtain ⟨f, fd, F, hb, hm, hk⟩ := C.ex
  exact pe_callG0 F hr gd hg hm hk hb .nil pass0 hdb
end
theorem hu70 {A : Around} {k : Nat} (hr : Room k A) : A.units + 70 < cLine := by
  have := hr.un
  omega
/-- built-in names that the module leaves alone -/
def nbs : List Str := ["len", "abs", "int", "bool", "isinstance", "range", "max", "min", "sum", "repr", "divmod", "tuple", "sorted", "set", "enumerate", "zip", "list", "dict", "any", "all", "str", "reversed"]
def NB (mg : Str → Option Value) : Prop := ∀ x ∈ nbs, mg x = none
theorem NB.at {mg : Str → Option Value} (h : NB mg) {x : Str} (hx : nbs.contains x = true := by decide +kernel) : mg x = none := h x (List.contains_iff_mem.mp hx)
/-! ### is_whole, is_integer_within -/
def spWh (K : PySem.W.Frag) : Sp := fun vs H Q _ => ∃ (x : V) (d : PyData), vs = [x] ∧ Da K H x d ∧ Q (.bl (isD "int" d && !isD "bool" d)) H
def spIn (K : PySem.W.Frag) : Sp := fun vs H Q _ => ∃ (x : V) (d : PyData) (lo hi : Int), vs = [x, .int lo, .int hi] ∧ Da K H x d ∧ ∀ H', Same H H' → Q (.bl (intD lo hi d)) H'
/-! ### tuple * 0, tuple * 1 -/
theorem tuple_mul1 (l : Addr) (items : Array Value) (n : Nat) (dd : Option Addr) (sl : Array (Option Value)) (x : Int) (u : Tok) (c0 : (decide (x < -(2 ^ 63)) || decide (x ≥ 2 ^ 63)) = false) (c1 : (items.isEmpty || x == 1) = true) :
    Meets (Builtin.«tuple.__mul__» ⟨[.ref l, .int x u], []⟩) (fun _ R s => s.heap.get? l = some { cls := .type "tuple", dict := dd, data := .seq items n, slots := sl } ∧
      R (.ok (.ret (Value.ref l))) s) :=
  .of_wp fun prog w A R s h => by
    obtain ⟨hp, g, d, tk, os⟩ := s
    obtain ⟨hl, h⟩ := h
    have f1 := AutoSeq1.idx_int
    wp_walk using wpAny_loadPart' hl
    repeat (first
      | (refine wpAny_ite_false (decide_eq_false (by rw [c0]; exact Bool.false_ne_true)) ?_; wp_walk using wpAny_loadPart' hl)
      | (refine wpAny_ite_true (decide_eq_true c1) ?_; wp_walk using wpAny_loadPart' hl))
    exact ⟨_, rfl, h⟩
theorem tuple_mul0 (l : Addr) (items : Array Value) (n : Nat) (dd : Option Addr) (sl : Array (Option Value)) (x : Int) (u : Tok) (c0 : (decide (x < -(2 ^ 63)) || decide (x ≥ 2 ^ 63)) = false) (c1 : (items.isEmpty || x == 1) = false)
    (c2 : (decide (x ≤ 0) || items.isEmpty) = true) :
    Meets (Builtin.«tuple.__mul__» ⟨[.ref l, .int x u], []⟩) (fun _ R s => s.heap.get? l = some { cls := .type "tuple", dict := dd, data := .seq items n, slots := sl } ∧
      R (.ok (.ret (Value.ref s.heap.objs.size))) { s with heap := s.heap.push { cls := Value.type "tuple", data := Data.seq #[] }, toks := s.toks }) :=
  .of_wp fun prog w A R s h => by
    obtain ⟨hp, g, d, tk, os⟩ := s
    obtain ⟨hl, h⟩ := h
    have f1 := AutoSeq1.idx_int
    wp_walk using wpAny_loadPart' hl
    repeat (first
      | (refine wpAny_ite_false (decide_eq_false (by rw [c0]; exact Bool.false_ne_true)) ?_; wp_walk using wpAny_loadPart' hl)
      | (refine wpAny_ite_false (decide_eq_false (by rw [c1]; exact Bool.false_ne_true)) ?_; wp_walk using wpAny_loadPart' hl)
      | (refine wpAny_ite_true (decide_eq_true c2) ?_; wp_walk using wpAny_loadPart' hl))
    exact ⟨_, rfl, h⟩
def rRepT01 (K : PySem.W.Frag) : R2 := fun x y H Q => ∃ l xs k, x = .ref l ∧ y = .int k ∧ SqT K H l xs ∧ xs ≠ [] ∧ ((k = 1 ∧ Q (.ref l) H) ∨ (k = 0 ∧ ∀ p, H p = none → Q (.ref p) (upd H p (.tup []))))
theorem op_repT01 {X : Cx} : OpR X (binaryOp .Mult) (rRepT01 X.K) := by
  intro pins s σ H x y v u Q I rx ry h
  obtain ⟨l, xs, k, rfl, rfl, hT, hne, h⟩ := h
  cases rx
  obtain ⟨t, rfl⟩ := ry
  obtain ⟨its, r, ⟨⟨cls, dd, data, sl⟩, ho, hc, n, hd⟩, hs⟩ := I.tuple hT
  simp only at hc hd
  subst hc hd
  have hle : its.length = xs.length := r.length.symm
  have hi : its.toArray.isEmpty = false := by
    cases its with
    | nil => exact absurd (List.eq_nil_of_length_eq_zero hle.symm) hne
    | cons a b => rfl
  rcases h with ⟨rfl, q⟩ | ⟨rfl, q⟩
  · refine wpAny_binaryOp_repeat_ref (T := "tuple") (U := "int") (by decide) ⟨_, ho, rfl⟩ (fun s' => typeIs_int s' 1 t) noFill_tuple_mul F.fills_int_mul F.slot_int_rmul repeat_tuple F.slot_int_index.lookup
      (call_meets F.slot_int_rmul (typeIs_int s 1 t) F.entry_int_rmul (F.args_int_rmul_2 _ _) (int_rmul_tuple 1 t l its.toArray n dd sl)
        ⟨ho, rfl, ⟨_, ho, rfl⟩, call_meets F.slot_tuple_mul ⟨_, ho, rfl⟩ F.entry_tuple_mul (F.args_tuple_mul_2 _ _) (tuple_mul1 l its.toArray n dd sl 1 t (by decide) (by rw [hi]; rfl)) ⟨ho, ?_⟩⟩)
    exact ⟨.ref l, H, I, rfl, q⟩
  · refine wpAny_binaryOp_repeat_ref (T := "tuple") (U := "int") (by decide) ⟨_, ho, rfl⟩ (fun s' => typeIs_int s' 0 t) noFill_tuple_mul F.fills_int_mul F.slot_int_rmul repeat_tuple F.slot_int_index.lookup
      (call_meets F.slot_int_rmul (typeIs_int s 0 t) F.entry_int_rmul (F.args_int_rmul_2 _ _) (int_rmul_tuple 0 t l its.toArray n dd sl)
        ⟨ho, rfl, ⟨_, ho, rfl⟩, call_meets F.slot_tuple_mul ⟨_, ho, rfl⟩ F.entry_tuple_mul (F.args_tuple_mul_2 _ _) (tuple_mul0 l its.toArray n dd sl 0 t (by decide) (by rw [hi]; rfl) (by simp)) ⟨ho, ?_⟩⟩)
    refine ⟨.ref s.heap.objs.size, _, I.laid (t' := s.toks) (o := .tup []) (fun b ob q => Heap.get?_push_of_some _ q) (Nat.le_refl _) ?_, rfl, q _ (I.hok.fresh (Nat.le_refl _))⟩
    exact ⟨Nat.zero_le _, [], .nil, IsTup.new _ _⟩
/-! ### pots -/
/-- at p stands a pot out of which at most n draws came by reckoning -/
def PotA (p : Addr) (n : Nat) (H : Hp) : Prop := ∃ xs, H p = some (.lst xs) ∧ PotL n xs
theorem PotA.up {p : Addr} {n m : Nat} {H : Hp} (h : PotA p n H) (k : n ≤ m) : PotA p m H := by
  obtain ⟨xs, e, q⟩ := h
  exact ⟨xs, e, q.up k⟩
theorem PotA.same {p : Addr} {n : Nat} {H H' : Hp} (h : PotA p n H) (s : Same H H') : PotA p n H' := by
  obtain ⟨xs, e, q⟩ := h
  exact ⟨xs, s _ _ e, q⟩
theorem PotA.new {p q : Addr} {n : Nat} {H : Hp} {o : HO} (h : PotA p n H) (nq : H q = none) : PotA p n (upd H q o) := h.same (same_put nq)
theorem PotA.ne {p q : Addr} {n : Nat} {H : Hp} (h : PotA p n H) (nq : H q = none) : p ≠ q := by
  obtain ⟨xs, e, _⟩ := h
  exact ne_of_none e nq
theorem PotA.put {p l : Addr} {n : Nat} {H : Hp} {o : HO} (h : PotA p n H) (ne : p ≠ l) : PotA p n (upd H l o) := by
  obtain ⟨xs, e, q⟩ := h
  exact ⟨xs, by rw [upd_ne ne]; exact e, q⟩
theorem PotA.kt {p : Addr} {n : Nat} {H H' : Hp} (h : PotA p n H) (b : Bu p H H') : Kt H H' := by
  obtain ⟨xs, e, _⟩ := h
  exact b.kt e
/-- tuples stay, while a pot is drawn from -/
theorem Da.bu {K : PySem.W.Frag} {p : Addr} {n : Nat} {H H' : Hp} {u : V} {d : PyData} (hd : Da K H u d) (ht : tupD d = true) (h : PotA p n H) (b : Bu p H H') : Da K H' u d := hd.kt (h.kt b) ht
theorem Bu.same {p : Addr} {H H1 H2 : Hp} (b : Bu p H H1) (s : Same H1 H2) : Bu p H H2 := b.trans (.of s)
def spDraw : Sp := fun vs H Q _ => ∃ (p : Addr) (m : Int) (n : Nat), vs = [.ref p, .int m] ∧ PotA p n H ∧ n < 10000000 ∧ 0 < m ∧ m.natAbs.log2 < 9000 ∧ ∀ H' d, Bu p H H' → PotA p (n + 1) H' → 0 ≤ d → d < m → Q (.int d) H'
def spPick (K : PySem.W.Frag) : Sp := fun vs H Q _ => ∃ (p q : Addr) (zs : List V) (n : Nat), vs = [.ref p, .ref q] ∧ PotA p n H ∧ n < 10000000 ∧ p ≠ q ∧ SqL K H q zs ∧ zs ≠ [] ∧ zs.length ≤ 1000000 ∧
  ∀ H' v, Bu p H H' → PotA p (n + 1) H' → v ∈ zs → Q v H'
def spPotS (K : PySem.W.Frag) : Sp := fun vs H Q _ => ∃ (a : Addr) (ns : List Int) (k : Int), vs = [.ref a, .int k] ∧ SqL K H a (ns.map V.int) ∧ 0 ≤ k ∧ k ≤ 1000 ∧ ∀ H' p, H p = none → Same H H' → PotA p 0 H' → Q (.ref p) H'
theorem log_i {m : Int} {k : Nat} (h1 : 0 ≤ m) (h2 : m < (2 ^ k : Nat)) (h0 : 0 < k) (hk : k ≤ 9000) : m.natAbs.log2 < 9000 :=
  Nat.lt_of_lt_of_le (PySem.Flt.log2_lt_of h0 (show m.natAbs < 2 ^ k by omega)) hk
/-! ### tuples joined; comprehensions whose elements are plain values -/
section
variable {K : PySem.W.Frag} {H0 : Hp} {σ : L2.St} {te ti : TE}
theorem cat_val {H : Hp} {x y : V} {ds es : List PyData} {Q : VK} (hx : Da K H x (.tuple ds)) (hy : Da K H y (.tuple es)) (hl : ds.length + es.length ≤ sizeLine)
    (q : ∀ H' u, Same H H' → Da K H' u (.tuple (ds ++ es)) → Q u H') : rCatA K x y H Q := by
  cases hx with
  | @tup a xs _ hs ha =>
  cases hy with
  | @tup b ys _ ht hb =>
  have l1 := daAll_len ha
  have l2 := daAll_len hb
  refine ⟨a, b, xs, ys, rfl, rfl, hs, ht, by omega, fun e => ?_, fun _ e => ?_, fun _ _ p np => ?_⟩
  · subst e
    cases ha
    exact q H _ Same.rfl' (.tup ht hb)
  · subst e
    cases hb
    refine q H _ Same.rfl' ?_
    rw [List.append_nil]
    exact .tup hs ha
  · exact q _ _ (same_put np) (.tup (xs := xs ++ ys) (.inl (.inl upd_same)) ((da_app ha hb).mono (same_put np)))
theorem g_lcT1 {ds : List PyData} {ys : List V} {g : TG} {vs : List Nat} (hi : ∀ (H : Hp) (Q : VK), Same H0 H → (∀ H' l us, Same H H' → SqT K H' l us → DaAll K H' us ds → Q (.ref l) H') → ti σ H Q) (hz : ds.length ≤ 1000000) (hl : ys.length = ds.length)
    (he : ∀ (j : Nat) (x y : V) (d : PyData), ds[j]? = some d → ys[j]? = some y → ∀ (H : Hp) (R : VK), Same H0 H → Da K H x d → (∀ H', Same H H' → R y H') → g x (wipe σ vs) H fun σ2 H2 => wipe σ2 vs = wipe σ vs ∧ te σ2 H2 R) :
    Gives H0 (tLc (iTup K ti) g tYes te vs) (gLst (ys.map gEq)) σ := fun H Q s q => by
  refine hi H _ s fun H1 l us s1 hl1 ha => ⟨l, rfl, ⟨us, hl1⟩, fun D nD => ?_⟩
  have sl := sizeLine_eq
  have hlen := daAll_len ha
  refine lc_tup (K := K) (a := l) (xs := us) (fun k H' => Same H1 H' ∧ H' D = some (.lst (ys.take k))) ⟨same_put nD, upd_same⟩ (fun k H' _ ⟨s', _⟩ => seqT_mono s' hl1) ?_ ?_
  · rintro k x H' hk ⟨s', eD⟩
    obtain ⟨d, hd, hx⟩ := daAll_at ha hk
    have hkl : k < ds.length := (List.getElem?_eq_some_iff.mp hd).1
    have hk' : k < ys.length := by omega
    have hy := List.getElem?_eq_getElem hk'
    refine cast ?_ (he k x ys[k] d hd hy H' (fun y' H4 => ∃ acc, H4 D = some (.lst acc) ∧ acc.length < sizeLine ∧ Same H1 (upd H4 D (.lst (acc ++ [y']))) ∧ upd H4 D (.lst (acc ++ [y'])) D = some (.lst (ys.take (k + 1))))
      (s.trans (s1.trans s')) (hx.mono s') (fun H4 s4 => ⟨_, s4 _ _ eD, ?_, ?_, ?_⟩))
    · rfl
    · rw [List.length_take]
      omega
    · intro b o e
      rw [upd_ne (ne_of_none e nD)]
      exact s4 _ _ (s' _ _ e)
    · rw [upd_same, List.take_add_one, hy]
      rfl
  · rintro H' ⟨s', eD⟩
    rw [hlen, ← hl, List.take_length] at eD
    exact q H' _ (s1.trans s') ⟨D, _, rfl, eD, allEq⟩
theorem g_lcL1 {ds : List PyData} {ys : List V} {g : TG} {vs : List Nat} (hi : ∀ (H : Hp) (Q : VK), Same H0 H → (∀ H' l us, Same H H' → SqL K H' l us → DaAll K H' us ds → Q (.ref l) H') → ti σ H Q) (hz : ds.length ≤ 1000000) (hl : ys.length = ds.length)
    (he : ∀ (j : Nat) (x y : V) (d : PyData), ds[j]? = some d → ys[j]? = some y → ∀ (H : Hp) (R : VK), Same H0 H → Da K H x d → (∀ H', Same H H' → R y H') → g x (wipe σ vs) H fun σ2 H2 => wipe σ2 vs = wipe σ vs ∧ te σ2 H2 R) :
    Gives H0 (tLc (iList K ti) g tYes te vs) (gLst (ys.map gEq)) σ := fun H Q s q => by
  refine hi H _ s fun H1 l us s1 hl1 ha => ⟨l, rfl, ⟨us, hl1⟩, fun D nD => ?_⟩
  have sl := sizeLine_eq
  have hlen := daAll_len ha
  refine lc_list (K := K) (a := l) (xs := us) (fun k H' => Same H1 H' ∧ H' D = some (.lst (ys.take k))) ⟨same_put nD, upd_same⟩ (fun k H' _ ⟨s', _⟩ => s'.seq hl1) ?_ ?_
  · rintro k x H' hk ⟨s', eD⟩
    obtain ⟨d, hd, hx⟩ := daAll_at ha hk
    have hkl : k < ds.length := (List.getElem?_eq_some_iff.mp hd).1
    have hk' : k < ys.length := by omega
    have hy := List.getElem?_eq_getElem hk'
    refine cast ?_ (he k x ys[k] d hd hy H' (fun y' H4 => ∃ acc, H4 D = some (.lst acc) ∧ acc.length < sizeLine ∧ Same H1 (upd H4 D (.lst (acc ++ [y']))) ∧ upd H4 D (.lst (acc ++ [y'])) D = some (.lst (ys.take (k + 1))))
      (s.trans (s1.trans s')) (hx.mono s') (fun H4 s4 => ⟨_, s4 _ _ eD, ?_, ?_, ?_⟩))
    · rfl
    · rw [List.length_take]
      omega
    · intro b o e
      rw [upd_ne (ne_of_none e nD)]
      exact s4 _ _ (s' _ _ e)
    · rw [upd_same, List.take_add_one, hy]
      rfl
  · rintro H' ⟨s', eD⟩
    rw [hlen, ← hl, List.take_length] at eD
    exact q H' _ (s1.trans s') ⟨D, _, rfl, eD, allEq⟩
theorem hi_tup {i : Nat} {x : V} {ds : List PyData} (hv : σ[i]? = some (some x)) (hd : Da K H0 x (.tuple ds)) :
    ∀ (H : Hp) (Q : VK), Same H0 H → (∀ H' l us, Same H H' → SqT K H' l us → DaAll K H' us ds → Q (.ref l) H') → tVar i σ H Q := fun H Q s q => by
  have z := hd.mono s
  cases z with
  | @tup a xs _ hs ha => exact ⟨_, hv, q H a xs Same.rfl' hs ha⟩
theorem hi_lst {i : Nat} {x : V} {ds : List PyData} (hv : σ[i]? = some (some x)) (hd : Da K H0 x (.list ds)) :
    ∀ (H : Hp) (Q : VK), Same H0 H → (∀ H' l us, Same H H' → SqL K H' l us → DaAll K H' us ds → Q (.ref l) H') → tVar i σ H Q := fun H Q s q => by
  have z := hd.mono s
  cases z with
  | @lst a xs _ hs ha => exact ⟨_, hv, q H a xs Same.rfl' hs ha⟩
end
end Ev

/-! ## The row -/
namespace Ev
open PySem
def topS (i : Nat) : Stmt := PySem.Challenge.pw_evensamples_k02_ticks_of_small_programs.main.body.getD i (.Pass ⟨0, 0, 0, 0⟩)
end Ev

/-! ## spent, length, lines_of -/
namespace Ev
open PySem PySem.Spec PyProof.Rows L2
def spSpent (K : PySem.W.Frag) (B dep : Nat) : Sp := fun vs H Q _ => ∃ (x : V) (is : List It) (r : Int) (R : Nat), vs = [x, .int r] ∧ Da K H x (.tuple (is.map It.d)) ∧ (∀ i ∈ is, Okp B dep i) ∧ r.natAbs < 2 ^ R ∧ 0 < R ∧ 0 < B ∧
  R + (dep + 1) * B ≤ 900000 ∧ Its.nl is ≤ 100000 ∧ ∀ H' u, Same H H' → (gPl K (Its.sp r is)).p H' u → Q u H'
theorem scSp : FnScope ["items", "rounds", "pairs", "kind", "first", "second"] ["items", "rounds"] (defScope (topS 19)) := ⟨rfl, rfl, rfl, by decide +kernel, rfl, by decide +kernel, by decide +kernel⟩
section
variable {P : Program} {w : World} {K : PySem.W.Frag} {mg : Str → Option Value} {base : Heap} {f fS : Addr} {fd fdS : FuncData}
theorem sp_step {k B dep : Nat} {spR : Sp} (F : Fun K "spent" "spent" (topS 19) f fd) (b : Binds K fd ["items", "rounds"] []) (m : mg "spent" = some (.ref f)) (v : PySem.W.keepIn K (.ref f) = true)
    (GR : FnOk P w K mg base CX0 k f fd ["items", "rounds"] spR) (hR : dep = 0 ∨ ∃ d, dep = d + 1 ∧ spR = spSpent K B d) : FnOk P w K mg base CX0 (k + 1) f fd ["items", "rounds"] (spSpent K B dep) := by
  refine F.ok scSp (fun vs H Q E h => ?_) (fun cdv A outer s H vs Q E hr h => ?_)
  · obtain ⟨x, is, r, R, rfl, _⟩ := h
    rfl
  · obtain ⟨x, is, r, R, rfl, hd, hok, hr0, R0, B0, hb, hnl, q⟩ := h
    refine ⟨_, pss_cons (ps_set (i := 2) scSp.nd rfl (.inl rfl) (pe_lst pa_nil))
      (pss_cons (ps_for PassesOwn.never rfl (pi_tup (pv 0)) (pg_tup rfl (pgs_cons (pg_name (i := 3) scSp.nd rfl (.inl rfl)) (pgs_cons (pg_name (i := 4) scSp.nd rfl (.inl rfl)) (pgs_cons (pg_name (i := 5) scSp.nd rfl (.inl rfl)) pgs_nil))))
        (pss_one (ps_if (pt_cmpR op_eq (pv 3) pe_str (nomark _))
          (pss_one (ps_expr (pe_bm PySem.F.plainAttrs_list PySem.F.slot_list_append PySem.F.type_list_append mt_append (pv 2) (pa_cons (pe_tup (pa_cons (pv 4) (pa_cons (pe_op op_mulW (pv 1) (pv 5)) pa_nil))) pa_nil))))
          (pss_one (ps_expr (pe_bm PySem.F.plainAttrs_list PySem.F.slot_list_extend PySem.F.type_list_extend mt_extend (pv 2) (pa_cons (pe_call GR hr (by rfl) m v b .nil pass0 (pa_cons (pv 5) (pa_cons (pe_op op_mulW (pv 1) (pv 4)) pa_nil))) pa_nil)))))))
      (pss_one (ps_ret (pv 2)))), ?_⟩
    have y := sizeLine_eq
    obtain ⟨a, xs, rfl, hs, ha⟩ := da_prog hd
    refine ⟨(by show 0 ≤ sizeLine; exact Nat.zero_le _), fun l nl => ?_⟩
    have s0 : Same H (upd H l (.lst [])) := same_put nl
    refine ⟨_, rfl, a, rfl, ⟨xs, seqT_mono s0 hs⟩, for_tup (K := K) (a := a) (xs := xs) (fun i σ' H' => ∃ (us : List V) (y3 y4 y5 : Option V), σ' = [some (.ref a), some (.int r), some (.ref l), y3, y4, y5] ∧ Same H H' ∧ H' l = some (.lst us) ∧
      DaAll K H' us ((Its.sp r (is.take i)).map pairD)) ⟨[], none, none, none, rfl, s0, upd_same, .nil⟩ (fun i σ' H' _ ⟨_, _, _, _, _, s', _⟩ => seqT_mono s' hs) ?_ ?_⟩
    · rintro i x' σ' H' hi ⟨us, y3, y4, y5, rfl, s', hl', hda⟩
      obtain ⟨d, hd', hx'⟩ := daAll_at (ha.mono s') hi
      rw [List.getElem?_map] at hd'
      obtain ⟨it, hit, rfl⟩ := Option.map_eq_some_iff.mp hd'
      have hmem := List.mem_of_getElem? hit
      have hnt := nl_take hit
      have hul : us.length = Its.nl (is.take i) := by
        have z := daAll_len hda
        rw [List.length_map, Its.sp_len] at z
        exact z
      have hBd : B ≤ (dep + 1) * B := Nat.le_mul_of_pos_left _ (Nat.succ_pos _)
      cases it with
      | line x t =>
        have hokt := okp_line.mp (hok _ hmem)
        obtain ⟨b', rfl, hb'⟩ := da_line hx'
        have hn1 : It.nl (.line x t) = 1 := by rw [It.nl]
        refine ⟨b', _, rfl, hb', rfl, _, _, rfl, _, _, rfl, _, _, rfl, rfl, ?_⟩
        refine ⟨_, rfl, rfl, _, rfl, ?_⟩
        rw [dec_str]
        refine iteT ?_
        refine ⟨_, rfl, .inl ⟨rfl, _, .inl (.inl hl')⟩, _, rfl, _, rfl, _, rfl, _, _, rfl, rfl, wide_mul hr0 (abs_lt hokt.1 hokt.2) R0 B0 (by omega), (by show 2 ≤ sizeLine; decide), fun t' nt => ?_⟩
        have nlt : l ≠ t' := ne_of_none hl' nt
        refine ⟨l, us, .ref t', rfl, rfl, by rw [upd_ne nlt]; exact hl', by omega, ?_⟩
        refine ⟨us ++ [.ref t'], _, _, _, rfl, fun b o e => ?_, upd_same, ?_⟩
        · rw [upd_ne (ne_of_none e nl), upd_ne (ne_of_none (s' _ _ e) nt)]
          exact s' _ _ e
        · rw [sp_take hit, It.sp, List.map_append]
          have kt : Kt (upd H' t' (.tup [.str x, .int (r * t)])) (upd (upd H' t' (.tup [.str x, .int (r * t)])) l (.lst (us ++ [.ref t']))) := Kt.put (by rw [upd_ne nlt]; exact hl')
          refine da_app (DaAll.kt ((Kt.of (same_put nt)).trans kt) (tup_pairs _) hda) (.cons (.tup (xs := [.str x, .int (r * t)]) (.inl (.inl ?_)) (.cons (.str _) (.cons (.int _) .nil))) .nil)
          rw [upd_ne nlt.symm, upd_same]
      | loop k' js =>
        obtain ⟨d', rfl, hsp⟩ : ∃ d', dep = d' + 1 ∧ spR = spSpent K B d' := by
          rcases hR with h | h
          · subst h
            exact (hok _ hmem).elim
          · exact h
        subst hsp
        obtain ⟨k0, k1, hokj⟩ : 0 ≤ k' ∧ k' < (2 ^ B : Nat) ∧ ∀ i ∈ js, Okp B d' i := hok _ hmem
        obtain ⟨b', v5, rfl, hb', hv5⟩ := da_loop hx'
        have hn1 : It.nl (.loop k' js) = Its.nl js := by rw [It.nl]
        have e1 : (d' + 1 + 1) * B = (d' + 1) * B + B := Nat.succ_mul _ _
        refine ⟨b', _, rfl, hb', rfl, _, _, rfl, _, _, rfl, _, _, rfl, rfl, ?_⟩
        refine ⟨_, rfl, rfl, _, rfl, ?_⟩
        rw [dec_ll]
        refine iteF ?_
        refine ⟨_, rfl, .inl ⟨rfl, _, .inl (.inl hl')⟩, _, rfl, _, rfl, _, rfl, _, _, rfl, rfl, wide_mul hr0 (abs_lt k0 k1) R0 B0 (by omega), v5, js, r * k', R + B, rfl, hv5, hokj, wide_lt hr0 (abs_lt k0 k1), by omega, B0, by omega, by omega, fun H2 u s2 g2 => ?_⟩
        obtain ⟨l2, us2, rfl, hl2, hda2⟩ := g2
        have hul2 : us2.length = Its.nl js := by
          have z := daAll_len hda2
          rw [List.length_map, Its.sp_len] at z
          exact z
        refine ⟨l, l2, us, us2, rfl, rfl, s2 _ _ hl', hl2, by omega, ?_⟩
        refine ⟨us ++ us2, _, _, _, rfl, fun b o e => ?_, upd_same, ?_⟩
        · rw [upd_ne (ne_of_none e nl)]
          exact s2 _ _ (s' _ _ e)
        · rw [sp_take hit, It.sp, List.map_append]
          have kt : Kt H2 (upd H2 l (.lst (us ++ us2))) := Kt.put (s2 _ _ hl')
          exact da_app (DaAll.kt ((Kt.of s2).trans kt) (tup_pairs _) hda) (DaAll.kt kt (tup_pairs _) hda2)
    · rintro σ' H' ⟨us, y3, y4, y5, rfl, s', hl', hda⟩
      have hx : xs.length = is.length := by
        have z := daAll_len ha
        rw [List.length_map] at z
        exact z
      rw [hx, List.take_length] at hda
      exact ⟨_, rfl, q H' _ s' ⟨l, us, rfl, hl', hda⟩⟩
theorem ok_spent {B : Nat} (F : Fun K "spent" "spent" (topS 19) f fd) (b : Binds K fd ["items", "rounds"] []) (m : mg "spent" = some (.ref f)) :
    ∀ dep : Nat, FnOk P w K mg base CX0 (dep + 1) f fd ["items", "rounds"] (spSpent K B dep)
  | 0 => sp_step F b m F.kp no_fn (.inl rfl)
  | n + 1 => sp_step F b m F.kp (ok_spent F b m n) (.inr ⟨n, rfl, rfl⟩)
/-! ### length -/
def spLen (K : PySem.W.Frag) (B dep : Nat) : Sp := fun vs H Q _ => ∃ (x : V) (is : List It), vs = [x] ∧ Prg K B dep H x is ∧ ∀ H', Same H H' → Q (.int (lenI is)) H'
theorem scLe : FnScope ["program", "name", "ticks"] ["program"] (defScope (topS 10)) := ⟨rfl, rfl, rfl, by decide +kernel, rfl, by decide +kernel, by decide +kernel⟩
/-- spent(x, 1), as the head of a comprehension -/
theorem hi_spent {B dep : Nat} {H0 : Hp} {σ : L2.St} {i : Nat} {x : V} {is : List It} (hB : Room2 B dep) (hv : σ[i]? = some (some x)) (hp : Prg K B dep H0 x is) :
    ∀ (H : Hp) (Q : VK), Same H0 H → (∀ H' l us, Same H H' → SqL K H' l us → DaAll K H' us ((Its.sp 1 is).map pairD) → Q (.ref l) H') → tCall (spSpent K B dep) [] E0 (tCons (tVar i) (tCons (tC (.int 1)) tNil)) σ H Q := fun H Q s q =>
  ⟨_, hv, x, is, 1, 64, rfl, hp.da.mono s, hp.ok, by decide, by decide, hB.1, hB.2, hp.few, fun H' u s' ⟨l, us, e, hl, ha⟩ => by
    subst e
    exact q H' l us s' (.inl (.inl hl)) ha⟩
theorem ok_len {B dep : Nat} (hB : Room2 B dep) (F : Fun K "length" "length" (topS 10) f fd) (GS : FnOk P w K mg base CX0 (dep + 1) fS fdS ["items", "rounds"] (spSpent K B dep)) (bS : Binds K fdS ["items", "rounds"] []) (mS : mg "spent" = some (.ref fS)) (vS : PySem.W.keepIn K (.ref fS) = true)
    (mu : mg "sum" = none) : FnOk P w K mg base CX0 (dep + 2) f fd ["program"] (spLen K B dep) := by
  refine F.ok scLe (fun vs H Q E h => ?_) (fun cdv A outer s H vs Q E hr h => ?_)
  · obtain ⟨x, is, rfl, _⟩ := h
    rfl
  · obtain ⟨x, is, rfl, hp, q⟩ := h
    refine ⟨_, pss_one (ps_ret (pe_callB (cr_sum rfl) (by rfl) mu (by decide +kernel) (pa_cons (pe_lc (own := [("name", 1), ("ticks", 2)]) (g := gTup K 2 (gCons (gName 1) (gCons (gName 2) gNil))) (tt := tYes) (te := tVar 2) rfl scLe.nd
      (pi_list (pe_call GS hr (by rfl) mS vS bS .nil pass0 (pa_cons (pv 0) (pa_cons pe_int pa_nil)))) (blkOk_by (N := ["program", "name", "ticks"]) (sc := defScope (topS 10)) (by decide +kernel))
      (fun _ _ _ _ _ => pg_tup rfl (pgs_cons (pg_name (i := 1) scLe.nd rfl (Or.inl rfl)) (pgs_cons (pg_name (i := 2) scLe.nd rfl (Or.inl rfl)) pgs_nil))) (fun _ _ _ _ _ => pts_nil) (fun _ _ _ _ _ => pv 2)) pa_nil))), ?_⟩
    have y := sizeLine_eq
    have hlen : ((Its.sp 1 is).map pairD).length = Its.nl is := by rw [List.length_map, Its.sp_len]
    have few := hp.few
    have key := g_lcF (K := K) (H0 := H) (σ := [some x, none, none]) (te := tVar 2) (tt := tYes) (ds := (Its.sp 1 is).map pairD) (f := fun _ => true) (y := fun j => (((Its.sp 1 is)[j]?).map fun p => V.int p.2).getD .non)
      (g := gTup K 2 (gCons (gName 1) (gCons (gName 2) gNil))) (vs := [1, 2]) (hi_spent (i := 0) hB rfl hp) (by omega) fun j x' d hd HH R N sH hx hR hN => by
        rw [List.getElem?_map] at hd
        obtain ⟨p, hp', rfl⟩ := Option.map_eq_some_iff.mp hd
        obtain ⟨a, rfl, ha⟩ := da_pair hx
        have z := hR rfl HH Same.rfl'
        rw [hp'] at z
        exact ⟨a, _, rfl, ha, rfl, _, _, rfl, _, _, rfl, rfl, rfl, _, rfl, z⟩
    have e : ((List.range ((Its.sp 1 is).map pairD).length).filter fun _ => true).map (fun j => (((Its.sp 1 is)[j]?).map fun p => V.int p.2).getD .non) = ((Its.sp 1 is).map (·.2)).map V.int := by
      rw [List.filter_eq_self.mpr (fun _ _ => rfl), List.length_map, range_map, List.map_map]
      rfl
    rw [e] at key
    refine s_ret (g_sum (K := K) key) fun H' u s' e' => ?_
    have e' : u = _ := e'
    subst e'
    exact q H' s'
/-! ### lines_of -/
def spLines (K : PySem.W.Frag) (B dep : Nat) : Sp := fun vs H Q _ => ∃ (x : V) (is : List It), vs = [x] ∧ Prg K B dep H x is ∧ Its.nl is < 64 ∧ ∀ H' a, Same H H' → H' a = some (.tup ((linesI is).map V.str)) → Q (.ref a) H'
theorem scLo : FnScope ["program", "name", "ticks"] ["program"] (defScope (topS 11)) := ⟨rfl, rfl, rfl, by decide +kernel, rfl, by decide +kernel, by decide +kernel⟩
/-- {text for .. in a list}, a text from each item -/
theorem sc_F {ti : TE} {H0 : Hp} {σ : L2.St} {ds : List PyData} {zs : List Str} {g : TG} {te : TE} {vs : List Nat} {Q : VK} (hi : ∀ (H : Hp) (Q : VK), Same H0 H → (∀ H' l us, Same H H' → SqL K H' l us → DaAll K H' us ds → Q (.ref l) H') → ti σ H Q) (hz : ds.length < 4000) (hl : zs.length = ds.length)
    (he : ∀ (j : Nat) (x : V) (d : PyData) (z : Str), ds[j]? = some d → zs[j]? = some z → ∀ (H : Hp) (R : VK), Same H0 H → Da K H x d → R (.str z) H → g x (wipe σ vs) H fun σ2 H2 => wipe σ2 vs = wipe σ vs ∧ te σ2 H2 R)
    (q : ∀ H' D, Same H0 H' → H' D = some (SetSO w D (uniq [] zs)) → Q (.ref D) H') : tScS w (iList K ti) g tYes te vs σ H0 Q := by
  refine hi H0 _ Same.rfl' fun H1 l us s1 hl1 ha => ⟨l, rfl, ⟨us, hl1⟩, fun D nD => ?_⟩
  have hlen := daAll_len ha
  have hb : scanBound = 4096 := rfl
  refine ⟨fun i m H => m = us.length - i ∧ i ≤ us.length ∧ Same H1 H ∧ H D = some (SetSO w D (uniq [] (zs.take i))), ⟨us.length, by simp, Nat.zero_le _, same_put nD, upd_same⟩, ?_⟩
  rintro i m H' ⟨rfl, hi', s', eD⟩
  have hl' := s'.seq hl1
  by_cases lt : i < us.length
  · refine .inr ⟨⟨us, us[i], hl', by simp [lt]⟩, fun H'' => Same H1 H'' ∧ H'' D = some (SetSO w D (uniq [] (zs.take (i + 1)))), fun H'' p' => ⟨us.length - (i + 1), by omega, rfl, lt, p'.1, p'.2⟩, fun x H'' yv => ?_⟩
    obtain ⟨e, yv⟩ := yv
    subst e
    have hk := yv us hl'
    obtain ⟨d, hd, hx⟩ := daAll_at ha hk
    have hz1 : i < zs.length := by
      have := (List.getElem?_eq_some_iff.mp hd).1
      omega
    have hzi := List.getElem?_eq_getElem hz1
    have room : (uniq [] (zs.take i)).length + 1 < scanBound := by
      have z := uniq_len (zs.take i) []
      rw [List.length_take] at z
      have z0 : ([] : List Str).length = 0 := rfl
      omega
    refine cast ?_ (he i x d zs[i] hd hzi _ (fun y H4 => ∃ (c : Str) (ks : List Str), y = .str c ∧ H4 D = some (SetSO w D ks) ∧ ks.length + 1 < scanBound ∧ (Same H1 (upd H4 D (SetSO w D (addN ks c))) ∧ upd H4 D (SetSO w D (addN ks c)) D = some (SetSO w D (uniq [] (zs.take (i + 1))))))
      (s1.trans s') (hx.mono s') ⟨zs[i], _, rfl, eD, room, fun b o e => ?_, ?_⟩)
    · rfl
    · rw [upd_ne (ne_of_none e nD)]
      exact s' _ _ e
    · rw [upd_same, ← uniq_snoc, List.take_add_one, hzi]
      rfl
  · have e : i = us.length := by omega
    subst e
    rw [hlen, ← hl, List.take_length] at eD
    exact .inl ⟨⟨us, hl', Nat.le_refl _⟩, q H' D (s1.trans s') eD⟩
theorem ok_lines {B dep : Nat} (hB : Room2 B dep) (F : Fun K "lines_of" "lines_of" (topS 11) f fd) (GS : FnOk P w K mg base CX0 (dep + 1) fS fdS ["items", "rounds"] (spSpent K B dep)) (bS : Binds K fdS ["items", "rounds"] []) (mS : mg "spent" = some (.ref fS)) (vS : PySem.W.keepIn K (.ref fS) = true)
    (mt : mg "tuple" = none) (mo : mg "sorted" = none) : FnOk P w K mg base CX0 (dep + 2) f fd ["program"] (spLines K B dep) := by
  refine F.ok scLo (fun vs H Q E h => ?_) (fun cdv A outer s H vs Q E hr h => ?_)
  · obtain ⟨x, is, rfl, _⟩ := h
    rfl
  · obtain ⟨x, is, rfl, hp, h64, q⟩ := h
    refine ⟨_, pss_one (ps_ret (pe_callTy call_tuple_of (by rfl) mt (by decide +kernel) (pa_cons (pe_callB (cr_sortSS rfl) (by rfl) mo (by decide +kernel) (pa_cons (pe_scS (own := [("name", 1), ("ticks", 2)]) (g := gTup K 2 (gCons (gName 1) (gCons (gName 2) gNil))) (tt := tYes) (te := tVar 1) rfl scLo.nd
      (pi_list (pe_call GS hr (by rfl) mS vS bS .nil pass0 (pa_cons (pv 0) (pa_cons pe_int pa_nil)))) (blkOk_by (N := ["program", "name", "ticks"]) (sc := defScope (topS 11)) (by decide +kernel))
      (fun _ _ _ _ _ => pg_tup rfl (pgs_cons (pg_name (i := 1) scLo.nd rfl (Or.inl rfl)) (pgs_cons (pg_name (i := 2) scLo.nd rfl (Or.inl rfl)) pgs_nil))) (fun _ _ _ _ _ => pts_nil) (fun _ _ _ _ _ => pv 1)) pa_nil)) pa_nil))), ?_⟩
    have hlen : ((Its.sp 1 is).map pairD).length = Its.nl is := by rw [List.length_map, Its.sp_len]
    have key : ∀ Q' : VK, (∀ H' D, Same H H' → H' D = some (SetSO w D (uniq [] ((Its.sp 1 is).map (·.1)))) → Q' (.ref D) H') → tScS w (iList K (tCall (spSpent K B dep) [] E0 (tCons (tVar 0) (tCons (tC (.int 1)) tNil)))) (gTup K 2 (gCons (gName 1) (gCons (gName 2) gNil))) tYes (tVar 1) [1, 2] [some x, none, none] H Q' := fun Q' k =>
      sc_F (hi_spent (i := 0) hB rfl hp) (by omega) (by rw [List.length_map, List.length_map]) (fun j x' d z hd hz' HH R sH hx hR => by
        rw [List.getElem?_map] at hd hz'
        obtain ⟨p, hp', rfl⟩ := Option.map_eq_some_iff.mp hd
        rw [hp'] at hz'
        cases hz'
        obtain ⟨a, rfl, ha⟩ := da_pair hx
        exact ⟨a, _, rfl, ha, rfl, _, _, rfl, _, _, rfl, rfl, rfl, _, rfl, hR⟩) k
    refine s_ret2 (key _ fun H1 D s1 eD => ?_)
    have hks : (uniq [] ((Its.sp 1 is).map (·.1))).length < 64 := by
      have z := uniq_len ((Its.sp 1 is).map (·.1)) []
      rw [List.length_map, Its.sp_len] at z
      have z0 : ([] : List Str).length = 0 := rfl
      omega
    refine ⟨D, _, rfl, eD, hks, fun ys p pm hs np => ?_⟩
    have e : ys = linesI is := srt_is pm hs
    subst e
    refine ⟨p, _, rfl, .inl ⟨.inl (.inl upd_same), fun a na => ?_⟩⟩
    exact q _ a (s1.trans ((same_put np).trans (same_put na))) upd_same
end
end Ev

/-! ## added_up, totals -/
namespace Ev
open PySem PySem.Spec PyProof.Rows L2
/-- a list of data made of tuples -/
def gLd (K : PySem.W.Frag) (es : List PyData) : GP := ⟨fun H u => ∃ l us, u = .ref l ∧ H l = some (.lst us) ∧ DaAll K H us es, fun s ⟨l, us, h1, h2, h3⟩ => ⟨l, us, h1, s _ _ h2, h3.mono s⟩⟩
section
variable {K : PySem.W.Frag} {H0 : Hp} {σ : L2.St} {te ti : TE}
theorem tupDs_take : ∀ {es : List PyData} (n : Nat), tupDs es = true → tupDs (es.take n) = true
  | [], n, h => by
    rw [List.take_nil]
    exact h
  | e :: es, 0, _ => by
    rw [List.take_zero, tupDs]
  | e :: es, n + 1, h => by
    rw [tupDs, Bool.and_eq_true] at h
    rw [List.take_succ_cons, tupDs, h.1, tupDs_take n h.2]
    rfl
/-- one more element of a comprehension's list -/
theorem lcD_more {H1 H4 H' : Hp} {D : Addr} {us : List V} {u : V} {es : List PyData} {e : PyData} {k : Nat} (nD : H1 D = none) (s' : Same H1 H') (s4 : Same H' H4) (eD : H' D = some (.lst us)) (ha : DaAll K H' us (es.take k)) (ht : tupDs es = true) (hk : es[k]? = some e) (hu : Da K H4 u e) :
    Same H1 (upd H4 D (.lst (us ++ [u]))) ∧ ∃ us', upd H4 D (.lst (us ++ [u])) D = some (.lst us') ∧ DaAll K (upd H4 D (.lst (us ++ [u]))) us' (es.take (k + 1)) := by
  have kt : Kt H4 (upd H4 D (.lst (us ++ [u]))) := Kt.put (s4 _ _ eD)
  have te : tupD e = true := by
    have z := tupDs_take (k + 1) ht
    rw [List.take_add_one, hk] at z
    exact tup_last z
  refine ⟨fun b o x => ?_, us ++ [u], upd_same, ?_⟩
  · rw [upd_ne (ne_of_none x nD)]
    exact s4 _ _ (s' _ _ x)
  · rw [List.take_add_one, hk]
    exact da_app (DaAll.kt ((Kt.of s4).trans kt) (tupDs_take k ht) ha) (.cons (Da.kt kt te hu) .nil)
where tup_last : ∀ {es : List PyData} {e : PyData}, tupDs (es ++ [e]) = true → tupD e = true
  | [], e, h => by
    rw [List.nil_append, tupDs, Bool.and_eq_true] at h
    exact h.1
  | d :: es, e, h => by
    rw [List.cons_append, tupDs, Bool.and_eq_true] at h
    exact tup_last h.2
theorem g_lcDL {ds es : List PyData} {g : TG} {vs : List Nat} (hi : ∀ (H : Hp) (Q : VK), Same H0 H → (∀ H' l us, Same H H' → SqL K H' l us → DaAll K H' us ds → Q (.ref l) H') → ti σ H Q) (hz : ds.length ≤ 1000000) (ht : tupDs es = true) (hl : es.length = ds.length)
    (he : ∀ (j : Nat) (x : V) (d e : PyData), ds[j]? = some d → es[j]? = some e → ∀ (H : Hp) (R : VK), Same H0 H → Da K H x d → (∀ H' u, Same H H' → Da K H' u e → R u H') → g x (wipe σ vs) H fun σ2 H2 => wipe σ2 vs = wipe σ vs ∧ te σ2 H2 R) :
    Gives H0 (tLc (iList K ti) g tYes te vs) (gLd K es) σ := fun H Q s q => by
  refine hi H _ s fun H1 l us s1 hl1 ha => ⟨l, rfl, ⟨us, hl1⟩, fun D nD => ?_⟩
  have sl := sizeLine_eq
  have hlen := daAll_len ha
  refine lc_list (K := K) (a := l) (xs := us) (fun k H' => Same H1 H' ∧ ∃ ws, H' D = some (.lst ws) ∧ DaAll K H' ws (es.take k)) ⟨same_put nD, [], upd_same, .nil⟩ (fun k H' _ ⟨s', _⟩ => s'.seq hl1) ?_ ?_
  · rintro k x H' hk ⟨s', ws, eD, hw⟩
    obtain ⟨d, hd, hx⟩ := daAll_at ha hk
    have hke : k < es.length := by
      have := (List.getElem?_eq_some_iff.mp hd).1
      omega
    have hek := List.getElem?_eq_getElem hke
    have hwl := daAll_len hw
    rw [List.length_take] at hwl
    refine cast ?_ (he k x d es[k] hd hek H' (fun y H4 => ∃ acc, H4 D = some (.lst acc) ∧ acc.length < sizeLine ∧ Same H1 (upd H4 D (.lst (acc ++ [y]))) ∧ ∃ ws, upd H4 D (.lst (acc ++ [y])) D = some (.lst ws) ∧ DaAll K (upd H4 D (.lst (acc ++ [y]))) ws (es.take (k + 1)))
      (s.trans (s1.trans s')) (hx.mono s') fun H4 u s4 hu => ⟨ws, s4 _ _ eD, by omega, lcD_more nD s' s4 eD hw ht hek hu⟩)
    rfl
  · rintro H' ⟨s', ws, eD, hw⟩
    rw [hlen, ← hl, List.take_length] at hw
    exact q H' _ (s1.trans s') ⟨D, ws, rfl, eD, hw⟩
theorem g_lcDT {a : Addr} {xs : List V} {es : List PyData} {g : TG} {vs : List Nat} {i : Nat} (hv : σ[i]? = some (some (.ref a))) (hx : SqT K H0 a xs) (hz : xs.length ≤ 1000000) (ht : tupDs es = true) (hl : es.length = xs.length)
    (he : ∀ (j : Nat) (x : V) (e : PyData), xs[j]? = some x → es[j]? = some e → ∀ (H : Hp) (R : VK), Same H0 H → (∀ H' u, Same H H' → Da K H' u e → R u H') → g x (wipe σ vs) H fun σ2 H2 => wipe σ2 vs = wipe σ vs ∧ te σ2 H2 R) :
    Gives H0 (tLc (iTup K (tVar i)) g tYes te vs) (gLd K es) σ := fun H Q s q => by
  refine ⟨_, hv, a, rfl, ⟨xs, seqT_mono s hx⟩, fun D nD => ?_⟩
  have sl := sizeLine_eq
  refine lc_tup (K := K) (a := a) (xs := xs) (fun k H' => Same H H' ∧ ∃ ws, H' D = some (.lst ws) ∧ DaAll K H' ws (es.take k)) ⟨same_put nD, [], upd_same, .nil⟩ (fun k H' _ ⟨s', _⟩ => seqT_mono (s.trans s') hx) ?_ ?_
  · rintro k x H' hk ⟨s', ws, eD, hw⟩
    have hke : k < es.length := by
      have := (List.getElem?_eq_some_iff.mp hk).1
      omega
    have hek := List.getElem?_eq_getElem hke
    have hwl := daAll_len hw
    rw [List.length_take] at hwl
    refine cast ?_ (he k x es[k] hk hek H' (fun y H4 => ∃ acc, H4 D = some (.lst acc) ∧ acc.length < sizeLine ∧ Same H (upd H4 D (.lst (acc ++ [y]))) ∧ ∃ ws, upd H4 D (.lst (acc ++ [y])) D = some (.lst ws) ∧ DaAll K (upd H4 D (.lst (acc ++ [y]))) ws (es.take (k + 1)))
      (s.trans s') fun H4 u s4 hu => ⟨ws, s4 _ _ eD, by omega, lcD_more nD s' s4 eD hw ht hek hu⟩)
    rfl
  · rintro H' ⟨s', ws, eD, hw⟩
    rw [← hl, List.take_length] at hw
    exact q H' _ s' ⟨D, ws, rfl, eD, hw⟩
/-- tuple(list) -/
theorem g_tupOf {es : List PyData} (h : Gives H0 te (gLd K es) σ) : Gives H0 (tCB (fun xs H Q => ∃ p ys, xs = [.ref p] ∧ (SqL K H p ys ∧ (∀ q, H q = none → Q (.ref q) (upd H q (.tup ys))) ∨ SqT K H p ys ∧ Q (.ref p) H)) (tCons te tNil)) ⟨fun H u => Da K H u (.tuple es), fun s h => h.mono s⟩ σ := fun H Q s q =>
  h H _ s fun H1 u s1 ⟨l, us, e, hl, ha⟩ => by
    subst e
    refine ⟨l, us, rfl, .inl ⟨.inl (.inl hl), fun p np => q _ _ (s1.trans (same_put np)) (.tup (.inl (.inl upd_same)) (ha.mono (same_put np)))⟩⟩
end
/-! ### a dict of counts -/
def cntD (names : List Str) (c : Str → Int) : List (Key × V) := names.map fun n => (.inr n, .int (c n))
theorem cnt_val {names : List Str} {c : Str → Int} {x : Str} (h : x ∈ names) : valV (cntD names c) (.inr x) = some (.int (c x)) := by
  induction names with
  | nil => cases h
  | cons n names ih =>
    by_cases e : n = x
    · subst e
      exact valV_pos rfl
    · rw [show cntD (n :: names) c = ((.inr n, .int (c n)) : Key × V) :: cntD names c from rfl, valV_neg (fun z => e (Sum.inr.inj z))]
      exact ih ((List.mem_cons.mp h).resolve_left fun z => e z.symm)
theorem cnt_any {names : List Str} {c : Str → Int} {x : Str} : ((cntD names c).any fun kv => decide (kv.1 = .inr x)) = decide (x ∈ names) := by
  induction names with
  | nil => rfl
  | cons n names ih =>
    rw [show cntD (n :: names) c = ((.inr n, .int (c n)) : Key × V) :: cntD names c from rfl, List.any_cons, ih]
    by_cases e : n = x
    · subst e
      simp
    · have h1 : decide ((Sum.inr n : Key) = Sum.inr x) = false := decide_eq_false fun z => e (Sum.inr.inj z)
      have h2 : ¬ x = n := fun z => e z.symm
      show (decide ((Sum.inr n : Key) = Sum.inr x) || decide (x ∈ names)) = _
      rw [h1, Bool.false_or]
      exact decide_eq_decide.mpr ⟨fun z => List.mem_cons_of_mem _ z, fun z => (List.mem_cons.mp z).resolve_left h2⟩
theorem cnt_put {names : List Str} {c : Str → Int} {x : Str} {v : Int} (h : x ∈ names) : putK (cntD names c) (.inr x) (.int v) = cntD names fun n => if n = x then v else c n := by
  unfold putK
  rw [cnt_any, decide_eq_true h, if_pos rfl]
  unfold cntD
  rw [List.map_map]
  refine List.map_congr_left fun n _ => ?_
  show (if (Sum.inr n : Key) = Sum.inr x then _ else _) = ((.inr n, .int (if n = x then v else c n)) : Key × V)
  by_cases e : n = x
  · subst e
    rw [if_pos rfl]
    simp
  · rw [if_neg fun z => e (Sum.inr.inj z), if_neg e]
theorem cnt_new {names : List Str} {c : Str → Int} {x : Str} {v : Int} (h : x ∉ names) : putK (cntD names c) (.inr x) (.int v) = cntD names c ++ [(.inr x, .int v)] := by
  unfold putK
  rw [cnt_any, decide_eq_false h, if_neg Bool.false_ne_true]
/-- the sum of the numbers with the name n -/
def sumN (ps : List (Str × Int)) (n : Str) : Int := ((ps.filter fun p => decide (p.1 = n)).map (·.2)).sum
theorem sumN_snoc (ps : List (Str × Int)) (p : Str × Int) (n : Str) : sumN (ps ++ [p]) n = if n = p.1 then sumN ps n + p.2 else sumN ps n := by
  unfold sumN
  rw [List.filter_append, List.map_append, List.sum_append]
  by_cases e : p.1 = n
  · rw [if_pos e.symm]
    simp [e]
  · rw [if_neg fun z => e z.symm]
    simp [e]
theorem sumN_app (ps qs : List (Str × Int)) (n : Str) : sumN (ps ++ qs) n = sumN ps n + sumN qs n := by
  unfold sumN
  rw [List.filter_append, List.map_append, List.sum_append]
def totD (is : List It) (c : Str → Int) : PyData := .tuple ((linesI is).map fun n => pairD (n, c n))
def spAdd (K : PySem.W.Frag) (B dep : Nat) : Sp := fun vs H Q _ => ∃ (x y : V) (is : List It) (ps : List (Str × Int)), vs = [x, y] ∧ Prg K B dep H x is ∧ Its.nl is < 64 ∧ (∃ l us, y = .ref l ∧ SqL K H l us ∧ DaAll K H us (ps.map pairD)) ∧ ps.length ≤ 100000 ∧
  (∀ p ∈ ps, p.1 ∈ linesI is) ∧ ∀ H' u, Same H H' → Da K H' u (totD is (sumN ps)) → Q u H'
theorem scAu : FnScope ["program", "pairs", "names", "name", "sums", "ticks"] ["program", "pairs"] (defScope (topS 22)) := ⟨rfl, rfl, rfl, by decide +kernel, rfl, by decide +kernel, by decide +kernel⟩
theorem uniq_nd (xs : List Str) : (uniq [] xs).Nodup := uniq_nodup xs [] .nil
theorem lines_nd (is : List It) : (linesI is).Nodup := (srt_perm _).nodup_iff.mpr (uniq_nd _)
theorem lines_mem {is : List It} {x : Str} : x ∈ linesI is ↔ x ∈ (Its.sp 1 is).map (·.1) := by
  unfold linesI
  rw [(srt_perm _).mem_iff, uniq_mem]
  simp
theorem lines_len {is : List It} : (linesI is).length ≤ Its.nl is := by
  unfold linesI
  rw [(srt_perm _).length_eq]
  have z := uniq_len ((Its.sp 1 is).map (·.1)) []
  rw [List.length_map, Its.sp_len] at z
  have z0 : ([] : List Str).length = 0 := rfl
  omega
section
variable {P : Program} {w : World} {K : PySem.W.Frag} {mg : Str → Option Value} {base : Heap} {f fL : Addr} {fd fdL : FuncData}
theorem ok_added {B dep : Nat} (F : Fun K "added_up" "added_up" (topS 22) f fd) (GL : FnOk P w K mg base CX0 (dep + 2) fL fdL ["program"] (spLines K B dep)) (bL : Binds K fdL ["program"] []) (mL : mg "lines_of" = some (.ref fL)) (vL : PySem.W.keepIn K (.ref fL) = true)
    (mt : mg "tuple" = none) : FnOk P w K mg base CX0 (dep + 3) f fd ["program", "pairs"] (spAdd K B dep) := by
  refine F.ok scAu (fun vs H Q E h => ?_) (fun cdv A outer s H vs Q E hr h => ?_)
  · obtain ⟨x, y, is, ps, rfl, _⟩ := h
    rfl
  · obtain ⟨x, y, is, ps, rfl, hp, h64, ⟨lp, us, rfl, hlp, hda⟩, hpl, hin, q⟩ := h
    have hu : (A.deeper (envOfC "added_up" (defScope (topS 22)) s.heap.objs.size f cdv)).units + 1 < cLine := by
      have := hr.un
      omega
    refine ⟨_, pss_cons (ps_set (i := 2) scAu.nd rfl (.inl rfl) (pe_call GL hr (by rfl) mL vL bL .nil pass0 (pa_cons (pv 0) pa_nil)))
      (pss_cons (ps_set (i := 4) scAu.nd rfl (.inr rfl) (pe_dc (own := [("name", 3)]) (g := gName 3) (tt := tYes) (tk := tVar 3) (tv := tC (.int 0)) rfl scAu.nd (pi_tup (pv 2)) (blkOk_by (N := ["program", "pairs", "names", "name", "sums", "ticks"]) (sc := defScope (topS 22)) (by decide +kernel))
        (fun _ _ _ _ _ => pg_name (i := 3) scAu.nd rfl (Or.inl rfl)) (fun _ _ _ _ _ => pts_nil) (fun _ _ _ _ _ => pv 3) (fun _ _ _ _ _ => pe_int)))
      (pss_cons (ps_for PassesOwn.never rfl (pi_list (pv 1)) (pg_tup rfl (pgs_cons (pg_name (i := 3) scAu.nd rfl (.inl rfl)) (pgs_cons (pg_name (i := 5) scAu.nd rfl (.inl rfl)) pgs_nil)))
        (pss_one (ps_daug hu (pv 4) (pv 3) (pv 5) iop_add (fun _ _ _ => rfl))))
      (pss_one (ps_ret (pe_callTy call_tuple_of (by rfl) mt (by decide +kernel) (pa_cons (pe_lc (own := [("name", 3)]) (g := gName 3) (tt := tYes) (te := tTup (tCons (tVar 3) (tCons (tDGet (tVar 4) (tVar 3)) tNil))) rfl scAu.nd (pi_tup (pv 2))
        (blkOk_by (N := ["program", "pairs", "names", "name", "sums", "ticks"]) (sc := defScope (topS 22)) (by decide +kernel)) (fun _ _ _ _ _ => pg_name (i := 3) scAu.nd rfl (Or.inl rfl)) (fun _ _ _ _ _ => pts_nil)
        (fun _ _ _ _ _ => pe_tup (pa_cons (pv 3) (pa_cons (pe_dget hu (pv 4) (pv 3) (fun _ _ => rfl)) pa_nil)))) pa_nil)))))), ?_⟩
    have sl := sizeLine_eq
    have hll := lines_len (is := is)
    refine ⟨_, rfl, x, is, rfl, hp, h64, fun H1 a s1 ha => ?_⟩
    let names := linesI is
    have hnn : names.length < 64 := Nat.lt_of_le_of_lt hll h64
    -- the dict
    refine ⟨_, rfl, a, rfl, ⟨_, .inl (.inl ha)⟩, fun D nD => dc_tup (K := K) (a := a) (xs := names.map V.str) (fun i H' => Same H1 H' ∧ H' D = some (.dK (cntD (names.take i) fun _ => 0))) ⟨same_put nD, upd_same⟩ (fun i H' _ ⟨s', _⟩ => .inl (.inl (s' _ _ ha))) ?_ ?_⟩
    · rintro i x' H' hi ⟨s', eD⟩
      rw [List.getElem?_map] at hi
      obtain ⟨z, hz, rfl⟩ := Option.map_eq_some_iff.mp hi
      have hil := (List.getElem?_eq_some_iff.mp hz).1
      refine ⟨rfl, _, rfl, _, .inr z, rfl, eD, ?_, fun b o e => ?_, ?_⟩
      · unfold cntD
        rw [List.length_map, List.length_take]
        omega
      · rw [upd_ne (ne_of_none e nD)]
        exact s' _ _ e
      · have nin : z ∉ names.take i := fun c => by
          have nd := lines_nd is
          have e2 : names.take (i + 1) = names.take i ++ [z] := by
            rw [List.take_add_one, hz]
            rfl
          have nd2 : (names.take (i + 1)).Nodup := (List.take_sublist _ _).nodup nd
          rw [e2, List.nodup_append] at nd2
          exact nd2.2.2 z c z (List.mem_singleton.mpr rfl) rfl
        rw [upd_same, cnt_new nin, List.take_add_one, hz]
        unfold cntD
        rw [List.map_append]
        rfl
    rintro H2 ⟨s2, eD⟩
    rw [List.length_map, List.take_length] at eD
    -- the sums
    have hlp2 : SqL K H2 lp us := (s1.trans s2).seq hlp
    have dneL : ∀ b o, H1 b = some o → b ≠ D := fun b o e => ne_of_none e nD
    have hul := daAll_len hda
    rw [List.length_map] at hul
    refine ⟨_, rfl, lp, rfl, ⟨us, hlp2⟩, for_list (K := K) (a := lp) (xs := us) (fun i σ' H' => ∃ y3 y5 : Option V, σ' = [some x, some (.ref lp), some (.ref a), y3, some (.ref D), y5] ∧ Same H1 H' ∧ H' D = some (.dK (cntD names (sumN (ps.take i)))))
      ⟨none, none, rfl, s2, eD⟩ (fun i σ' H' _ ⟨_, _, _, s', _⟩ => (s1.trans s').seq hlp) ?_ ?_⟩
    · rintro i x' σ' H' hi ⟨y3, y5, rfl, s', eD'⟩
      obtain ⟨d, hd, hx'⟩ := daAll_at (hda.mono (s1.trans s')) hi
      rw [List.getElem?_map] at hd
      obtain ⟨pr, hpr, rfl⟩ := Option.map_eq_some_iff.mp hd
      obtain ⟨b, rfl, hb⟩ := da_pair hx'
      have hmem := hin pr (List.mem_of_getElem? hpr)
      refine ⟨b, _, rfl, hb, rfl, _, _, rfl, _, _, rfl, rfl, ?_⟩
      refine ⟨_, rfl, _, rfl, D, _, rfl, .inl ⟨_, .inr pr.1, .inl eD', rfl, (cnt_val hmem).symm⟩, _, rfl, _, _, rfl, rfl, _, .inl ⟨_, .inr pr.1, eD', rfl, ?_, rfl⟩, ?_⟩
      · unfold cntD
        rw [List.length_map]
        show (linesI is).length < _
        omega
      · refine ⟨_, _, rfl, fun b o e => ?_, ?_⟩
        · rw [upd_ne (dneL b o e)]
          exact s' _ _ e
        · rw [upd_same]
          congr 2
          show putK (cntD names (sumN (ps.take i))) (.inr pr.1) (.int (sumN (ps.take i) pr.1 + pr.2)) = _
          rw [cnt_put hmem, List.take_add_one, hpr]
          unfold cntD
          refine List.map_congr_left fun n _ => ?_
          show ((.inr n, .int (if n = pr.1 then sumN (ps.take i) pr.1 + pr.2 else sumN (ps.take i) n)) : Key × V) = ((.inr n, .int (sumN (ps.take i ++ [pr]) n)) : Key × V)
          rw [sumN_snoc]
          by_cases e : n = pr.1
          · rw [if_pos e, if_pos e, e]
          · rw [if_neg e, if_neg e]
    · rintro σ' H3 ⟨y3, y5, rfl, s3, eD3⟩
      rw [hul, List.take_length] at eD3
      have ht : tupDs (names.map fun n => pairD (n, sumN ps n)) = true := by
        have z := tup_pairs (names.map fun n => (n, sumN ps n))
        rw [List.map_map] at z
        exact z
      have key := g_lcDT (K := K) (H0 := H3) (σ := [some x, some (.ref lp), some (.ref a), y3, some (.ref D), y5]) (te := tTup (tCons (tVar 3) (tCons (tDGet (tVar 4) (tVar 3)) tNil))) (a := a) (xs := names.map V.str) (es := names.map fun n => pairD (n, sumN ps n)) (g := gName 3) (vs := [3]) (i := 2) rfl
        (.inl (.inl (s3 _ _ ha))) (by rw [List.length_map]; show (linesI is).length ≤ _; omega) ht (by rw [List.length_map, List.length_map]) fun j x' e hx' he HH R sH hR => by
          rw [List.getElem?_map] at hx' he
          obtain ⟨z, hz, rfl⟩ := Option.map_eq_some_iff.mp hx'
          rw [hz] at he
          cases he
          have hmem := List.mem_of_getElem? hz
          refine ⟨rfl, _, rfl, _, rfl, _, rfl, D, _, rfl, .inl ⟨_, .inr z, .inl (sH _ _ eD3), rfl, (cnt_val hmem).symm⟩, (by show 2 ≤ sizeLine; decide), fun t nt => hR _ _ (same_put nt) (.tup (xs := [.str z, .int (sumN ps z)]) (.inl (.inl upd_same)) (.cons (.str _) (.cons (.int _) .nil)))⟩
      refine s_ret (g_tupOf key) fun H4 u s4 hu4 => ?_
      exact q H4 u ((s1.trans s3).trans s4) hu4
end
end Ev

/-! ## The ticks, written out -/
namespace Ev
open PySem
theorem sumN_nil (n : Str) : sumN [] n = 0 := rfl
mutual
/-- a line's ticks, r times -/
theorem It.sp_count (n : Str) (r : Int) : ∀ i : It, It.nn i → sumN (It.sp r i) n = r * ((It.w i).count n : Nat)
  | .line x t, h => by
    rw [It.nn] at h
    rw [It.sp, It.w]
    unfold sumN
    by_cases e : x = n
    · subst e
      rw [List.count_replicate_self]
      simp
      rw [Int.max_eq_left h]
    · rw [List.count_replicate, if_neg (by simpa using e)]
      simp [e]
  | .loop k is, h => by
    rw [It.nn] at h
    rw [It.sp, It.w, Its.sp_count n (r * k) is h.2, flat_count, Int.natCast_mul, Int.toNat_of_nonneg h.1, Int.mul_assoc]
theorem Its.sp_count (n : Str) (r : Int) : ∀ is : List It, Its.nn is → sumN (Its.sp r is) n = r * ((Its.w is).count n : Nat)
  | [], _ => by
    rw [Its.sp, Its.w, sumN_nil]
    simp
  | i :: is, h => by
    rw [Its.nn] at h
    rw [Its.sp, Its.w, sumN_app, It.sp_count n r i h.1, Its.sp_count n r is h.2, List.count_append, Int.natCast_add, Int.mul_add]
end
mutual
theorem It.sp_sum (r : Int) : ∀ i : It, It.nn i → ((It.sp r i).map (·.2)).sum = r * ((It.w i).length : Nat)
  | .line x t, h => by
    rw [It.nn] at h
    rw [It.sp, It.w, List.length_replicate, Int.toNat_of_nonneg h]
    simp
  | .loop k is, h => by
    rw [It.nn] at h
    rw [It.sp, It.w, Its.sp_sum (r * k) is h.2, flat_len, Int.natCast_mul, Int.toNat_of_nonneg h.1, Int.mul_assoc]
theorem Its.sp_sum (r : Int) : ∀ is : List It, Its.nn is → ((Its.sp r is).map (·.2)).sum = r * ((Its.w is).length : Nat)
  | [], _ => by
    rw [Its.sp, Its.w]
    simp
  | i :: is, h => by
    rw [Its.nn] at h
    rw [Its.sp, Its.w, List.map_append, List.sum_append, It.sp_sum r i h.1, Its.sp_sum r is h.2, List.length_append, Int.natCast_add, Int.mul_add]
end
theorem len_w {is : List It} (h : Its.nn is) : lenI is = ((Its.w is).length : Nat) := by
  unfold lenI
  rw [Its.sp_sum 1 is h, Int.one_mul]
theorem len_one {i : It} (h : It.nn i) : lenI [i] = ((It.w i).length : Nat) := by
  rw [len_w (by rw [Its.nn, Its.nn]; exact ⟨h, trivial⟩), w_one]
mutual
theorem It.sp_mem (x : Str) (r : Int) : ∀ i : It, It.ps i → (x ∈ (It.sp r i).map (·.1) ↔ x ∈ It.w i)
  | .line z t, h => by
    rw [It.ps] at h
    rw [It.sp, It.w, List.mem_replicate]
    simp
    intro e
    omega
  | .loop k is, h => by
    rw [It.ps] at h
    rw [It.sp, It.w, Its.sp_mem x (r * k) is h.2.2, mem_flat (by omega)]
theorem Its.sp_mem (x : Str) (r : Int) : ∀ is : List It, Its.ps is → (x ∈ (Its.sp r is).map (·.1) ↔ x ∈ Its.w is)
  | [], _ => by
    rw [Its.sp, Its.w]
    simp
  | i :: is, h => by
    rw [Its.ps] at h
    rw [Its.sp, Its.w, List.map_append, List.mem_append, List.mem_append, It.sp_mem x r i h.1, Its.sp_mem x r is h.2]
end
theorem lines_w {is : List It} (h : Its.ps is) {x : Str} : x ∈ linesI is ↔ x ∈ Its.w is := by
  rw [lines_mem, Its.sp_mem x 1 is h]
theorem lines_eq {is : List It} (h : Its.ps is) : linesI is = srtS (uniq [] (Its.w is)) := by
  unfold linesI
  refine srt_eq (uniq_nd _) (uniq_nd _) fun x => ?_
  rw [uniq_mem, uniq_mem, Its.sp_mem x 1 is h]
end Ev

/-! ## spent_before, spent_early, totals, totals_between -/
namespace Ev
open PySem PySem.Spec PyProof.Rows L2
theorem okp_up {B : Nat} : ∀ {n m : Nat} {i : It}, n ≤ m → Okp B n i → Okp B m i
  | n, m, .line x t, _, h => okp_line.mpr (okp_line.mp h)
  | 0, _, .loop r is, _, h => h.elim
  | n + 1, m + 1, .loop r is, hm, h => ⟨h.1, h.2.1, fun i hi => okp_up (Nat.le_of_succ_le_succ hm) (h.2.2 i hi)⟩
  | n + 1, 0, .loop r is, hm, h => by omega
theorem divp_by {i j : Int} {n : Nat} (hj : 0 < j) (h : i.natAbs < 2 ^ n) (hn : n ≤ 4000) : CDivP i j :=
  divp_ok hj (Nat.le_trans (PyProof.Rows.intBits_le h) (by omega))
theorem w_take {is : List It} {i : Nat} {it : It} (h : is[i]? = some it) : Its.w (is.take (i + 1)) = Its.w (is.take i) ++ It.w it := by
  rw [List.take_add_one, h, w_app]
  show _ ++ Its.w [it] = _
  rw [w_one]
theorem w_at {is : List It} {i : Nat} {it : It} (h : is[i]? = some it) : Its.w is = Its.w (is.take i) ++ It.w it ++ Its.w (is.drop (i + 1)) := by
  obtain ⟨hi, hx⟩ := List.getElem?_eq_some_iff.mp h
  conv => lhs; rw [← List.take_append_drop i is, List.drop_eq_getElem_cons hi, hx]
  rw [w_app, Its.w, List.append_assoc]
/-- what stands ahead of a tick, as pairs -/
structure Bef (w : List Str) (stop : Int) (ps : List (Str × Int)) : Prop where
  cnt : ∀ n, sumN ps n = ((w.take stop.toNat).count n : Nat)
  mem : ∀ p ∈ ps, p.1 ∈ w
def spBef (K : PySem.W.Frag) (B dep : Nat) : Sp := fun vs H Q _ => ∃ (x : V) (is : List It) (stop : Int), vs = [x, .int stop] ∧ Prg K B dep H x is ∧ Its.ps is ∧ Its.nl is ≤ 1000 ∧ 0 ≤ stop ∧ stop.natAbs < 2 ^ 4000 ∧
  ∀ H' u ps, Same H H' → (gPl K ps).p H' u → Bef (Its.w is) stop ps → ps.length ≤ (dep + 1) * Its.nl is + 1 → Q u H'
def spEar (K : PySem.W.Frag) (B dep : Nat) : Sp := fun vs H Q _ => ∃ (x : V) (it : It) (stop : Int), vs = [x, .int stop] ∧ Da K H x (It.d it) ∧ Okp B dep it ∧ It.ps it ∧ It.nl it ≤ 1000 ∧ 0 ≤ stop ∧ stop < ((It.w it).length : Nat) ∧ stop.natAbs < 2 ^ 4000 ∧
  ∀ H' u ps, Same H H' → (gPl K ps).p H' u → Bef (It.w it) stop ps → ps.length ≤ (dep + 1) * It.nl it + 1 → Q u H'
theorem scBe : FnScope ["items", "stop", "pairs", "item", "size"] ["items", "stop"] (defScope (topS 20)) := ⟨rfl, rfl, rfl, by decide +kernel, rfl, by decide +kernel, by decide +kernel⟩
theorem scEa : FnScope ["item", "stop", "kind", "first", "second", "rounds", "rest"] ["item", "stop"] (defScope (topS 21)) := ⟨rfl, rfl, rfl, by decide +kernel, rfl, by decide +kernel, by decide +kernel⟩
theorem rep_take_count {x n : Str} {t s : Nat} (h : s ≤ t) : ((List.replicate t x).take s).count n = if x = n then s else 0 := by
  rw [List.take_replicate, Nat.min_eq_left h, List.count_replicate]
  by_cases e : x = n
  · subst e
    simp
  · rw [if_neg e, if_neg (by simpa using e)]
theorem div_nat {s : Int} {l : Nat} (h0 : 0 ≤ s) : (s / (l : Int)).toNat = s.toNat / l ∧ (s % (l : Int)).toNat = s.toNat % l := by
  obtain ⟨n, rfl⟩ := Int.eq_ofNat_of_zero_le h0
  constructor
  · rw [← Int.natCast_ediv, Int.toNat_natCast, Int.toNat_natCast]
  · rw [← Int.natCast_emod, Int.toNat_natCast, Int.toNat_natCast]
section
variable {P : Program} {w : World} {K : PySem.W.Frag} {mg : Str → Option Value} {base : Heap} {f fL fS fB fE : Addr} {fd fdL fdS fdB fdE : FuncData}
theorem ear_step {B M dep k : Nat} {spR : Sp} (hB : 0 < B) (hM : 4000 + (M + 1) * B ≤ 900000) (hd : dep ≤ M) (h20 : M ≤ 20) (F : Fun K "spent_early" "spent_early" (topS 21) f fd)
    (GL : FnOk P w K mg base CX0 (M + 2) fL fdL ["program"] (spLen K B M)) (bL : Binds K fdL ["program"] []) (mL : mg "length" = some (.ref fL)) (vL : PySem.W.keepIn K (.ref fL) = true)
    (GS : FnOk P w K mg base CX0 (M + 1) fS fdS ["items", "rounds"] (spSpent K B M)) (bS : Binds K fdS ["items", "rounds"] []) (mS : mg "spent" = some (.ref fS)) (vS : PySem.W.keepIn K (.ref fS) = true)
    (GR : FnOk P w K mg base CX0 k fB fdB ["items", "stop"] spR) (bR : Binds K fdB ["items", "stop"] []) (mR : mg "spent_before" = some (.ref fB)) (vR : PySem.W.keepIn K (.ref fB) = true) (hk : M + 2 ≤ k) (hR : dep = 0 ∨ ∃ d, dep = d + 1 ∧ spR = spBef K B d)
    (md : mg "divmod" = none) : FnOk P w K mg base CX0 (k + 1) f fd ["item", "stop"] (spEar K B dep) := by
  refine F.ok scEa (fun vs H Q E h => ?_) (fun cdv A outer s H vs Q E hr h => ?_)
  · obtain ⟨x, it, stop, rfl, _⟩ := h
    rfl
  · obtain ⟨x, it, stop, rfl, hda, hok, hps, hnl, s0, s1, s2, q⟩ := h
    have hrL : Room (M + 2) _ := hr.mono hk
    have hrS : Room (M + 1) _ := hr.mono (show M + 1 ≤ k by omega)
    refine ⟨_, pss_cons (ps_asg (pv 0) (pg_tup rfl (pgs_cons (pg_name (i := 2) scEa.nd rfl (.inl rfl)) (pgs_cons (pg_name (i := 3) scEa.nd rfl (.inl rfl)) (pgs_cons (pg_name (i := 4) scEa.nd rfl (.inl rfl)) pgs_nil)))))
      (pss_cons (ps_if (pt_cmpR op_eq (pv 2) pe_str (nomark _)) (pss_one (ps_ret (pe_lst (pa_cons (pe_tup (pa_cons (pv 3) (pa_cons (pv 1) pa_nil))) pa_nil)))) pss_nil)
      (pss_cons (ps_asg (pe_callB call_divmodW (by rfl) md (by decide +kernel) (pa_cons (pv 1) (pa_cons (pe_call GL hrL (by rfl) mL vL bL .nil pass0 (pa_cons (pv 4) pa_nil)) pa_nil))) (pg_tup rfl (pgs_cons (pg_name (i := 5) scEa.nd rfl (.inl rfl)) (pgs_cons (pg_name (i := 6) scEa.nd rfl (.inl rfl)) pgs_nil))))
      (pss_one (ps_ret (pe_op op_cat (pe_call GS hrS (by rfl) mS vS bS .nil pass0 (pa_cons (pv 4) (pa_cons (pv 5) pa_nil))) (pe_call GR hr (by rfl) mR vR bR .nil pass0 (pa_cons (pv 4) (pa_cons (pv 6) pa_nil)))))))), ?_⟩
    have y := sizeLine_eq
    cases it with
    | line z t =>
      rw [It.ps] at hps
      obtain ⟨b, rfl, hb⟩ := da_line hda
      refine ⟨_, rfl, b, _, rfl, hb, rfl, _, _, rfl, _, _, rfl, _, _, rfl, rfl, ?_⟩
      refine ⟨_, rfl, rfl, _, rfl, ?_⟩
      rw [dec_str]
      refine iteT ?_
      refine ⟨_, rfl, _, rfl, (by show 2 ≤ sizeLine; decide), fun t' nt => ⟨(by show 1 ≤ sizeLine; decide), fun l nl => ?_⟩⟩
      refine q _ _ [(z, stop)] ((same_put nt).trans (same_put nl)) ⟨l, _, rfl, upd_same, .cons (.tup (xs := [.str z, .int stop]) (.inl (.inl ?_)) (.cons (.str _) (.cons (.int _) .nil))) .nil⟩ ⟨fun n => ?_, fun p hp => ?_⟩ ?_
      · rw [upd_ne (fun e => by rw [← e, upd_same] at nl; cases nl), upd_same]
      · rw [It.w, List.length_replicate] at s1
        rw [It.w, rep_take_count (by omega)]
        unfold sumN
        by_cases e : z = n
        · rw [if_pos e]
          simp [e]
          omega
        · rw [if_neg e]
          simp [e]
      · rw [List.mem_singleton.mp hp, It.w, List.mem_replicate]
        exact ⟨by omega, rfl⟩
      · show 1 ≤ _ + 1
        omega
    | loop r js =>
      obtain ⟨d', rfl, hsp⟩ : ∃ d', dep = d' + 1 ∧ spR = spBef K B d' := by
        rcases hR with h | h
        · subst h
          exact hok.elim
        · exact h
      subst hsp
      obtain ⟨k0, k1, hokj⟩ : 0 ≤ r ∧ r < (2 ^ B : Nat) ∧ ∀ i ∈ js, Okp B d' i := hok
      rw [It.ps] at hps
      rw [It.nl] at hnl
      obtain ⟨b, v4, rfl, hb, hv4⟩ := da_loop hda
      have hnn := Its.ps_nn js hps.2.2
      have hlen := len_w hnn
      have hpos := Its.w_pos js hps.2.1 hps.2.2
      have hj0 : (0 : Int) < lenI js := by
        rw [hlen]
        omega
      refine ⟨_, rfl, b, _, rfl, hb, rfl, _, _, rfl, _, _, rfl, _, _, rfl, rfl, ?_⟩
      refine ⟨_, rfl, rfl, _, rfl, ?_⟩
      rw [dec_ll]
      refine iteF ?_
      have hpM : ∀ HH, Same H HH → Prg K B M HH v4 js := fun HH sH => ⟨hv4.mono sH, fun i hi => okp_up (show d' ≤ M by omega) (hokj i hi), by omega⟩
      refine ⟨_, rfl, _, rfl, v4, js, rfl, hpM H Same.rfl', fun H1 sH1 => ⟨_, _, rfl, divp_by hj0 s2 (by decide), fun p np => ⟨p, _, rfl, .inl (.inl upd_same), rfl, _, _, rfl, _, _, rfl, rfl, ?_⟩⟩⟩
      have sH2 : Same H (upd H1 p (.tup [.int (stop / lenI js), .int (stop % lenI js)])) := sH1.trans (same_put np)
      generalize upd H1 p (.tup [.int (stop / lenI js), .int (stop % lenI js)]) = H2 at sH2 ⊢
      have rd0 : 0 ≤ stop / lenI js := Int.ediv_nonneg s0 (Int.le_of_lt hj0)
      have rs0 : 0 ≤ stop % lenI js := Int.emod_nonneg _ (by omega)
      have rsl : stop % lenI js < lenI js := Int.emod_lt_of_pos _ hj0
      have rdw : (stop / lenI js).natAbs < 2 ^ 4000 := Nat.lt_of_le_of_lt (Int.natAbs_ediv_le_natAbs _ _) s2
      have rsw : (stop % lenI js).natAbs < 2 ^ 4000 := by
        refine wide_le rs0 (j := stop) ?_ s2
        have := Int.mul_ediv_add_emod stop (lenI js)
        have h2 : 0 ≤ lenI js * (stop / lenI js) := Int.mul_nonneg (by omega) rd0
        omega
      refine ⟨_, rfl, _, rfl, v4, js, _, 4000, rfl, (hpM H2 sH2).da, (hpM H2 sH2).ok, rdw, by decide, hB, hM, by omega, fun H3 u3 s3 g3 => ?_⟩
      obtain ⟨l3, us3, rfl, hl3, ha3⟩ := g3
      refine ⟨_, rfl, _, rfl, v4, js, _, rfl, ⟨hv4.mono (sH2.trans s3), hokj, by omega⟩, hps.2.2, hnl, rs0, rsw, fun H4 u4 ps4 s4 g4 bf hl4 => ?_⟩
      obtain ⟨l4, us4, rfl, hl4', ha4⟩ := g4
      have l3' := daAll_len ha3
      have l4' := daAll_len ha4
      rw [List.length_map, Its.sp_len] at l3'
      rw [List.length_map] at l4'
      have hmul : (d' + 1) * Its.nl js ≤ (d' + 1) * 1000 := Nat.mul_le_mul_left _ hnl
      refine ⟨l3, l4, us3, us4, rfl, rfl, s4 _ _ hl3, hl4', ?_, fun p5 n5 => ?_⟩
      · have hdM : (d' + 1) * 1000 ≤ 20 * 1000 := Nat.mul_le_mul_right _ (by omega)
        omega
      · refine q _ _ (Its.sp (stop / lenI js) js ++ ps4) (((sH2.trans s3).trans s4).trans (same_put n5)) ⟨p5, _, rfl, upd_same, ?_⟩ ⟨fun n => ?_, fun p hp => ?_⟩ ?_
        · rw [List.map_append]
          exact da_app ((ha3.mono s4).mono (same_put n5)) (ha4.mono (same_put n5))
        · rw [sumN_app, Its.sp_count n _ js hnn, bf.cnt n, It.w]
          have hlt : stop.toNat < r.toNat * (Its.w js).length := by
            rw [It.w, flat_len] at s1
            omega
          rw [flat_take hpos _ _ hlt, List.count_append, flat_count, hlen]
          obtain ⟨e1, e2⟩ := div_nat (l := (Its.w js).length) s0
          rw [e2, ← e1, Int.natCast_add, Int.natCast_mul, Int.toNat_of_nonneg (by rw [← hlen]; exact rd0)]
        · rw [It.w, mem_flat (by omega)]
          rcases List.mem_append.mp hp with h | h
          · exact (Its.sp_mem p.1 (stop / lenI js) js hps.2.2).mp (List.mem_map.mpr ⟨p, h, rfl⟩)
          · exact bf.mem p h
        · rw [List.length_append, Its.sp_len, It.nl, Nat.succ_mul]
          omega
theorem bef_step {B M dep k : Nat} (hB : 0 < B) (hM : 4000 + (M + 1) * B ≤ 900000) (hd : dep ≤ M) (h20 : M ≤ 20) (F : Fun K "spent_before" "spent_before" (topS 20) f fd)
    (GL : FnOk P w K mg base CX0 (M + 2) fL fdL ["program"] (spLen K B M)) (bL : Binds K fdL ["program"] []) (mL : mg "length" = some (.ref fL)) (vL : PySem.W.keepIn K (.ref fL) = true)
    (GS : FnOk P w K mg base CX0 (M + 1) fS fdS ["items", "rounds"] (spSpent K B M)) (bS : Binds K fdS ["items", "rounds"] []) (mS : mg "spent" = some (.ref fS)) (vS : PySem.W.keepIn K (.ref fS) = true)
    (GE : FnOk P w K mg base CX0 k fE fdE ["item", "stop"] (spEar K B dep)) (bE : Binds K fdE ["item", "stop"] []) (mE : mg "spent_early" = some (.ref fE)) (vE : PySem.W.keepIn K (.ref fE) = true) (hk : M + 2 ≤ k) :
    FnOk P w K mg base CX0 (k + 1) f fd ["items", "stop"] (spBef K B dep) := by
  refine F.ok scBe (fun vs H Q E h => ?_) (fun cdv A outer s H vs Q E hr h => ?_)
  · obtain ⟨x, is, stop, rfl, _⟩ := h
    rfl
  · obtain ⟨x, is, stop, rfl, hp, hps, hnl, s0, sw, q⟩ := h
    have hrL : Room (M + 2) _ := hr.mono hk
    have hrS : Room (M + 1) _ := hr.mono (show M + 1 ≤ k by omega)
    refine ⟨_, pss_cons (ps_set (i := 2) scBe.nd rfl (.inl rfl) (pe_lst pa_nil))
      (pss_cons (ps_for PassesOwn.never rfl (pi_tup (pv 0)) (pg_name (i := 3) scBe.nd rfl (.inl rfl))
        (pss_cons (ps_set (i := 4) scBe.nd rfl (.inl rfl) (pe_call GL hrL (by rfl) mL vL bL .nil pass0 (pa_cons (pe_tup (pa_cons (pv 3) pa_nil)) pa_nil)))
        (pss_cons (ps_if (pt_cmpR op_lt (pv 1) (pv 4) (nomark _)) (pss_one (ps_ret (pe_op op_cat (pv 2) (pe_call GE hr (by rfl) mE vE bE .nil pass0 (pa_cons (pv 3) (pa_cons (pv 1) pa_nil)))))) pss_nil)
        (pss_cons (ps_expr (pe_bm PySem.F.plainAttrs_list PySem.F.slot_list_extend PySem.F.type_list_extend mt_extend (pv 2) (pa_cons (pe_call GS hrS (by rfl) mS vS bS .nil pass0 (pa_cons (pe_tup (pa_cons (pv 3) pa_nil)) (pa_cons pe_int pa_nil))) pa_nil)))
        (pss_one (ps_aug (i := 1) scBe.nd rfl (.inl rfl) (pv 4) ip_sub))))))
      (pss_one (ps_ret (pv 2)))), ?_⟩
    have y := sizeLine_eq
    obtain ⟨a, xs, rfl, hs, ha⟩ := da_prog hp.da
    have hxl := daAll_len ha
    rw [List.length_map] at hxl
    refine ⟨(by show 0 ≤ sizeLine; exact Nat.zero_le _), fun l nl => ?_⟩
    have sl0 : Same H (upd H l (.lst [])) := same_put nl
    have big : (dep + 1) * Its.nl is ≤ 21 * 1000 := Nat.mul_le_mul (by omega) hnl
    refine ⟨_, rfl, a, rfl, ⟨xs, seqT_mono sl0 hs⟩, for_tup (K := K) (a := a) (xs := xs) (fun i σ' H' => ∃ (us : List V) (ps : List (Str × Int)) (st : Int) (y3 y4 : Option V), σ' = [some (.ref a), some (.int st), some (.ref l), y3, y4] ∧ Same H H' ∧ H' l = some (.lst us) ∧
      DaAll K H' us (ps.map pairD) ∧ 0 ≤ st ∧ st + ((Its.w (is.take i)).length : Nat) = stop ∧ (∀ n, sumN ps n = ((Its.w (is.take i)).count n : Nat)) ∧ (∀ p ∈ ps, p.1 ∈ Its.w is) ∧ ps.length = Its.nl (is.take i))
      ⟨[], [], stop, none, none, rfl, sl0, upd_same, .nil, s0, by rw [List.take_zero, Its.w]; simp, fun n => by rw [List.take_zero, Its.w]; rfl, fun p h => (nomatch h), by rw [List.take_zero, Its.nl]; rfl⟩ (fun i σ' H' _ ⟨_, _, _, _, _, _, s', _⟩ => seqT_mono s' hs) ?_ ?_⟩
    · rintro i x' σ' H' hi ⟨us, ps, st, y3, y4, rfl, s', hl', hda, st0, hst, hcnt, hmem, hlen⟩
      obtain ⟨d, hd', hx'⟩ := daAll_at (ha.mono s') hi
      rw [List.getElem?_map] at hd'
      obtain ⟨it, hit, rfl⟩ := Option.map_eq_some_iff.mp hd'
      have himem := List.mem_of_getElem? hit
      have hpsi := ps_mem hps himem
      have hnt := nl_take hit
      have hsz := len_one (It.ps_nn it hpsi)
      have hul := daAll_len hda
      rw [List.length_map] at hul
      have onePrg : ∀ HH t, HH t = some (.tup [x']) → Da K HH x' (It.d it) → Prg K B M HH (.ref t) [it] := fun HH t e hx => ⟨.tup (xs := [x']) (.inl (.inl e)) (.cons hx .nil), fun j hj => by
        rw [List.mem_singleton.mp hj]
        exact okp_up hd (hp.ok it himem), by
        rw [Its.nl, Its.nl]
        omega⟩
      refine ⟨_, rfl, (by show 1 ≤ sizeLine; decide), fun t nt => ?_⟩
      have st1 := same_put (o := .tup [x']) nt
      refine ⟨.ref t, [it], rfl, onePrg _ t upd_same (hx'.mono st1), fun H2 s2 => ?_⟩
      have sA : Same H' H2 := st1.trans s2
      rw [hsz]
      refine ⟨_, rfl, _, rfl, _, _, rfl, rfl, _, rfl, ite2 (fun e => ?_) (fun e => ?_)⟩
      · have hlt : st < ((It.w it).length : Nat) := of_decide_eq_true e
        have stw : st.natAbs < 2 ^ 4000 := wide_le st0 (by omega) sw
        refine ⟨_, rfl, _, rfl, _, rfl, x', it, st, rfl, hx'.mono sA, hp.ok it himem, hpsi, by omega, st0, hlt, stw, fun H3 u3 ps3 s3 g3 bf hl3 => ?_⟩
        obtain ⟨l3, us3, rfl, hl3', ha3⟩ := g3
        have hu3 := daAll_len ha3
        rw [List.length_map] at hu3
        have hm1 : (dep + 1) * It.nl it ≤ (dep + 1) * Its.nl is := Nat.mul_le_mul_left _ (by omega)
        refine ⟨l, l3, us, us3, rfl, rfl, s3 _ _ (sA _ _ hl'), hl3', by omega, fun p5 n5 => ?_⟩
        refine q _ _ (ps ++ ps3) (((s'.trans sA).trans s3).trans (same_put n5)) ⟨p5, _, rfl, upd_same, ?_⟩ ⟨fun n => ?_, fun p hp' => ?_⟩ ?_
        · rw [List.map_append]
          exact da_app (hda.mono ((sA.trans s3).trans (same_put n5))) (ha3.mono (same_put n5))
        · have est : stop.toNat = (Its.w (is.take i)).length + st.toNat := by omega
          rw [sumN_app, hcnt n, bf.cnt n, w_at hit, est, List.append_assoc, List.take_length_add_append, List.take_append_of_le_length (by omega), List.count_append, Int.natCast_add]
        · rcases List.mem_append.mp hp' with h | h
          · exact hmem p h
          · rw [w_at hit, List.append_assoc]
            exact List.mem_append_right _ (List.mem_append_left _ (bf.mem p h))
        · rw [List.length_append]
          have hm2 : (dep + 1) * (Its.nl (is.take i) + It.nl it) ≤ (dep + 1) * Its.nl is := Nat.mul_le_mul_left _ hnt
          rw [Nat.mul_add] at hm2
          have hm3 : Its.nl (is.take i) ≤ (dep + 1) * Its.nl (is.take i) := Nat.le_mul_of_pos_left _ (Nat.succ_pos _)
          omega
      · have hge : ¬ st < ((It.w it).length : Nat) := of_decide_eq_false (Bool.eq_false_iff.mpr e)
        refine ⟨_, rfl, .inl ⟨rfl, _, .inl (.inl (sA _ _ hl'))⟩, _, rfl, (by show 1 ≤ sizeLine; decide), fun t2 nt2 => ?_⟩
        have st2 := same_put (o := .tup [x']) nt2
        have pg := onePrg _ t2 upd_same (hx'.mono (sA.trans st2))
        refine ⟨.ref t2, [it], 1, 64, rfl, pg.da, pg.ok, by decide, by decide, hB, by omega, pg.few, fun H3 u3 s3 g3 => ?_⟩
        obtain ⟨l3, us3, rfl, hl3', ha3⟩ := g3
        have hu3 := daAll_len ha3
        rw [List.length_map, Its.sp_one, It.sp_len] at hu3
        have sB : Same H' H3 := (sA.trans st2).trans s3
        refine ⟨l, l3, us, us3, rfl, rfl, sB _ _ hl', hl3', by omega, ?_⟩
        have kt : Kt H3 (upd H3 l (.lst (us ++ us3))) := Kt.put (sB _ _ hl')
        refine ⟨_, rfl, _, rfl, _, _, rfl, rfl, us ++ us3, ps ++ It.sp 1 it, _, _, _, rfl, fun b o e => ?_, upd_same, ?_, ?_, ?_, fun n => ?_, fun p hp' => ?_, ?_⟩
        · rw [upd_ne (ne_of_none e nl)]
          exact sB _ _ (s' _ _ e)
        · rw [List.map_append]
          rw [Its.sp_one] at ha3
          exact da_app (DaAll.kt ((Kt.of sB).trans kt) (tup_pairs _) hda) (DaAll.kt kt (tup_pairs _) ha3)
        · show 0 ≤ st - ((It.w it).length : Nat)
          omega
        · rw [w_take hit, List.length_append]
          show st - ((It.w it).length : Nat) + _ = stop
          omega
        · rw [sumN_app, hcnt n, It.sp_count n 1 it (It.ps_nn it hpsi), Int.one_mul, w_take hit, List.count_append, Int.natCast_add]
        · rcases List.mem_append.mp hp' with h | h
          · exact hmem p h
          · rw [w_at hit, List.append_assoc]
            exact List.mem_append_right _ (List.mem_append_left _ ((It.sp_mem p.1 1 it hpsi).mp (List.mem_map.mpr ⟨p, h, rfl⟩)))
        · rw [List.length_append, It.sp_len, hlen, List.take_add_one, hit, Its.nl_app]
          show _ = _ + Its.nl [it]
          rw [Its.nl, Its.nl]
          omega
    · rintro σ' H' ⟨us, ps, st, y3, y4, rfl, s', hl', hda, st0, hst, hcnt, hmem, hlen⟩
      rw [hxl, List.take_length] at hst hcnt hlen
      refine ⟨_, rfl, q H' _ ps s' ⟨l, us, rfl, hl', hda⟩ ⟨fun n => ?_, hmem⟩ ?_⟩
      · rw [hcnt n, List.take_of_length_le (by omega)]
      · have hm3 : Its.nl is ≤ (dep + 1) * Its.nl is := Nat.le_mul_of_pos_left _ (Nat.succ_pos _)
        omega
/-- both, at every depth -/
theorem ok_bef {B M : Nat} (hB : 0 < B) (hM : 4000 + (M + 1) * B ≤ 900000) (h20 : M ≤ 20) (FB : Fun K "spent_before" "spent_before" (topS 20) fB fdB) (FE : Fun K "spent_early" "spent_early" (topS 21) fE fdE)
    (GL : FnOk P w K mg base CX0 (M + 2) fL fdL ["program"] (spLen K B M)) (bL : Binds K fdL ["program"] []) (mL : mg "length" = some (.ref fL)) (vL : PySem.W.keepIn K (.ref fL) = true)
    (GS : FnOk P w K mg base CX0 (M + 1) fS fdS ["items", "rounds"] (spSpent K B M)) (bS : Binds K fdS ["items", "rounds"] []) (mS : mg "spent" = some (.ref fS)) (vS : PySem.W.keepIn K (.ref fS) = true)
    (bB : Binds K fdB ["items", "stop"] []) (mB : mg "spent_before" = some (.ref fB)) (bE : Binds K fdE ["item", "stop"] []) (mE : mg "spent_early" = some (.ref fE)) (md : mg "divmod" = none) :
    ∀ dep : Nat, dep ≤ M → FnOk P w K mg base CX0 (M + 4 + 2 * dep) fB fdB ["items", "stop"] (spBef K B dep)
  | 0, hd => bef_step (k := M + 3) hB hM hd h20 FB GL bL mL vL GS bS mS vS (ear_step (k := M + 2) hB hM hd h20 FE GL bL mL vL GS bS mS vS no_fn bB mB FB.kp (Nat.le_refl _) (.inl rfl) md) bE mE FE.kp (by omega)
  | n + 1, hd => by
    have ih := ok_bef hB hM h20 FB FE GL bL mL vL GS bS mS vS bB mB bE mE md n (by omega)
    exact bef_step (k := M + 4 + 2 * n + 1) hB hM hd h20 FB GL bL mL vL GS bS mS vS (ear_step (k := M + 4 + 2 * n) hB hM hd h20 FE GL bL mL vL GS bS mS vS ih bB mB FB.kp (by omega) (.inr ⟨n, rfl, rfl⟩) md) bE mE FE.kp (by omega)
end
end Ev

/-! ## is_whole, is_integer_within -/
namespace Ev
open PySem PySem.Spec PyProof.Rows L2
theorem scWh : FnScope ["value"] ["value"] (defScope (topS 6)) := ⟨rfl, rfl, rfl, by decide +kernel, rfl, by decide +kernel, by decide +kernel⟩
theorem scIn : FnScope ["value", "least", "most"] ["value", "least", "most"] (defScope (topS 7)) := ⟨rfl, rfl, rfl, by decide +kernel, rfl, by decide +kernel, by decide +kernel⟩
section
variable {P : Program} {w : World} {K : PySem.W.Frag} {mg : Str → Option Value} {base : Heap} {f fW : Addr} {fd fdW : FuncData}
theorem ok_wh (F : Fun K "is_whole" "is_whole" (topS 6) f fd) (mI : mg "isinstance" = none) (mi : mg "int" = none) (mb : mg "bool" = none) : FnOk P w K mg base CX0 1 f fd ["value"] (spWh K) := by
  refine F.ok scWh (fun vs H Q E h => ?_) (fun cdv A outer s H vs Q E hr h => ?_)
  · obtain ⟨x, d, rfl, _⟩ := h
    rfl
  · obtain ⟨x, d, rfl, hd, q⟩ := h
    refine ⟨_, pss_one (ps_ret (pe_and (pe_isT (.inl rfl) mI (fun _ => pv 0) (fun _ => ty_of rfl mi (by decide +kernel))) (pe_one (pe_not (pe_isT (.inr (.inl rfl)) mI (fun _ => pv 0) (fun _ => ty_of rfl mb (by decide +kernel))))))), ?_⟩
    refine ⟨x, d, rfl, hd, _, rfl, ite2 (fun e => ?_) (fun e => ?_)⟩
    · rw [e, Bool.true_and] at q
      exact ⟨x, d, rfl, hd, _, rfl, q⟩
    · rw [Bool.eq_false_iff.mpr e, Bool.false_and] at q
      exact q
theorem ok_in (F : Fun K "is_integer_within" "is_integer_within" (topS 7) f fd) (GW : FnOk P w K mg base CX0 1 fW fdW ["value"] (spWh K)) (bW : Binds K fdW ["value"] []) (mW : mg "is_whole" = some (.ref fW)) (vW : PySem.W.keepIn K (.ref fW) = true) :
    FnOk P w K mg base CX0 2 f fd ["value", "least", "most"] (spIn K) := by
  refine F.ok scIn (fun vs H Q E h => ?_) (fun cdv A outer s H vs Q E hr h => ?_)
  · obtain ⟨x, d, lo, hi, rfl, _⟩ := h
    rfl
  · obtain ⟨x, d, lo, hi, rfl, hd, q⟩ := h
    refine ⟨_, pss_one (ps_ret (pe_and (pe_call GW hr (by rfl) mW vW bW .nil pass0 (pa_cons (pv 0) pa_nil)) (pe_one (pe_chain op_le op_le (pv 1) (pv 0) (pv 2))))), ?_⟩
    have qq := q H Same.rfl'
    refine ⟨_, rfl, x, d, rfl, hd, _, rfl, ite2 (fun e => ?_) (fun e => ?_)⟩
    · rw [isD_int, isD_bool] at e
      obtain ⟨i, rfl⟩ : ∃ i, d = .int i := by
        cases d <;> first | exact ⟨_, rfl⟩ | simp at e
      have ex : x = .int i := by
        cases hd
        rfl
      subst ex
      refine ⟨_, rfl, _, rfl, _, _, rfl, rfl, _, rfl, ?_⟩
      refine ite2 (fun z => ?_) (fun z => ?_)
      · refine ⟨_, rfl, _, _, rfl, rfl, ?_⟩
        have y : intD lo hi (.int i) = decide (i ≤ hi) := by
          show (decide (lo ≤ i) && decide (i ≤ hi)) = _
          rw [z, Bool.true_and]
        rw [y] at qq
        exact qq
      · have y : intD lo hi (.int i) = false := by
          show (decide (lo ≤ i) && decide (i ≤ hi)) = _
          rw [Bool.eq_false_iff.mpr z, Bool.false_and]
        rw [y] at qq
        exact qq
    · have z : intD lo hi d = false := by
        rw [isD_int, isD_bool] at e
        cases d <;> first | rfl | simp at e
      rw [z] at qq
      exact qq
end
end Ev

/-! ## totals, totals_between, ticks_of, item_at, line_at -/
namespace Ev
open PySem PySem.Spec PyProof.Rows L2
theorem tot_congr {is : List It} {c d : Str → Int} (h : ∀ n, c n = d n) : totD is c = totD is d := by
  unfold totD
  congr 1
  refine List.map_congr_left fun n _ => ?_
  rw [h n]
def spTot (K : PySem.W.Frag) (B dep : Nat) : Sp := fun vs H Q _ => ∃ (x : V) (is : List It), vs = [x] ∧ Prg K B dep H x is ∧ Its.nn is ∧ Its.nl is < 64 ∧ ∀ H' u, Same H H' → Da K H' u (totD is fun n => ((Its.w is).count n : Nat)) → Q u H'
def spBtw (K : PySem.W.Frag) (B dep : Nat) : Sp := fun vs H Q _ => ∃ (x : V) (is : List It) (a b : Int), vs = [x, .int a, .int b] ∧ Prg K B dep H x is ∧ Its.ps is ∧ Its.nl is < 64 ∧ 0 ≤ a ∧ 0 ≤ b ∧ a.natAbs < 2 ^ 4000 ∧ b.natAbs < 2 ^ 4000 ∧
  ∀ H' u, Same H H' → Da K H' u (totD is fun n => (((Its.w is).take b.toNat).count n : Nat) - (((Its.w is).take a.toNat).count n : Nat)) → Q u H'
theorem scTo : FnScope ["program"] ["program"] (defScope (topS 13)) := ⟨rfl, rfl, rfl, by decide +kernel, rfl, by decide +kernel, by decide +kernel⟩
theorem scBt : FnScope ["program", "first", "stop", "ahead", "name", "ticks"] ["program", "first", "stop"] (defScope (topS 14)) := ⟨rfl, rfl, rfl, by decide +kernel, rfl, by decide +kernel, by decide +kernel⟩
theorem scTi : FnScope ["items", "name", "other", "ticks"] ["items", "name"] (defScope (topS 23)) := ⟨rfl, rfl, rfl, by decide +kernel, rfl, by decide +kernel, by decide +kernel⟩
theorem sumN_neg (ps : List (Str × Int)) (n : Str) : sumN (ps.map fun p => (p.1, -p.2)) n = -sumN ps n := by
  induction ps with
  | nil => rfl
  | cons p ps ih =>
    unfold sumN at ih ⊢
    by_cases e : p.1 = n
    · simp [e] at ih ⊢
      rw [ih]
      omega
    · simp [e] at ih ⊢
      exact ih
theorem range_filter {α β : Type} (f : α → Bool) (g : α → β) (d : β) : ∀ l : List α, ((List.range l.length).filter fun j => ((l[j]?).map f).getD false).map (fun j => ((l[j]?).map g).getD d) = (l.filter f).map g
  | [] => rfl
  | a :: t => by
    have ih := range_filter f g d t
    have e : ((List.range t.length).map Nat.succ).filter (fun j => (((a :: t)[j]?).map f).getD false) = ((List.range t.length).filter fun j => ((t[j]?).map f).getD false).map Nat.succ := by
      rw [List.filter_map]
      rfl
    rw [List.length_cons, List.range_succ_eq_map, List.filter_cons, e, List.filter_cons]
    have e0 : (((a :: t)[0]?).map f).getD false = f a := rfl
    rw [e0]
    by_cases h : f a = true
    · rw [if_pos h, if_pos h, List.map_cons, List.map_cons, List.map_map]
      congr 1
    · rw [if_neg h, if_neg h, List.map_map]
      exact ih
/-- a name set to what an expression gives, whatever follows -/
theorem s_setA {H0 : Hp} {σ : L2.St} {te : TE} {i : Nat} {D : Ends} {rest : TS} {R : Hp → V → Prop} (h : ∀ Q : VK, (∀ H' u, Same H0 H' → R H' u → Q u H') → te σ H0 Q) (k : ∀ H' u, Same H0 H' → R H' u → rest D (σ.set i (some u)) H') : tSeq (tAsg te (gName i)) rest D σ H0 := h _ k
def spTks (K : PySem.W.Frag) (B dep : Nat) : Sp := fun vs H Q _ => ∃ (x : V) (is : List It) (n : Str), vs = [x, .str n] ∧ Prg K B dep H x is ∧ Its.nn is ∧ ∀ H', Same H H' → Q (.int (((Its.w is).count n : Nat) : Int)) H'
section
variable {P : Program} {w : World} {K : PySem.W.Frag} {mg : Str → Option Value} {base : Heap} {f fL fS fB fE fA : Addr} {fd fdL fdS fdB fdE fdA : FuncData}
theorem ok_tot {B dep : Nat} (hB : Room2 B dep) (F : Fun K "totals" "totals" (topS 13) f fd)
    (GS : FnOk P w K mg base CX0 (dep + 1) fS fdS ["items", "rounds"] (spSpent K B dep)) (bS : Binds K fdS ["items", "rounds"] []) (mS : mg "spent" = some (.ref fS)) (vS : PySem.W.keepIn K (.ref fS) = true)
    (GA : FnOk P w K mg base CX0 (dep + 3) fA fdA ["program", "pairs"] (spAdd K B dep)) (bA : Binds K fdA ["program", "pairs"] []) (mA : mg "added_up" = some (.ref fA)) (vA : PySem.W.keepIn K (.ref fA) = true) :
    FnOk P w K mg base CX0 (dep + 4) f fd ["program"] (spTot K B dep) := by
  refine F.ok scTo (fun vs H Q E h => ?_) (fun cdv A outer s H vs Q E hr h => ?_)
  · obtain ⟨x, is, rfl, _⟩ := h
    rfl
  · obtain ⟨x, is, rfl, hp, hnn, h64, q⟩ := h
    have hrS : Room (dep + 1) _ := hr.mono (show dep + 1 ≤ dep + 3 by omega)
    refine ⟨_, pss_one (ps_ret (pe_call GA hr (by rfl) mA vA bA .nil pass0 (pa_cons (pv 0) (pa_cons (pe_call GS hrS (by rfl) mS vS bS .nil pass0 (pa_cons (pv 0) (pa_cons pe_int pa_nil))) pa_nil)))), ?_⟩
    refine ⟨_, rfl, _, rfl, x, is, 1, 64, rfl, hp.da, hp.ok, by decide, by decide, hB.1, hB.2, hp.few, fun H1 u1 s1 g1 => ?_⟩
    obtain ⟨l, us, rfl, hl, ha⟩ := g1
    refine ⟨x, .ref l, is, Its.sp 1 is, rfl, hp.same s1, h64, ⟨l, us, rfl, .inl (.inl hl), ha⟩, by rw [Its.sp_len]; omega, fun p hp' => lines_mem.mpr (List.mem_map.mpr ⟨p, hp', rfl⟩), fun H2 u2 s2 h2 => q H2 u2 (s1.trans s2) ?_⟩
    rw [tot_congr (d := sumN (Its.sp 1 is)) fun n => by rw [Its.sp_count n 1 is hnn, Int.one_mul]]
    exact h2
theorem ok_btw {B dep k : Nat} (h20 : dep ≤ 20) (F : Fun K "totals_between" "totals_between" (topS 14) f fd)
    (GB : FnOk P w K mg base CX0 k fB fdB ["items", "stop"] (spBef K B dep)) (bB : Binds K fdB ["items", "stop"] []) (mB : mg "spent_before" = some (.ref fB)) (vB : PySem.W.keepIn K (.ref fB) = true) (hk : dep + 3 ≤ k)
    (GA : FnOk P w K mg base CX0 (dep + 3) fA fdA ["program", "pairs"] (spAdd K B dep)) (bA : Binds K fdA ["program", "pairs"] []) (mA : mg "added_up" = some (.ref fA)) (vA : PySem.W.keepIn K (.ref fA) = true) :
    FnOk P w K mg base CX0 (k + 1) f fd ["program", "first", "stop"] (spBtw K B dep) := by
  refine F.ok scBt (fun vs H Q E h => ?_) (fun cdv A outer s H vs Q E hr h => ?_)
  · obtain ⟨x, is, a, b, rfl, _⟩ := h
    rfl
  · obtain ⟨x, is, a, b, rfl, hp, hps, h64, a0, b0, aw, bw, q⟩ := h
    have hrA : Room (dep + 3) _ := hr.mono hk
    refine ⟨_, pss_cons (ps_setLc (i := 3) (own := [("name", 4), ("ticks", 5)]) (g := gTup K 2 (gCons (gName 4) (gCons (gName 5) gNil))) (tt := tYes) (te := tTup (tCons (tVar 4) (tCons (tUn (rU fun i => .int (-i)) (tVar 5)) tNil))) rfl scBt.nd rfl rfl (sw_true rfl rfl rfl rfl)
        (pi_list (pe_call GB hr (by rfl) mB vB bB .nil pass0 (pa_cons (pv 0) (pa_cons (pv 1) pa_nil)))) (blkOk_by (N := ["program", "first", "stop", "ahead", "name", "ticks"]) (sc := defScope (topS 14)) (by decide +kernel))
        (fun _ _ _ _ _ => pg_tup rfl (pgs_cons (pg_name (i := 4) scBt.nd rfl (Or.inl rfl)) (pgs_cons (pg_name (i := 5) scBt.nd rfl (Or.inl rfl)) pgs_nil))) (fun _ _ _ _ _ => pts_nil) (fun _ _ _ _ _ => pe_tup (pa_cons (pv 4) (pa_cons (pe_un un_neg (pv 5)) pa_nil))))
      (pss_one (ps_ret (pe_call GA hrA (by rfl) mA vA bA .nil pass0 (pa_cons (pv 0) (pa_cons (pe_op op_cat (pe_call GB hr (by rfl) mB vB bB .nil pass0 (pa_cons (pv 0) (pa_cons (pv 2) pa_nil))) (pv 3)) pa_nil))))), ?_⟩
    have sl := sizeLine_eq
    have big : (dep + 1) * Its.nl is ≤ 21 * 64 := Nat.mul_le_mul (by omega) (by omega)
    refine s_setA (R := fun H' u => ∃ ps1, Bef (Its.w is) a ps1 ∧ ps1.length ≤ (dep + 1) * Its.nl is + 1 ∧ (gLd K ((ps1.map fun p => (p.1, -p.2)).map pairD)).p H' u) (fun Q' kq => ?_) fun H2 u2 s12 ⟨ps1, bf1, hl1, g2⟩ => ?_
    · refine ⟨_, rfl, _, rfl, x, is, a, rfl, hp, hps, by omega, a0, aw, fun H1 u1 ps1 s1 g1 bf1 hl1 => ?_⟩
      obtain ⟨l1, us1, rfl, hl1', ha1⟩ := g1
      have ht : tupDs ((ps1.map fun p => (p.1, -p.2)).map pairD) = true := tup_pairs _
      have key := g_lcDL (K := K) (H0 := H1) (σ := [some x, some (.int a), some (.int b), none, none, none]) (ti := tC (.ref l1)) (te := tTup (tCons (tVar 4) (tCons (tUn (rU fun i => .int (-i)) (tVar 5)) tNil))) (ds := ps1.map pairD) (es := (ps1.map fun p => (p.1, -p.2)).map pairD)
        (g := gTup K 2 (gCons (gName 4) (gCons (gName 5) gNil))) (vs := [4, 5]) (fun HH Q' sH k' => k' HH l1 us1 Same.rfl' (.inl (.inl (sH _ _ hl1'))) (ha1.mono sH)) (by rw [List.length_map]; omega) ht (by simp) fun j x' d e hd he HH R sH hx hR => by
          rw [List.getElem?_map] at hd
          obtain ⟨p, hp', rfl⟩ := Option.map_eq_some_iff.mp hd
          rw [List.getElem?_map, List.getElem?_map, hp'] at he
          cases he
          obtain ⟨a', rfl, ha'⟩ := da_pair hx
          exact ⟨a', _, rfl, ha', rfl, _, _, rfl, _, _, rfl, rfl, rfl, _, rfl, _, rfl, _, rfl, (by show 2 ≤ sizeLine; decide), fun t nt => hR _ _ (same_put nt) (.tup (xs := [.str p.1, .int (-p.2)]) (.inl (.inl upd_same)) (.cons (.str _) (.cons (.int _) .nil)))⟩
      exact key H1 Q' Same.rfl' fun H2 u2 s2 g2 => kq H2 u2 (s1.trans s2) ⟨ps1, bf1, hl1, g2⟩
    obtain ⟨l2, us2, rfl, hl2, ha2⟩ := g2
    have hu2 := daAll_len ha2
    rw [List.length_map, List.length_map] at hu2
    refine ⟨_, rfl, _, rfl, _, rfl, x, is, b, rfl, hp.same s12, hps, by omega, b0, bw, fun H3 u3 ps3 s3 g3 bf3 hl3 => ?_⟩
    obtain ⟨l3, us3, rfl, hl3', ha3⟩ := g3
    have hu3 := daAll_len ha3
    rw [List.length_map] at hu3
    refine ⟨_, rfl, l3, l2, us3, us2, rfl, rfl, hl3', s3 _ _ hl2, by omega, fun l4 n4 => ?_⟩
    have s4 := same_put (o := .lst (us3 ++ us2)) n4
    refine ⟨x, .ref l4, is, ps3 ++ (ps1.map fun p => (p.1, -p.2)), rfl, ((hp.same s12).same s3).same s4, h64, ⟨l4, _, rfl, .inl (.inl upd_same), ?_⟩, ?_, fun p hp' => ?_, fun H5 u5 s5 h5 => q H5 u5 (((s12.trans s3).trans s4).trans s5) ?_⟩
    · rw [List.map_append]
      exact da_app (ha3.mono s4) ((ha2.mono s3).mono s4)
    · rw [List.length_append, List.length_map]
      omega
    · rw [lines_w hps]
      rcases List.mem_append.mp hp' with h | h
      · exact bf3.mem p h
      · obtain ⟨p0, h0, rfl⟩ := List.mem_map.mp h
        exact bf1.mem p0 h0
    · rw [tot_congr (d := sumN (ps3 ++ ps1.map fun p => (p.1, -p.2))) fun n => by rw [sumN_app, sumN_neg, bf3.cnt n, bf1.cnt n]; omega]
      exact h5
theorem ok_tks {B dep : Nat} (hB : Room2 B dep) (F : Fun K "ticks_of" "ticks_of" (topS 23) f fd) (GS : FnOk P w K mg base CX0 (dep + 1) fS fdS ["items", "rounds"] (spSpent K B dep)) (bS : Binds K fdS ["items", "rounds"] []) (mS : mg "spent" = some (.ref fS)) (vS : PySem.W.keepIn K (.ref fS) = true)
    (mu : mg "sum" = none) : FnOk P w K mg base CX0 (dep + 2) f fd ["items", "name"] (spTks K B dep) := by
  refine F.ok scTi (fun vs H Q E h => ?_) (fun cdv A outer s H vs Q E hr h => ?_)
  · obtain ⟨x, is, n, rfl, _⟩ := h
    rfl
  · obtain ⟨x, is, n, rfl, hp, hnn, q⟩ := h
    refine ⟨_, pss_one (ps_ret (pe_callB (cr_sum rfl) (by rfl) mu (by decide +kernel) (pa_cons (pe_lc (own := [("other", 2), ("ticks", 3)]) (g := gTup K 2 (gCons (gName 2) (gCons (gName 3) gNil))) (tt := tTest (tOp rEq (tVar 2) (tVar 1))) (te := tVar 3) rfl scTi.nd
      (pi_list (pe_call GS hr (by rfl) mS vS bS .nil pass0 (pa_cons (pv 0) (pa_cons pe_int pa_nil)))) (blkOk_by (N := ["items", "name", "other", "ticks"]) (sc := defScope (topS 23)) (by decide +kernel))
      (fun _ _ _ _ _ => pg_tup rfl (pgs_cons (pg_name (i := 2) scTi.nd rfl (Or.inl rfl)) (pgs_cons (pg_name (i := 3) scTi.nd rfl (Or.inl rfl)) pgs_nil))) (fun _ _ _ _ _ => pts_one (pt_cmpR op_eq (pv 2) (pv 1) (nomark _))) (fun _ _ _ _ _ => pv 3)) pa_nil))), ?_⟩
    have few := hp.few
    have hlen : ((Its.sp 1 is).map pairD).length = Its.nl is := by rw [List.length_map, Its.sp_len]
    have key := g_lcF (K := K) (H0 := H) (σ := [some x, some (.str n), none, none]) (te := tVar 3) (tt := tTest (tOp rEq (tVar 2) (tVar 1))) (ds := (Its.sp 1 is).map pairD) (f := fun j => (((Its.sp 1 is)[j]?).map fun p => decide (p.1 = n)).getD false)
      (y := fun j => (((Its.sp 1 is)[j]?).map fun p => V.int p.2).getD .non) (g := gTup K 2 (gCons (gName 2) (gCons (gName 3) gNil))) (vs := [2, 3]) (hi_spent (i := 0) hB rfl hp) (by omega) fun j x' d hd HH R N sH hx hR hN => by
        rw [List.getElem?_map] at hd
        obtain ⟨p, hp', rfl⟩ := Option.map_eq_some_iff.mp hd
        obtain ⟨a, rfl, ha⟩ := da_pair hx
        rw [hp'] at hR hN
        have hR : decide (p.1 = n) = true → ∀ H', Same HH H' → R (.int p.2) H' := hR
        have hN : decide (p.1 = n) = false → ∀ H', Same HH H' → N H' := hN
        refine ⟨a, _, rfl, ha, rfl, _, _, rfl, _, _, rfl, rfl, rfl, _, rfl, _, rfl, rfl, _, rfl, ?_⟩
        have ed : decide (V.str p.1 = V.str n) = decide (p.1 = n) := decide_eq_decide.mpr ⟨fun h => V.str.inj h, fun h => by rw [h]⟩
        rw [ed]
        by_cases e : p.1 = n
        · rw [decide_eq_true e] at hR ⊢
          exact iteT ⟨_, rfl, hR rfl HH Same.rfl'⟩
        · rw [decide_eq_false e] at hN ⊢
          exact iteF (hN rfl HH Same.rfl')
    have e : ((List.range ((Its.sp 1 is).map pairD).length).filter fun j => (((Its.sp 1 is)[j]?).map fun p => decide (p.1 = n)).getD false).map (fun j => (((Its.sp 1 is)[j]?).map fun p => V.int p.2).getD .non) = (((Its.sp 1 is).filter fun p => decide (p.1 = n)).map (·.2)).map V.int := by
      rw [List.length_map, range_filter, List.map_map]
      rfl
    rw [e] at key
    refine s_ret (g_sum (K := K) key) fun H' u s' e' => ?_
    have e' : u = V.int (sumN (Its.sp 1 is) n) := e'
    subst e'
    rw [Its.sp_count n 1 is hnn, Int.one_mul]
    exact q H' s'
end
end Ev

/-! ## item_at, line_at -/
namespace Ev
open PySem PySem.Spec PyProof.Rows L2
/-- the item with a tick, and what stands ahead of it -/
structure Found (is : List It) (tk : Int) (i : Nat) (it : It) (rest : Int) : Prop where
  at' : is[i]? = some it
  lo : 0 ≤ rest
  hi : rest < ((It.w it).length : Nat)
  eq : tk = ((Its.w (is.take i)).length : Nat) + rest
theorem Found.get {is : List It} {tk rest : Int} {i : Nat} {it : It} (h : Found is tk i it rest) : (Its.w is)[tk.toNat]? = (It.w it)[rest.toNat]? := by
  have e : tk.toNat = (Its.w (is.take i)).length + rest.toNat := by
    have h1 := h.lo
    have h2 := h.eq
    omega
  rw [w_at h.at', List.append_assoc, e, List.getElem?_append_right (Nat.le_add_right _ _), Nat.add_sub_cancel_left, List.getElem?_append_left (by have := h.hi; have := h.lo; omega)]
def spItm (K : PySem.W.Frag) (B dep : Nat) : Sp := fun vs H Q _ => ∃ (x : V) (is : List It) (tk : Int), vs = [x, .int tk] ∧ Prg K B dep H x is ∧ Its.ps is ∧ 0 ≤ tk ∧ tk < ((Its.w is).length : Nat) ∧
  ∀ H' p v it rest i, Same H H' → H' p = some (.tup [v, .int rest]) → Da K H' v (It.d it) → Found is tk i it rest → Q (.ref p) H'
theorem scIa : FnScope ["items", "tick", "at", "size"] ["items", "tick"] (defScope (topS 24)) := ⟨rfl, rfl, rfl, by decide +kernel, rfl, by decide +kernel, by decide +kernel⟩
theorem scLa : FnScope ["program", "tick", "item", "rest"] ["program", "tick"] (defScope (topS 12)) := ⟨rfl, rfl, rfl, by decide +kernel, rfl, by decide +kernel, by decide +kernel⟩
section
variable {P : Program} {w : World} {K : PySem.W.Frag} {mg : Str → Option Value} {base : Heap} {f fL fI fN : Addr} {fd fdL fdI fdN : FuncData}
theorem ok_itm {B dep : Nat} (F : Fun K "item_at" "item_at" (topS 24) f fd) (GL : FnOk P w K mg base CX0 (dep + 2) fL fdL ["program"] (spLen K B dep)) (bL : Binds K fdL ["program"] []) (mL : mg "length" = some (.ref fL)) (vL : PySem.W.keepIn K (.ref fL) = true) :
    FnOk P w K mg base CX0 (dep + 3) f fd ["items", "tick"] (spItm K B dep) := by
  refine F.ok scIa (fun vs H Q E h => ?_) (fun cdv A outer s H vs Q E hr h => ?_)
  · obtain ⟨x, is, tk, rfl, _⟩ := h
    rfl
  · obtain ⟨x, is, tk, rfl, hp, hps, t0, t1, q⟩ := h
    refine ⟨_, pss_cons (ps_set (i := 2) scIa.nd rfl (.inl rfl) pe_int)
      (pss_cons (ps_set (i := 3) scIa.nd rfl (.inl rfl) (pe_call GL hr (by rfl) mL vL bL .nil pass0 (pa_cons (pe_slice sl_tupA (pv 0) po_none (po_some pe_int)) pa_nil)))
      (pss_cons (ps_while PassesOwn.never (pt_cmpR op_ge (pv 1) (pv 3) (nomark _))
        (pss_cons (ps_aug (i := 1) scIa.nd rfl (.inl rfl) (pv 3) ip_sub)
        (pss_cons (ps_aug (i := 2) scIa.nd rfl (.inl rfl) pe_int ip_add)
        (pss_one (ps_set (i := 3) scIa.nd rfl (.inl rfl) (pe_call GL hr (by rfl) mL vL bL .nil pass0 (pa_cons (pe_slice sl_tupA (pv 0) (po_some (pv 2)) (po_some (pe_op op_add (pv 2) pe_int))) pa_nil)))))))
      (pss_one (ps_ret (pe_tup (pa_cons (pe_ix ix_tup (pv 0) (pv 2) (fun _ _ => rfl)) (pa_cons (pv 1) pa_nil))))))), ?_⟩
    have sl := sizeLine_eq
    obtain ⟨a, xs, rfl, hs, ha⟩ := da_prog hp.da
    have hxl := daAll_len ha
    rw [List.length_map] at hxl
    refine ⟨_, rfl, 1, rfl, sl_val (lo := none) (hi := some 1) hp.da fun H1 u1 s1 hu1 => ?_⟩
    have e1 : cutD (is.map It.d) none (some 1) = ((is.drop 0).take 1).map It.d := by
      rw [show cutD (is.map It.d) none (some 1) = (is.map It.d).take 1 from cut_to _ 1, map_take, List.drop_zero]
    rw [e1] at hu1
    refine ⟨u1, (is.drop 0).take 1, rfl, (hp.same s1).part hu1 (fun i hi => List.mem_of_mem_drop (List.mem_of_mem_take hi)) (Nat.le_trans (nl_take_le _ _) (nl_drop_le _ _)), fun H2 s2 => ?_⟩
    refine while_w (fun m σ' H' => ∃ (i : Nat) (st : Int), m = is.length - i ∧ σ' = [some (.ref a), some (.int st), some (.int (i : Nat)), some (.int (lenI ((is.drop i).take 1)))] ∧ Same H H' ∧ 0 ≤ st ∧ st + ((Its.w (is.take i)).length : Nat) = tk)
      ⟨_, 0, tk, rfl, rfl, s1.trans s2, t0, by rw [List.take_zero, Its.w]; simp⟩ ?_ ?_
    · rintro m σ' H' ⟨i, st, rfl, rfl, s', st0, hst⟩
      have hi : i < is.length := by
        refine Nat.lt_of_not_le fun c => ?_
        rw [List.take_of_length_le c] at hst
        omega
      have hit := List.getElem?_eq_getElem hi
      have hpi := ps_mem hps (List.mem_of_getElem? hit)
      rw [drop_one hit, len_one (It.ps_nn _ hpi)]
      refine ⟨_, rfl, _, rfl, _, _, rfl, rfl, _, rfl, ite2 (fun e => ?_) (fun e => ?_)⟩
      · have hge : ((It.w is[i]).length : Nat) ≤ st := of_decide_eq_true e
        have e2 : cutD (is.map It.d) (some ((i : Int) + 1)) (some ((i : Int) + 1 + 1)) = ((is.drop (i + 1)).take 1).map It.d := by
          rw [show cutD (is.map It.d) (some ((i : Int) + 1)) (some ((i : Int) + 1 + 1)) = ((is.map It.d).drop (i + 1)).take (i + 1 + 1 - (i + 1)) from cut_mid _ (i + 1) (i + 1 + 1), show i + 1 + 1 - (i + 1) = 1 by omega, ← List.map_drop, map_take]
        refine ⟨_, rfl, _, rfl, _, _, rfl, rfl, _, rfl, _, _, rfl, rfl, _, rfl, _, rfl, _, rfl, _, rfl, _, _, rfl, rfl, _, rfl, sl_val (lo := some ((i : Int) + 1)) (hi := some ((i : Int) + 1 + 1)) (hp.da.mono s') fun H3 u3 s3 hu3 => ?_⟩
        rw [e2] at hu3
        refine ⟨u3, (is.drop (i + 1)).take 1, rfl, (hp.same (s'.trans s3)).part hu3 (fun j hj => List.mem_of_mem_drop (List.mem_of_mem_take hj)) (Nat.le_trans (nl_take_le _ _) (nl_drop_le _ _)), fun H4 s4 => ?_⟩
        refine ⟨is.length - (i + 1), by omega, i + 1, st - ((It.w is[i]).length : Nat), rfl, rfl, (s'.trans s3).trans s4, by omega, ?_⟩
        rw [w_take hit, List.length_append]
        omega
      · have hlt : ¬ ((It.w is[i]).length : Nat) ≤ st := of_decide_eq_false (Bool.eq_false_iff.mpr e)
        have hxi : i < xs.length := by omega
        have hx := List.getElem?_eq_getElem hxi
        obtain ⟨d, hd', hx'⟩ := daAll_at (ha.mono s') hx
        rw [List.getElem?_map, hit] at hd'
        cases hd'
        refine ⟨_, rfl, _, rfl, a, xs, _, _, rfl, rfl, seqT_mono s' hs, atI_of hx, _, rfl, (by show 2 ≤ sizeLine; decide), fun p np => ?_⟩
        exact q _ p _ is[i] st i (s'.trans (same_put np)) upd_same (hx'.mono (same_put np)) ⟨hit, st0, by omega, by omega⟩
    · rintro σ' H' Q1 Q2 hQ ⟨v, hv, v2, hv2, i, j, ei, ej, k, ek, h⟩
      exact ⟨v, hv, v2, hv2, i, j, ei, ej, k, ek, hQ _ _ h⟩
def spLat (K : PySem.W.Frag) (B dep : Nat) : Sp := fun vs H Q _ => ∃ (x : V) (is : List It) (tk : Int) (z : Str), vs = [x, .int tk] ∧ Prg K B dep H x is ∧ Its.ps is ∧ 0 ≤ tk ∧ (Its.w is)[tk.toNat]? = some z ∧ ∀ H', Same H H' → Q (.str z) H'
theorem ok_lat {B dep : Nat} (F : Fun K "line_at" "line_at" (topS 12) f fd) (GL : FnOk P w K mg base CX0 (dep + 2) fL fdL ["program"] (spLen K B dep)) (bL : Binds K fdL ["program"] []) (mL : mg "length" = some (.ref fL)) (vL : PySem.W.keepIn K (.ref fL) = true)
    (GI : FnOk P w K mg base CX0 (dep + 3) fI fdI ["items", "tick"] (spItm K B dep)) (bI : Binds K fdI ["items", "tick"] []) (mI : mg "item_at" = some (.ref fI)) (vI : PySem.W.keepIn K (.ref fI) = true)
    (GN : FnOk P w K mg base CX0 2 fN fdN ["value", "least", "most"] (spIn K)) (bN : Binds K fdN ["value", "least", "most"] []) (mN : mg "is_integer_within" = some (.ref fN)) (vN : PySem.W.keepIn K (.ref fN) = true) :
    FnOk P w K mg base CX0 (dep + 4) f fd ["program", "tick"] (spLat K B dep) := by
  refine F.ok scLa (fun vs H Q E h => ?_) (fun cdv A outer s H vs Q E hr h => ?_)
  · obtain ⟨x, is, tk, z, rfl, _⟩ := h
    rfl
  · obtain ⟨x, is, tk, z, rfl, hp, hps, t0, hz, q⟩ := h
    have hr1 : Room 2 _ := hr.mono (show 2 ≤ dep + 3 by omega)
    have hrL : Room (dep + 2) _ := hr.mono (show dep + 2 ≤ dep + 3 by omega)
    refine ⟨_, pss_cons (ps_if (pt_not (pt_val (pe_call GN hr1 (by rfl) mN vN bN .nil pass0 (pa_cons (pv 1) (pa_cons pe_int (pa_cons (pe_op op_sub (pe_call GL hrL (by rfl) mL vL bL .nil pass0 (pa_cons (pv 0) pa_nil)) pe_int) pa_nil)))))) pss_dead pss_nil)
      (pss_cons (ps_asg (pe_call GI hr (by rfl) mI vI bI .nil pass0 (pa_cons (pv 0) (pa_cons (pv 1) pa_nil))) (pg_tup rfl (pgs_cons (pg_name (i := 2) scLa.nd rfl (.inl rfl)) (pgs_cons (pg_name (i := 3) scLa.nd rfl (.inl rfl)) pgs_nil))))
      (pss_cons (ps_while PassesOwn.never (pt_cmpR op_eq (pe_ix ix_tup (pv 2) pe_int (fun _ _ => rfl)) pe_str (nomark _))
        (pss_one (ps_asg (pe_call GI hr (by rfl) mI vI bI .nil pass0 (pa_cons (pe_ix ix_tup (pv 2) pe_int (fun _ _ => rfl)) (pa_cons (pe_op op_mod (pv 3) (pe_call GL hrL (by rfl) mL vL bL .nil pass0 (pa_cons (pe_ix ix_tup (pv 2) pe_int (fun _ _ => rfl)) pa_nil))) pa_nil))) (pg_tup rfl (pgs_cons (pg_name (i := 2) scLa.nd rfl (.inl rfl)) (pgs_cons (pg_name (i := 3) scLa.nd rfl (.inl rfl)) pgs_nil))))))
      (pss_one (ps_ret (pe_ix ix_tup (pv 2) pe_int (fun _ _ => rfl)))))), ?_⟩
    have hlt : tk.toNat < (Its.w is).length := (List.getElem?_eq_some_iff.mp hz).1
    have hlen := len_w (Its.ps_nn is hps)
    refine ⟨_, rfl, _, rfl, x, is, rfl, hp, fun H1 s1 => ⟨_, _, rfl, rfl, .int tk, .int tk, 0, lenI is - 1, rfl, .int tk, fun H2 s2 => ⟨_, rfl, ?_⟩⟩⟩
    have e : intD 0 (lenI is - 1) (.int tk) = true := by
      show (decide ((0 : Int) ≤ tk) && decide (tk ≤ lenI is - 1)) = true
      rw [decide_eq_true t0, decide_eq_true (by omega)]
      rfl
    rw [e]
    refine iteF ?_
    have s12 := s1.trans s2
    refine ⟨_, rfl, _, rfl, x, is, tk, rfl, hp.same s12, hps, t0, by omega, fun H3 p v it rest i s3 ep hv fnd => ⟨p, _, rfl, .inl (.inl ep), rfl, _, _, rfl, _, _, rfl, rfl, ?_⟩⟩
    refine while_w (fun m σ' H' => ∃ (v : V) (it : It) (rest : Int), m = It.sz it ∧ σ' = [some x, some (.int tk), some v, some (.int rest)] ∧ Same H H' ∧ Da K H' v (It.d it) ∧ Okp B dep it ∧ It.ps it ∧ It.nl it ≤ 100000 ∧ 0 ≤ rest ∧ rest < ((It.w it).length : Nat) ∧ (It.w it)[rest.toNat]? = some z)
      ⟨_, v, it, rest, rfl, rfl, s12.trans s3, hv, hp.ok it (List.mem_of_getElem? fnd.at'), ps_mem hps (List.mem_of_getElem? fnd.at'), Nat.le_trans (Its.nl_mem (List.mem_of_getElem? fnd.at')) hp.few, fnd.lo, fnd.hi, by rw [← fnd.get]; exact hz⟩ ?_ ?_
    · rintro m σ' H' ⟨v, it, rest, rfl, rfl, s', hv, hok, hpi, hnl, r0, r1, hw⟩
      cases it with
      | line y t =>
        obtain ⟨b, rfl, hb⟩ := da_line hv
        refine ⟨_, rfl, b, _, 0, _, rfl, rfl, hb, rfl, rfl, _, rfl, ?_⟩
        rw [show decide (V.str "line" = V.str "loop") = false from decide_eq_false fun h => absurd (V.str.inj h) (by decide)]
        refine iteF ?_
        refine ⟨_, rfl, b, _, 1, _, rfl, rfl, hb, rfl, ?_⟩
        have ez : y = z := by
          rw [It.w, List.getElem?_replicate] at hw
          split at hw
          · exact Option.some.inj hw
          · cases hw
        rw [ez]
        exact q H' s'
      | loop r js =>
        obtain ⟨b, v4, rfl, hb, hv4⟩ := da_loop hv
        rw [It.ps] at hpi
        rw [It.nl] at hnl
        have hpos := Its.w_pos js hpi.2.1 hpi.2.2
        have hlj := len_w (Its.ps_nn js hpi.2.2)
        have hj0 : (0 : Int) < lenI js := by
          rw [hlj]
          omega
        obtain ⟨d', rfl, hokj⟩ : ∃ d', dep = d' + 1 ∧ ∀ i ∈ js, Okp B d' i := by
          cases dep with
          | zero => exact hok.elim
          | succ d' => exact ⟨d', rfl, hok.2.2⟩
        refine ⟨_, rfl, b, _, 0, _, rfl, rfl, hb, rfl, rfl, _, rfl, ?_⟩
        rw [show decide (V.str "loop" = V.str "loop") = true from decide_eq_true rfl]
        refine iteT ?_
        have pj : ∀ HH, Same H' HH → Prg K B (d' + 1) HH v4 js := fun HH sH => ⟨hv4.mono sH, fun i hi => okp_up (Nat.le_succ _) (hokj i hi), hnl⟩
        refine ⟨_, rfl, b, _, 2, _, rfl, rfl, hb, rfl, _, rfl, _, rfl, b, _, 2, _, rfl, rfl, hb, rfl, v4, js, rfl, pj H' Same.rfl', fun H4 s4 => ⟨_, _, rfl, rfl, hj0, v4, js, rest % lenI js, rfl, pj H4 s4, hpi.2.2, Int.emod_nonneg _ (by omega), ?_, fun H5 p5 v5 it5 rest5 i5 s5 ep5 hv5 fnd5 => ⟨p5, _, rfl, .inl (.inl ep5), rfl, _, _, rfl, _, _, rfl, rfl, ?_⟩⟩⟩
        · have := Int.emod_lt_of_pos rest hj0
          omega
        · have hm := List.mem_of_getElem? fnd5.at'
          refine ⟨It.sz it5, ?_, v5, it5, rest5, rfl, rfl, (s'.trans s4).trans s5, hv5, okp_up (Nat.le_succ _) (hokj it5 hm), ps_mem hpi.2.2 hm, Nat.le_trans (Its.nl_mem hm) hnl, fnd5.lo, fnd5.hi, ?_⟩
          · rw [It.sz]
            have := sz_mem hm
            omega
          · rw [← fnd5.get, hlj, (div_nat r0).2, ← flat_get hpos r.toNat rest.toNat (by rw [It.w, flat_len] at r1; omega), ← It.w]
            exact hw
    · rintro σ' H' Q1 Q2 hQ ⟨v, hv, a1, a2, a3, a4, e1, e2, e3, e4, sc, k, ek, h⟩
      exact ⟨v, hv, a1, a2, a3, a4, e1, e2, e3, e4, sc, k, ek, hQ _ _ h⟩
end
end Ev

/-! ## ticks_ahead, nth_tick, written_out, expanded -/
namespace Ev
open PySem PySem.Spec PyProof.Rows L2
mutual
theorem It.w_le {B : Nat} : ∀ (dep : Nat) (i : It), Okp B dep i → (It.w i).length ≤ It.nl i * 2 ^ ((dep + 1) * B)
  | dep, .line x t, h => by
    have h := okp_line.mp h
    rw [It.w, List.length_replicate, It.nl, Nat.one_mul]
    have h2 : 2 ^ B ≤ 2 ^ ((dep + 1) * B) := Nat.pow_le_pow_right (by decide) (Nat.le_mul_of_pos_left _ (Nat.succ_pos _))
    omega
  | 0, .loop r is, h => h.elim
  | dep + 1, .loop r is, h => by
    obtain ⟨h0, h1, h2⟩ : 0 ≤ r ∧ r < (2 ^ B : Nat) ∧ ∀ i ∈ is, Okp B dep i := h
    rw [It.w, flat_len, It.nl]
    have z := Its.w_le dep is h2
    have e : (dep + 1 + 1) * B = (dep + 1) * B + B := Nat.succ_mul _ _
    rw [e, Nat.pow_add, ← Nat.mul_assoc, Nat.mul_comm]
    exact Nat.mul_le_mul z (by omega)
theorem Its.w_le {B : Nat} : ∀ (dep : Nat) (is : List It), (∀ i ∈ is, Okp B dep i) → (Its.w is).length ≤ Its.nl is * 2 ^ ((dep + 1) * B)
  | dep, [], _ => by
    rw [Its.w]
    exact Nat.zero_le _
  | dep, i :: is, h => by
    rw [Its.w, List.length_append, Its.nl, Nat.add_mul]
    exact Nat.add_le_add (It.w_le dep i (h i (List.mem_cons_self ..))) (Its.w_le dep is fun j hj => h j (List.mem_cons_of_mem _ hj))
end
theorem w_lt {B dep : Nat} {is : List It} (h : ∀ i ∈ is, Okp B dep i) (hn : Its.nl is ≤ 100000) : (Its.w is).length < 2 ^ (17 + (dep + 1) * B) := by
  refine Nat.lt_of_le_of_lt (Its.w_le dep is h) ?_
  rw [Nat.pow_add]
  exact Nat.mul_lt_mul_of_pos_right (by omega) (Nat.pow_pos (by decide))
/-- the place of a name's tick with a number -/
structure Nth (w : List Str) (n : Str) (num : Int) (p : Nat) : Prop where
  at' : w[p]? = some n
  cnt : (((w.take p).count n : Nat) : Int) = num
theorem nth_app {a b c : List Str} {n : Str} {num : Int} {p : Nat} (h : Nth b n (num - (a.count n : Nat)) p) : Nth (a ++ b ++ c) n num (a.length + p) := by
  have hp : p < b.length := (List.getElem?_eq_some_iff.mp h.at').1
  constructor
  · rw [List.append_assoc, List.getElem?_append_right (Nat.le_add_right _ _), Nat.add_sub_cancel_left, List.getElem?_append_left hp]
    exact h.at'
  · rw [List.append_assoc, List.take_length_add_append, List.take_append_of_le_length (Nat.le_of_lt hp), List.count_append]
    have := h.cnt
    omega
theorem nth_line {n : Str} {t : Nat} {num : Int} (h0 : 0 ≤ num) (h1 : num < (t : Nat)) : Nth (List.replicate t n) n num num.toNat := by
  constructor
  · rw [List.getElem?_replicate, if_pos (by omega)]
  · rw [rep_take_count (by omega), if_pos rfl]
    omega
theorem nth_loop {l : List Str} {n : Str} {r p : Nat} {num : Int} (h0 : 0 ≤ num) (h1 : num < ((r * l.count n : Nat) : Int)) (h : Nth l n (num % (l.count n : Nat)) p) : Nth (List.replicate r l).flatten n num ((num / (l.count n : Nat)).toNat * l.length + p) := by
  have hp : p < l.length := (List.getElem?_eq_some_iff.mp h.at').1
  obtain ⟨m, rfl⟩ := Int.eq_ofNat_of_zero_le h0
  obtain ⟨e1, e2⟩ := div_nat (l := l.count n) h0
  have hc : 0 < l.count n := by
    rcases Nat.eq_zero_or_pos (l.count n) with z | z
    · rw [z, Nat.mul_zero] at h1
      omega
    · exact z
  rw [e1, Int.toNat_natCast]
  have hlt : m / l.count n < r := (Nat.div_lt_iff_lt_mul hc).mpr (by omega)
  have hx : m / l.count n * l.length + p < r * l.length := by
    have h2 : (m / l.count n + 1) * l.length ≤ r * l.length := Nat.mul_le_mul_right _ hlt
    rw [Nat.succ_mul] at h2
    omega
  have hm : (m / l.count n * l.length + p) % l.length = p := by
    rw [Nat.mul_comm, Nat.mul_add_mod, Nat.mod_eq_of_lt hp]
  have hd : (m / l.count n * l.length + p) / l.length = m / l.count n := by
    rw [Nat.mul_comm, Nat.mul_add_div (by omega), Nat.div_eq_of_lt hp, Nat.add_zero]
  constructor
  · rw [flat_get (by omega) r _ hx, hm]
    exact h.at'
  · rw [flat_take (by omega) r _ hx, hm, hd, List.count_append, flat_count]
    have z := h.cnt
    have e3 : ((m : Int) % (l.count n : Nat)) = ((m % l.count n : Nat) : Int) := (Int.natCast_emod m _).symm
    rw [e3] at z
    have e4 := Nat.div_add_mod m (l.count n)
    rw [Nat.mul_comm] at e4
    omega
def spAhd (K : PySem.W.Frag) (B dep : Nat) : Sp := fun vs H Q _ => ∃ (x : V) (is : List It) (n : Str) (num : Int), vs = [x, .str n, .int num] ∧ Prg K B dep H x is ∧ Its.ps is ∧ 0 ≤ num ∧ num < ((Its.w is).count n : Nat) ∧ num.natAbs < 2 ^ 4000 ∧
  ∀ H' p, Same H H' → Nth (Its.w is) n num p → Q (.int (p : Nat)) H'
theorem scTa : FnScope ["items", "name", "number", "at", "here", "kind", "first", "second", "ahead", "rounds", "rest"] ["items", "name", "number"] (defScope (topS 25)) := ⟨rfl, rfl, rfl, by decide +kernel, rfl, by decide +kernel, by decide +kernel⟩
theorem scNt : FnScope ["program", "name", "number"] ["program", "name", "number"] (defScope (topS 15)) := ⟨rfl, rfl, rfl, by decide +kernel, rfl, by decide +kernel, by decide +kernel⟩
section
variable {P : Program} {w : World} {K : PySem.W.Frag} {mg : Str → Option Value} {base : Heap} {f fL fT fR fN fO : Addr} {fd fdL fdT fdR fdN fdO : FuncData}
theorem nn_take {is : List It} (h : Its.ps is) (i : Nat) : Its.nn ((is.drop i).take 1) := Its.ps_nn _ (ps_of fun j hj => ps_mem h (List.mem_of_mem_drop (List.mem_of_mem_take hj)))
theorem ahd_step {B M dep k : Nat} {spR : Sp} (hB : 0 < B) (hM : 4100 + (M + 1) * B ≤ 900000) (hd : dep ≤ M) (F : Fun K "ticks_ahead" "ticks_ahead" (topS 25) f fd)
    (GL : FnOk P w K mg base CX0 (M + 2) fL fdL ["program"] (spLen K B M)) (bL : Binds K fdL ["program"] []) (mL : mg "length" = some (.ref fL)) (vL : PySem.W.keepIn K (.ref fL) = true)
    (GT : FnOk P w K mg base CX0 (M + 2) fT fdT ["items", "name"] (spTks K B M)) (bT : Binds K fdT ["items", "name"] []) (mT : mg "ticks_of" = some (.ref fT)) (vT : PySem.W.keepIn K (.ref fT) = true)
    (GR : FnOk P w K mg base CX0 k f fd ["items", "name", "number"] spR) (bR : Binds K fd ["items", "name", "number"] []) (mR : mg "ticks_ahead" = some (.ref f)) (hk : M + 2 ≤ k) (hR : dep = 0 ∨ ∃ d, dep = d + 1 ∧ spR = spAhd K B d)
    (md : mg "divmod" = none) : FnOk P w K mg base CX0 (k + 1) f fd ["items", "name", "number"] (spAhd K B dep) := by
  refine F.ok scTa (fun vs H Q E h => ?_) (fun cdv A outer s H vs Q E hr h => ?_)
  · obtain ⟨x, is, n, num, rfl, _⟩ := h
    rfl
  · obtain ⟨x, is, n, num, rfl, hp0, hps, n0, n1, nw, q⟩ := h
    have hp : Prg K B M H x is := ⟨hp0.da, fun i hi => okp_up hd (hp0.ok i hi), hp0.few⟩
    have hrL : Room (M + 2) _ := hr.mono hk
    refine ⟨_, pss_cons (ps_set (i := 3) scTa.nd rfl (.inl rfl) pe_int)
      (pss_cons (ps_set (i := 4) scTa.nd rfl (.inl rfl) (pe_call GT hrL (by rfl) mT vT bT .nil pass0 (pa_cons (pe_slice sl_tupA (pv 0) po_none (po_some pe_int)) (pa_cons (pv 1) pa_nil))))
      (pss_cons (ps_while PassesOwn.never (pt_cmpR op_ge (pv 2) (pv 4) (nomark _))
        (pss_cons (ps_aug (i := 2) scTa.nd rfl (.inl rfl) (pv 4) ip_sub)
        (pss_cons (ps_aug (i := 3) scTa.nd rfl (.inl rfl) pe_int ip_add)
        (pss_one (ps_set (i := 4) scTa.nd rfl (.inl rfl) (pe_call GT hrL (by rfl) mT vT bT .nil pass0 (pa_cons (pe_slice sl_tupA (pv 0) (po_some (pv 3)) (po_some (pe_op op_add (pv 3) pe_int))) (pa_cons (pv 1) pa_nil))))))))
      (pss_cons (ps_asg (pe_ix ix_tup (pv 0) (pv 3) (fun _ _ => rfl)) (pg_tup rfl (pgs_cons (pg_name (i := 5) scTa.nd rfl (.inl rfl)) (pgs_cons (pg_name (i := 6) scTa.nd rfl (.inl rfl)) (pgs_cons (pg_name (i := 7) scTa.nd rfl (.inl rfl)) pgs_nil)))))
      (pss_cons (ps_set (i := 8) scTa.nd rfl (.inl rfl) (pe_call GL hrL (by rfl) mL vL bL .nil pass0 (pa_cons (pe_slice sl_tupA (pv 0) po_none (po_some (pv 3))) pa_nil)))
      (pss_cons (ps_if (pt_cmpR op_eq (pv 5) pe_str (nomark _)) (pss_one (ps_ret (pe_op op_add (pv 8) (pv 2)))) pss_nil)
      (pss_cons (ps_asg (pe_callB call_divmodW (by rfl) md (by decide +kernel) (pa_cons (pv 2) (pa_cons (pe_call GT hrL (by rfl) mT vT bT .nil pass0 (pa_cons (pv 7) (pa_cons (pv 1) pa_nil))) pa_nil))) (pg_tup rfl (pgs_cons (pg_name (i := 9) scTa.nd rfl (.inl rfl)) (pgs_cons (pg_name (i := 10) scTa.nd rfl (.inl rfl)) pgs_nil))))
      (pss_one (ps_ret (pe_op op_add (pe_op op_add (pv 8) (pe_op op_mulW (pv 9) (pe_call GL hrL (by rfl) mL vL bL .nil pass0 (pa_cons (pv 7) pa_nil)))) (pe_call GR hr (by rfl) mR F.kp bR .nil pass0 (pa_cons (pv 7) (pa_cons (pv 1) (pa_cons (pv 10) pa_nil))))))))))))), ?_⟩
    have sl := sizeLine_eq
    obtain ⟨a, xs, rfl, hs, ha⟩ := da_prog hp.da
    have hxl := daAll_len ha
    rw [List.length_map] at hxl
    have e1 : cutD (is.map It.d) none (some 1) = ((is.drop 0).take 1).map It.d := by
      rw [show cutD (is.map It.d) none (some 1) = (is.map It.d).take 1 from cut_to _ 1, map_take, List.drop_zero]
    refine ⟨_, rfl, 1, rfl, sl_val (lo := none) (hi := some 1) hp.da fun H1 u1 s1 hu1 => ?_⟩
    rw [e1] at hu1
    refine ⟨_, rfl, u1, (is.drop 0).take 1, n, rfl, (hp.same s1).part hu1 (fun i hi => List.mem_of_mem_drop (List.mem_of_mem_take hi)) (Nat.le_trans (nl_take_le _ _) (nl_drop_le _ _)), nn_take hps 0, fun H2 s2 => ?_⟩
    refine while_w (fun m σ' H' => ∃ (i : Nat) (st : Int), m = is.length - i ∧ σ' = [some (.ref a), some (.str n), some (.int st), some (.int (i : Nat)), some (.int ((Its.w ((is.drop i).take 1)).count n : Nat)), none, none, none, none, none, none] ∧ Same H H' ∧ 0 ≤ st ∧ st + ((Its.w (is.take i)).count n : Nat) = num)
      ⟨_, 0, num, rfl, rfl, s1.trans s2, n0, by rw [List.take_zero, Its.w]; simp⟩ ?_ ?_
    · rintro m σ' H' ⟨i, st, rfl, rfl, s', st0, hst⟩
      have hi : i < is.length := by
        refine Nat.lt_of_not_le fun c => ?_
        rw [List.take_of_length_le c] at hst
        omega
      have hit := List.getElem?_eq_getElem hi
      have hmem := List.mem_of_getElem? hit
      have hpi := ps_mem hps hmem
      have stw : st.natAbs < 2 ^ 4000 := wide_le st0 (by omega) nw
      rw [drop_one hit, w_one]
      refine ⟨_, rfl, _, rfl, _, _, rfl, rfl, _, rfl, ite2 (fun e => ?_) (fun e => ?_)⟩
      · have hge : ((It.w is[i]).count n : Nat) ≤ st := of_decide_eq_true e
        have e2 : cutD (is.map It.d) (some ((i : Int) + 1)) (some ((i : Int) + 1 + 1)) = ((is.drop (i + 1)).take 1).map It.d := by
          rw [show cutD (is.map It.d) (some ((i : Int) + 1)) (some ((i : Int) + 1 + 1)) = ((is.map It.d).drop (i + 1)).take (i + 1 + 1 - (i + 1)) from cut_mid _ (i + 1) (i + 1 + 1), show i + 1 + 1 - (i + 1) = 1 by omega, ← List.map_drop, map_take]
        refine ⟨_, rfl, _, rfl, _, _, rfl, rfl, _, rfl, _, _, rfl, rfl, _, rfl, _, rfl, _, rfl, _, rfl, _, _, rfl, rfl, _, rfl, sl_val (lo := some ((i : Int) + 1)) (hi := some ((i : Int) + 1 + 1)) (hp.da.mono s') fun H3 u3 s3 hu3 => ?_⟩
        rw [e2] at hu3
        refine ⟨_, rfl, u3, (is.drop (i + 1)).take 1, n, rfl, (hp.same (s'.trans s3)).part hu3 (fun j hj => List.mem_of_mem_drop (List.mem_of_mem_take hj)) (Nat.le_trans (nl_take_le _ _) (nl_drop_le _ _)), nn_take hps (i + 1), fun H4 s4 => ?_⟩
        refine ⟨is.length - (i + 1), by omega, i + 1, st - ((It.w is[i]).count n : Nat), rfl, rfl, (s'.trans s3).trans s4, by omega, ?_⟩
        rw [w_take hit, List.count_append]
        omega
      · have hlt : ¬ ((It.w is[i]).count n : Nat) ≤ st := of_decide_eq_false (Bool.eq_false_iff.mpr e)
        have hxi : i < xs.length := by omega
        have hx := List.getElem?_eq_getElem hxi
        obtain ⟨d, hd', hx'⟩ := daAll_at (ha.mono s') hx
        rw [List.getElem?_map, hit] at hd'
        cases hd'
        have e3 : cutD (is.map It.d) none (some (i : Int)) = (is.take i).map It.d := by
          rw [cut_to, map_take]
        have hokM := hp.ok is[i] hmem
        have hok0 := hp0.ok is[i] hmem
        have hw := w_at hit
        have hnl := Nat.le_trans (Its.nl_mem hmem) hp.few
        have fin : ∀ {HH : Hp} {p : Nat}, Same H HH → Nth (It.w is[i]) n st p → Q (.int ((((Its.w (is.take i)).length + p : Nat)) : Int)) HH := fun {HH p} sH hn => q HH _ sH (by
          rw [hw]
          refine nth_app ?_
          have e4 : num - ((Its.w (is.take i)).count n : Nat) = st := by omega
          rw [e4]
          exact hn)
        revert hx' hpi hlt hokM hok0 fin hnl
        generalize is[i] = it
        intro hpi hlt hx' hokM hok0 hnl fin
        cases it with
        | line z t =>
          obtain ⟨b, hbx, hb⟩ := da_line hx'
          rw [It.ps] at hpi
          refine ⟨_, rfl, _, rfl, a, xs, _, _, rfl, rfl, seqT_mono s' hs, atI_of hx, b, _, hbx, hb, rfl, _, _, rfl, _, _, rfl, _, _, rfl, rfl, ?_⟩
          refine ⟨_, rfl, _, rfl, _, rfl, sl_val (lo := none) (hi := some (i : Int)) (hp.da.mono s') fun H3 u3 s3 hu3 => ?_⟩
          rw [e3] at hu3
          refine ⟨u3, is.take i, rfl, (hp.same (s'.trans s3)).part hu3 (fun j hj => List.mem_of_mem_take hj) (nl_take_le _ _), fun H4 s4' => ?_⟩
          have s4 := s3.trans s4'
          rw [len_w (Its.ps_nn _ (ps_take hps i))]
          refine ⟨_, rfl, rfl, _, rfl, ?_⟩
          rw [dec_str]
          refine iteT ?_
          have ez : z = n := by
            rw [It.w, List.count_replicate] at hlt
            by_cases c : z = n
            · exact c
            · rw [if_neg (by simpa using c)] at hlt
              omega
          subst ez
          rw [It.w, List.count_replicate_self] at hlt
          have hn := nth_line (n := z) (t := t.toNat) st0 (by omega)
          rw [It.w] at fin
          have z2 := fin (s'.trans s4) hn
          refine ⟨_, rfl, _, rfl, _, _, rfl, rfl, ?_⟩
          rw [Int.natCast_add, Int.toNat_of_nonneg st0] at z2
          exact z2
        | loop r js =>
          obtain ⟨b, v7, hbx, hb, hv7⟩ := da_loop hx'
          obtain ⟨d', rfl, hsp⟩ : ∃ d', dep = d' + 1 ∧ spR = spAhd K B d' := by
            rcases hR with h | h
            · subst h
              exact hok0.elim
            · exact h
          subst hsp
          obtain ⟨k0, k1, hokj⟩ : 0 ≤ r ∧ r < (2 ^ B : Nat) ∧ ∀ i ∈ js, Okp B d' i := hok0
          rw [It.ps] at hpi
          rw [It.nl] at hnl
          have hnn := Its.ps_nn js hpi.2.2
          rw [It.w, flat_count] at hlt
          have hc0 : 0 < (Its.w js).count n := by
            rcases Nat.eq_zero_or_pos ((Its.w js).count n) with z | z
            · rw [z, Nat.mul_zero] at hlt
              omega
            · exact z
          have hcI : (0 : Int) < ((Its.w js).count n : Nat) := by omega
          have pj : ∀ HH, Same H' HH → Prg K B M HH v7 js := fun HH sH => ⟨hv7.mono sH, fun i hi => okp_up (by omega) (hokj i hi), hnl⟩
          have pj0 : ∀ HH, Same H' HH → Prg K B d' HH v7 js := fun HH sH => ⟨hv7.mono sH, hokj, hnl⟩
          have hjw : (Its.w js).length < 2 ^ (17 + (M + 1) * B) := w_lt (pj H' Same.rfl').ok hnl
          refine ⟨_, rfl, _, rfl, a, xs, _, _, rfl, rfl, seqT_mono s' hs, atI_of hx, b, _, hbx, hb, rfl, _, _, rfl, _, _, rfl, _, _, rfl, rfl, ?_⟩
          refine ⟨_, rfl, _, rfl, _, rfl, sl_val (lo := none) (hi := some (i : Int)) (hp.da.mono s') fun H3 u3 s3 hu3 => ?_⟩
          rw [e3] at hu3
          refine ⟨u3, is.take i, rfl, (hp.same (s'.trans s3)).part hu3 (fun j hj => List.mem_of_mem_take hj) (nl_take_le _ _), fun H4 s4' => ?_⟩
          have s4 := s3.trans s4'
          rw [len_w (Its.ps_nn _ (ps_take hps i))]
          refine ⟨_, rfl, rfl, _, rfl, ?_⟩
          rw [dec_ll]
          refine iteF ?_
          have qd0 : 0 ≤ st / ((Its.w js).count n : Nat) := Int.ediv_nonneg st0 (by omega)
          have qr0 : 0 ≤ st % ((Its.w js).count n : Nat) := Int.emod_nonneg _ (by omega)
          have qr1 : st % ((Its.w js).count n : Nat) < ((Its.w js).count n : Nat) := Int.emod_lt_of_pos _ hcI
          have qdw : (st / ((Its.w js).count n : Nat)).natAbs < 2 ^ 4000 := Nat.lt_of_le_of_lt (Int.natAbs_ediv_le_natAbs _ _) stw
          have qrw : (st % ((Its.w js).count n : Nat)).natAbs < 2 ^ 4000 := by
            refine wide_le qr0 (j := st) ?_ stw
            have := Int.mul_ediv_add_emod st ((Its.w js).count n : Nat)
            have h2 : 0 ≤ ((Its.w js).count n : Nat) * (st / ((Its.w js).count n : Nat)) := Int.mul_nonneg (by omega) qd0
            omega
          refine ⟨_, rfl, _, rfl, _, rfl, v7, js, n, rfl, pj H4 s4, hnn, fun H5 s5 => ⟨_, _, rfl, divp_by hcI stw (by decide), fun p np => ⟨p, _, rfl, .inl (.inl upd_same), rfl, _, _, rfl, _, _, rfl, rfl, ?_⟩⟩⟩
          have sP := same_put (o := .tup [.int (st / ((Its.w js).count n : Nat)), .int (st % ((Its.w js).count n : Nat))]) np
          have s6 : Same H' (upd H5 p (.tup [.int (st / ((Its.w js).count n : Nat)), .int (st % ((Its.w js).count n : Nat))])) := (s4.trans s5).trans sP
          generalize upd H5 p (.tup [.int (st / ((Its.w js).count n : Nat)), .int (st % ((Its.w js).count n : Nat))]) = H6 at s6 ⊢
          refine ⟨_, rfl, _, rfl, _, rfl, v7, js, rfl, pj H6 s6, fun H7 s7 => ?_⟩
          rw [len_w hnn]
          refine ⟨_, _, rfl, rfl, wide_mul (b := 17 + (M + 1) * B) qdw (by rw [Int.natAbs_natCast]; exact hjw) (by decide) (by omega) (by omega), _, _, rfl, rfl, _, rfl, _, rfl, _, rfl, v7, js, n, _, rfl, pj0 H7 (s6.trans s7), hpi.2.2, qr0, qr1, qrw, fun H8 p8 s8 hn8 => ?_⟩
          have hn := nth_loop (r := r.toNat) st0 (by omega) hn8
          rw [It.w] at fin
          have z2 := fin (((s'.trans s6).trans s7).trans s8) hn
          refine ⟨_, _, rfl, rfl, ?_⟩
          rw [Int.natCast_add, Int.natCast_add, Int.natCast_mul, Int.toNat_of_nonneg qd0, ← Int.add_assoc] at z2
          exact z2
    · rintro σ' H' Q1 Q2 hQ ⟨v, hv, v2, hv2, i, j, ei, ej, k, ek, h⟩
      exact ⟨v, hv, v2, hv2, i, j, ei, ej, k, ek, hQ _ _ h⟩
theorem ok_ahd {B M : Nat} (hB : 0 < B) (hM : 4100 + (M + 1) * B ≤ 900000) (F : Fun K "ticks_ahead" "ticks_ahead" (topS 25) f fd)
    (GL : FnOk P w K mg base CX0 (M + 2) fL fdL ["program"] (spLen K B M)) (bL : Binds K fdL ["program"] []) (mL : mg "length" = some (.ref fL)) (vL : PySem.W.keepIn K (.ref fL) = true)
    (GT : FnOk P w K mg base CX0 (M + 2) fT fdT ["items", "name"] (spTks K B M)) (bT : Binds K fdT ["items", "name"] []) (mT : mg "ticks_of" = some (.ref fT)) (vT : PySem.W.keepIn K (.ref fT) = true)
    (bR : Binds K fd ["items", "name", "number"] []) (mR : mg "ticks_ahead" = some (.ref f)) (md : mg "divmod" = none) :
    ∀ dep : Nat, dep ≤ M → FnOk P w K mg base CX0 (M + 3 + dep) f fd ["items", "name", "number"] (spAhd K B dep)
  | 0, hd => ahd_step (k := M + 2) hB hM hd F GL bL mL vL GT bT mT vT no_fn bR mR (Nat.le_refl _) (.inl rfl) md
  | d + 1, hd => ahd_step (k := M + 3 + d) hB hM hd F GL bL mL vL GT bT mT vT (ok_ahd hB hM F GL bL mL vL GT bT mT vT bR mR md d (by omega)) bR mR (by omega) (.inr ⟨d, rfl, rfl⟩) md
end
end Ev

/-! ## nth_tick, written_out, check_length, expanded -/
namespace Ev
open PySem PySem.Spec PyProof.Rows L2
def spNth (K : PySem.W.Frag) (B dep : Nat) : Sp := fun vs H Q _ => ∃ (x : V) (is : List It) (n : Str) (num : Int), vs = [x, .str n, .int num] ∧ Prg K B dep H x is ∧ Its.ps is ∧ Its.nl is < 64 ∧ 0 ≤ num ∧ num < ((Its.w is).count n : Nat) ∧ num.natAbs < 2 ^ 4000 ∧
  ∀ H' p, Same H H' → Nth (Its.w is) n num p → Q (.int (p : Nat)) H'
theorem in_strs {n : Str} {ns : List Str} : inV (.str n) (ns.map V.str) = decide (n ∈ ns) := by
  unfold inV
  rw [List.any_map]
  induction ns with
  | nil => rfl
  | cons m ns ih =>
    rw [List.any_cons, ih]
    show ((m == n) || decide (n ∈ ns)) = _
    by_cases e : m = n
    · subst e
      simp
    · have h1 : (m == n) = false := by simpa using e
      rw [h1, Bool.false_or]
      exact decide_eq_decide.mpr ⟨fun z => List.mem_cons_of_mem _ z, fun z => (List.mem_cons.mp z).resolve_left fun c => e c.symm⟩
theorem flat_strs (ns : List Str) : (ns.map V.str).all flatV = true := by
  rw [List.all_map]
  exact List.all_eq_true.mpr fun _ _ => rfl
def spWr (K : PySem.W.Frag) (B dep : Nat) : Sp := fun vs H Q _ => ∃ (x : V) (is : List It), vs = [x] ∧ Prg K B dep H x is ∧ Its.ps is ∧ (Its.w is).length ≤ 100000 ∧ ∀ H' l, Same H H' → H' l = some (.lst ((Its.w is).map V.str)) → Q (.ref l) H'
theorem scWr : FnScope ["items", "names", "kind", "first", "second"] ["items"] (defScope (topS 26)) := ⟨rfl, rfl, rfl, by decide +kernel, rfl, by decide +kernel, by decide +kernel⟩
theorem scCl : FnScope ["program", "size"] ["program"] (defScope (topS 18)) := ⟨rfl, rfl, rfl, by decide +kernel, rfl, by decide +kernel, by decide +kernel⟩
theorem scEx : FnScope ["program"] ["program"] (defScope (topS 16)) := ⟨rfl, rfl, rfl, by decide +kernel, rfl, by decide +kernel, by decide +kernel⟩
def spChk (K : PySem.W.Frag) (B dep : Nat) : Sp := fun vs H Q _ => ∃ (x : V) (is : List It), vs = [x] ∧ Prg K B dep H x is ∧ lenI is ≤ 2000 ∧ ∀ H', Same H H' → Q .non H'
def spExp (K : PySem.W.Frag) (B dep : Nat) : Sp := fun vs H Q _ => ∃ (x : V) (is : List It), vs = [x] ∧ Prg K B dep H x is ∧ Its.ps is ∧ (Its.w is).length ≤ 2000 ∧ ∀ H' a, Same H H' → H' a = some (.tup ((Its.w is).map V.str)) → Q (.ref a) H'
theorem rep_one (x : V) : ∀ n : Nat, (List.replicate n [x]).flatten = List.replicate n x
  | 0 => rfl
  | n + 1 => by
    rw [List.replicate_succ, List.flatten_cons, rep_one x n]
    rfl
theorem map_flat {α β : Type} (f : α → β) (l : List α) : ∀ n : Nat, (List.replicate n (l.map f)).flatten = ((List.replicate n l).flatten).map f
  | 0 => rfl
  | n + 1 => by
    rw [List.replicate_succ, List.flatten_cons, map_flat f l n, List.replicate_succ, List.flatten_cons, List.map_append]
section
variable {P : Program} {w : World} {K : PySem.W.Frag} {mg : Str → Option Value} {base : Heap} {f fO fN fT fA fL fW fC : Addr} {fd fdO fdN fdT fdA fdL fdW fdC : FuncData}
theorem scCk : FnScope ["program", "name"] ["program", "name"] (defScope (topS 17)) := ⟨rfl, rfl, rfl, by decide +kernel, rfl, by decide +kernel, by decide +kernel⟩
def spCln (K : PySem.W.Frag) (B dep : Nat) : Sp := fun vs H Q _ => ∃ (x : V) (is : List It) (n : Str), vs = [x, .str n] ∧ Prg K B dep H x is ∧ Its.nl is < 64 ∧ n ∈ linesI is ∧ ∀ H', Same H H' → Q .non H'
theorem ok_cln {B dep : Nat} (F : Fun K "check_line" "check_line" (topS 17) f fd)
    (GO : FnOk P w K mg base CX0 (dep + 2) fO fdO ["program"] (spLines K B dep)) (bO : Binds K fdO ["program"] []) (mO : mg "lines_of" = some (.ref fO)) (vO : PySem.W.keepIn K (.ref fO) = true) : FnOk P w K mg base CX0 (dep + 3) f fd ["program", "name"] (spCln K B dep) := by
  refine F.ok scCk (fun vs H Q E h => ?_) (fun cdv A outer s H vs Q E hr h => ?_)
  · obtain ⟨x, is, n, rfl, _⟩ := h
    rfl
  · obtain ⟨x, is, n, rfl, hp, h64, hin, q⟩ := h
    refine ⟨_, pss_one (ps_if (pt_cmpR op_notIn_seq (pv 1) (pe_call GO hr (by rfl) mO vO bO .nil pass0 (pa_cons (pv 0) pa_nil)) rfl) pss_dead pss_nil), ?_⟩
    refine ⟨_, rfl, _, rfl, x, is, rfl, hp, h64, fun H1 a s1 ha => ⟨a, _, rfl, .inr (.inl (.inl ha)), rfl, flat_strs _, _, rfl, ?_⟩⟩
    rw [in_strs, decide_eq_true hin]
    exact iteF (q H1 s1)
theorem ok_nth {B dep k : Nat} (F : Fun K "nth_tick" "nth_tick" (topS 15) f fd)
    (GO : FnOk P w K mg base CX0 (dep + 3) fO fdO ["program", "name"] (spCln K B dep)) (bO : Binds K fdO ["program", "name"] []) (mO : mg "check_line" = some (.ref fO)) (vO : PySem.W.keepIn K (.ref fO) = true)
    (GT : FnOk P w K mg base CX0 (dep + 2) fT fdT ["items", "name"] (spTks K B dep)) (bT : Binds K fdT ["items", "name"] []) (mT : mg "ticks_of" = some (.ref fT)) (vT : PySem.W.keepIn K (.ref fT) = true)
    (GN : FnOk P w K mg base CX0 2 fN fdN ["value", "least", "most"] (spIn K)) (bN : Binds K fdN ["value", "least", "most"] []) (mN : mg "is_integer_within" = some (.ref fN)) (vN : PySem.W.keepIn K (.ref fN) = true)
    (GA : FnOk P w K mg base CX0 k fA fdA ["items", "name", "number"] (spAhd K B dep)) (bA : Binds K fdA ["items", "name", "number"] []) (mA : mg "ticks_ahead" = some (.ref fA)) (vA : PySem.W.keepIn K (.ref fA) = true) (hk : dep + 3 ≤ k) :
    FnOk P w K mg base CX0 (k + 1) f fd ["program", "name", "number"] (spNth K B dep) := by
  refine F.ok scNt (fun vs H Q E h => ?_) (fun cdv A outer s H vs Q E hr h => ?_)
  · obtain ⟨x, is, n, num, rfl, _⟩ := h
    rfl
  · obtain ⟨x, is, n, num, rfl, hp, hps, h64, n0, n1, nw, q⟩ := h
    have hr2 : Room 2 _ := hr.mono (show 2 ≤ k by omega)
    have hrT : Room (dep + 2) _ := hr.mono (show dep + 2 ≤ k by omega)
    refine ⟨_, pss_cons (ps_expr (pe_call GO (hr.mono hk) (by rfl) mO vO bO .nil pass0 (pa_cons (pv 0) (pa_cons (pv 1) pa_nil))))
      (pss_cons (ps_if (pt_not (pt_val (pe_call GN hr2 (by rfl) mN vN bN .nil pass0 (pa_cons (pv 2) (pa_cons pe_int (pa_cons (pe_op op_sub (pe_call GT hrT (by rfl) mT vT bT .nil pass0 (pa_cons (pv 0) (pa_cons (pv 1) pa_nil))) pe_int) pa_nil)))))) pss_dead pss_nil)
      (pss_one (ps_ret (pe_call GA hr (by rfl) mA vA bA .nil pass0 (pa_cons (pv 0) (pa_cons (pv 1) (pa_cons (pv 2) pa_nil))))))), ?_⟩
    have hin : n ∈ linesI is := (lines_w hps).mpr (List.count_pos_iff.mp (by omega))
    refine ⟨_, rfl, _, rfl, x, is, n, rfl, hp, h64, hin, fun H1 s1 => ?_⟩
    refine ⟨_, rfl, _, rfl, _, rfl, x, is, n, rfl, hp.same s1, Its.ps_nn is hps, fun H2 s2 => ⟨_, _, rfl, rfl, .int num, .int num, 0, _, rfl, .int num, fun H3 s3 => ⟨_, rfl, ?_⟩⟩⟩
    have e : intD 0 ((((Its.w is).count n : Nat) : Int) - 1) (.int num) = true := by
      show (decide ((0 : Int) ≤ num) && decide (num ≤ (((Its.w is).count n : Nat) : Int) - 1)) = true
      rw [decide_eq_true n0, decide_eq_true (by omega)]
      rfl
    rw [e]
    refine iteF ?_
    have s13 := (s1.trans s2).trans s3
    exact ⟨_, rfl, _, rfl, _, rfl, x, is, n, num, rfl, hp.same s13, hps, n0, n1, nw, fun H' p s' hn => q H' p (s13.trans s') hn⟩
theorem wr_step {B dep k : Nat} {spR : Sp} (F : Fun K "written_out" "written_out" (topS 26) f fd) (b : Binds K fd ["items"] []) (m : mg "written_out" = some (.ref f))
    (GR : FnOk P w K mg base CX0 k f fd ["items"] spR) (hR : dep = 0 ∨ ∃ d, dep = d + 1 ∧ spR = spWr K B d) : FnOk P w K mg base CX0 (k + 1) f fd ["items"] (spWr K B dep) := by
  refine F.ok scWr (fun vs H Q E h => ?_) (fun cdv A outer s H vs Q E hr h => ?_)
  · obtain ⟨x, is, rfl, _⟩ := h
    rfl
  · obtain ⟨x, is, rfl, hp, hps, hw, q⟩ := h
    refine ⟨_, pss_cons (ps_set (i := 1) scWr.nd rfl (.inl rfl) (pe_lst pa_nil))
      (pss_cons (ps_for PassesOwn.never rfl (pi_tup (pv 0)) (pg_tup rfl (pgs_cons (pg_name (i := 2) scWr.nd rfl (.inl rfl)) (pgs_cons (pg_name (i := 3) scWr.nd rfl (.inl rfl)) (pgs_cons (pg_name (i := 4) scWr.nd rfl (.inl rfl)) pgs_nil))))
        (pss_one (ps_expr (pe_bm PySem.F.plainAttrs_list PySem.F.slot_list_extend PySem.F.type_list_extend mt_extend (pv 1) (pa_cons (pe_ifExp (pt_cmpR op_eq (pv 2) pe_str (nomark _)) (pe_op op_rep (pe_lst (pa_cons (pv 3) pa_nil)) (pv 4)) (pe_op op_rep (pe_call GR hr (by rfl) m F.kp b .nil pass0 (pa_cons (pv 4) pa_nil)) (pv 3))) pa_nil)))))
      (pss_one (ps_ret (pv 1)))), ?_⟩
    have y := sizeLine_eq
    obtain ⟨a, xs, rfl, hs, ha⟩ := da_prog hp.da
    have hxl := daAll_len ha
    rw [List.length_map] at hxl
    refine ⟨(by show 0 ≤ sizeLine; exact Nat.zero_le _), fun l nl => ?_⟩
    refine ⟨_, rfl, a, rfl, ⟨xs, seqT_mono (same_put nl) hs⟩, for_tup (K := K) (a := a) (xs := xs) (fun i σ' H' => ∃ y2 y3 y4 : Option V, σ' = [some (.ref a), some (.ref l), y2, y3, y4] ∧ Same H H' ∧ H' l = some (.lst ((Its.w (is.take i)).map V.str)))
      ⟨none, none, none, rfl, same_put nl, by rw [List.take_zero, Its.w]; exact upd_same⟩ (fun i σ' H' _ ⟨_, _, _, _, s', _⟩ => seqT_mono s' hs) ?_ ?_⟩
    · rintro i x' σ' H' hi ⟨y2, y3, y4, rfl, s', hl'⟩
      obtain ⟨d, hd', hx'⟩ := daAll_at (ha.mono s') hi
      rw [List.getElem?_map] at hd'
      obtain ⟨it, hit, rfl⟩ := Option.map_eq_some_iff.mp hd'
      have hmem := List.mem_of_getElem? hit
      have hpi := ps_mem hps hmem
      have hsum : (Its.w (is.take i)).length + (It.w it).length ≤ 100000 := by
        have z := congrArg List.length (w_at hit)
        rw [List.length_append, List.length_append] at z
        omega
      cases it with
      | line z t =>
        obtain ⟨b', rfl, hb'⟩ := da_line hx'
        rw [It.ps] at hpi
        rw [It.w, List.length_replicate] at hsum
        refine ⟨b', _, rfl, hb', rfl, _, _, rfl, _, _, rfl, _, _, rfl, rfl, ?_⟩
        refine ⟨_, rfl, .inl ⟨rfl, _, .inl (.inl hl')⟩, _, rfl, rfl, _, rfl, ?_⟩
        rw [dec_str]
        refine iteT ?_
        refine ⟨_, rfl, (by show 1 ≤ sizeLine; decide), fun l1 n1 => ⟨_, rfl, l1, t, [.str z], rfl, rfl, upd_same, by omega, by omega, by show 1 * t.toNat ≤ sizeLine; omega, fun l2 n2 => ?_⟩⟩
        have nll1 : l ≠ l1 := ne_of_none hl' n1
        have nll2 : l ≠ l2 := fun e => by
          rw [← e, upd_ne nll1, hl'] at n2
          cases n2
        have n2' : H' l2 = none := by
          by_cases e : l2 = l1
          · rw [e]
            exact n1
          · rw [upd_ne e] at n2
            exact n2
        refine ⟨l, l2, _, _, rfl, rfl, by rw [upd_ne nll2, upd_ne nll1]; exact hl', upd_same, ?_, ?_⟩
        · rw [List.length_map, rep_one, List.length_replicate]
          omega
        · refine ⟨_, _, _, rfl, fun c o e => ?_, ?_⟩
          · rw [upd_ne (ne_of_none e nl), upd_ne (ne_of_none (s' _ _ e) n2'), upd_ne (ne_of_none (s' _ _ e) n1)]
            exact s' _ _ e
          · rw [upd_same, w_take hit, It.w, List.map_append, rep_one, List.map_replicate]
      | loop r js =>
        obtain ⟨d', rfl, hsp⟩ : ∃ d', dep = d' + 1 ∧ spR = spWr K B d' := by
          rcases hR with h | h
          · subst h
            exact (hp.ok _ hmem).elim
          · exact h
        subst hsp
        obtain ⟨k0, k1, hokj⟩ : 0 ≤ r ∧ r < (2 ^ B : Nat) ∧ ∀ i ∈ js, Okp B d' i := hp.ok _ hmem
        obtain ⟨b', v4, rfl, hb', hv4⟩ := da_loop hx'
        rw [It.ps] at hpi
        have hpos := Its.w_pos js hpi.2.1 hpi.2.2
        rw [It.w, flat_len] at hsum
        have r1 : 1 ≤ r.toNat := by omega
        have hj : (Its.w js).length ≤ r.toNat * (Its.w js).length := Nat.le_mul_of_pos_left _ r1
        have hrr : r.toNat ≤ r.toNat * (Its.w js).length := Nat.le_mul_of_pos_right _ hpos
        have hnl : Its.nl js ≤ 100000 := by
          have z := Its.nl_mem hmem
          rw [It.nl] at z
          exact Nat.le_trans z hp.few
        refine ⟨b', _, rfl, hb', rfl, _, _, rfl, _, _, rfl, _, _, rfl, rfl, ?_⟩
        refine ⟨_, rfl, .inl ⟨rfl, _, .inl (.inl hl')⟩, _, rfl, rfl, _, rfl, ?_⟩
        rw [dec_ll]
        refine iteF ?_
        refine ⟨_, rfl, v4, js, rfl, ⟨hv4, hokj, hnl⟩, hpi.2.2, by omega, fun H1 l1 s1 e1 => ⟨_, rfl, l1, r, _, rfl, rfl, e1, by omega, by omega, by rw [List.length_map, Nat.mul_comm]; omega, fun l2 n2 => ?_⟩⟩
        have hl1 := s1 _ _ hl'
        have nll2 : l ≠ l2 := ne_of_none hl1 n2
        refine ⟨l, l2, _, _, rfl, rfl, by rw [upd_ne nll2]; exact hl1, upd_same, ?_, ?_⟩
        · rw [List.length_map, map_flat, List.length_map, flat_len]
          omega
        · refine ⟨_, _, _, rfl, fun c o e => ?_, ?_⟩
          · rw [upd_ne (ne_of_none e nl), upd_ne (ne_of_none (s1 _ _ (s' _ _ e)) n2)]
            exact s1 _ _ (s' _ _ e)
          · rw [upd_same, w_take hit, It.w, List.map_append, map_flat]
    · rintro σ' H' ⟨y2, y3, y4, rfl, s', hl'⟩
      rw [hxl, List.take_length] at hl'
      exact ⟨_, rfl, q H' l s' hl'⟩
theorem ok_wr {B : Nat} (F : Fun K "written_out" "written_out" (topS 26) f fd) (b : Binds K fd ["items"] []) (m : mg "written_out" = some (.ref f)) : ∀ dep : Nat, FnOk P w K mg base CX0 (dep + 1) f fd ["items"] (spWr K B dep)
  | 0 => wr_step F b m no_fn (.inl rfl)
  | d + 1 => wr_step F b m (ok_wr F b m d) (.inr ⟨d, rfl, rfl⟩)
theorem ok_chk {B dep : Nat} {t : Tok} (F : Fun K "check_length" "check_length" (topS 18) f fd) (GL : FnOk P w K mg base CX0 (dep + 2) fL fdL ["program"] (spLen K B dep)) (bL : Binds K fdL ["program"] []) (mL : mg "length" = some (.ref fL)) (vL : PySem.W.keepIn K (.ref fL) = true)
    (gM : mg "LONGEST" = some (.int 2000 t)) : FnOk P w K mg base CX0 (dep + 3) f fd ["program"] (spChk K B dep) := by
  refine F.ok scCl (fun vs H Q E h => ?_) (fun cdv A outer s H vs Q E hr h => ?_)
  · obtain ⟨x, is, rfl, _⟩ := h
    rfl
  · obtain ⟨x, is, rfl, hp, hle, q⟩ := h
    refine ⟨_, pss_cons (ps_set (i := 1) scCl.nd rfl (.inl rfl) (pe_call GL hr (by rfl) mL vL bL .nil pass0 (pa_cons (pv 0) pa_nil)))
      (pss_one (ps_if (pt_cmpR op_gt (pv 1) (pe_glob (v := .int 2000) rfl gM ⟨_, rfl⟩) (nomark _)) pss_dead pss_nil)), ?_⟩
    refine ⟨_, rfl, x, is, rfl, hp, fun H1 s1 => ⟨_, rfl, _, _, rfl, rfl, _, rfl, ?_⟩⟩
    rw [show decide ((2000 : Int) < lenI is) = false from decide_eq_false (by omega)]
    exact iteF (q H1 s1)
theorem ok_exp {B dep : Nat} (F : Fun K "expanded" "expanded" (topS 16) f fd) (GC : FnOk P w K mg base CX0 (dep + 3) fC fdC ["program"] (spChk K B dep)) (bC : Binds K fdC ["program"] []) (mC : mg "check_length" = some (.ref fC)) (vC : PySem.W.keepIn K (.ref fC) = true)
    (GW : FnOk P w K mg base CX0 (dep + 1) fW fdW ["items"] (spWr K B dep)) (bW : Binds K fdW ["items"] []) (mW : mg "written_out" = some (.ref fW)) (vW : PySem.W.keepIn K (.ref fW) = true) (mt : mg "tuple" = none) :
    FnOk P w K mg base CX0 (dep + 4) f fd ["program"] (spExp K B dep) := by
  refine F.ok scEx (fun vs H Q E h => ?_) (fun cdv A outer s H vs Q E hr h => ?_)
  · obtain ⟨x, is, rfl, _⟩ := h
    rfl
  · obtain ⟨x, is, rfl, hp, hps, hle, q⟩ := h
    have hrW : Room (dep + 1) _ := hr.mono (show dep + 1 ≤ dep + 3 by omega)
    refine ⟨_, pss_cons (ps_expr (pe_call GC hr (by rfl) mC vC bC .nil pass0 (pa_cons (pv 0) pa_nil)))
      (pss_one (ps_ret (pe_callTy call_tuple_of (by rfl) mt (by decide +kernel) (pa_cons (pe_call GW hrW (by rfl) mW vW bW .nil pass0 (pa_cons (pv 0) pa_nil)) pa_nil)))), ?_⟩
    refine ⟨_, rfl, x, is, rfl, hp, by rw [len_w (Its.ps_nn is hps)]; omega, fun H1 s1 => ?_⟩
    refine ⟨_, rfl, x, is, rfl, hp.same s1, hps, by omega, fun H2 l s2 hl => ⟨l, _, rfl, .inl ⟨.inl (.inl hl), fun a na => q _ a ((s1.trans s2).trans (same_put na)) upd_same⟩⟩⟩
end
end Ev

/-! ## What the script is drawn from -/
namespace Ev
open PySem PySem.Spec PyProof.Rows L2
abbrev sPot : Stmt := topS 28
abbrev sTake : Stmt := topS 29
abbrev sOf : Stmt := topS 30
abbrev sNames : Stmt := topS 31
abbrev sItems : Stmt := topS 32
theorem scPot : FnScope ["_law_script", "_law_k", "_law_cell", "_law_own"] ["_law_script", "_law_k"] (defScope sPot) :=
  ⟨rfl, rfl, rfl, by decide +kernel, rfl, by decide +kernel, by decide +kernel⟩
theorem scTake : FnScope ["_law_pot_here", "_law_many", "_law_digit", "_law_prime", "_law_mixed"] ["_law_pot_here", "_law_many"] (defScope sTake) :=
  ⟨rfl, rfl, rfl, by decide +kernel, rfl, by decide +kernel, by decide +kernel⟩
theorem scOf : FnScope ["_law_pot_here", "_law_some"] ["_law_pot_here", "_law_some"] (defScope sOf) :=
  ⟨rfl, rfl, rfl, by decide +kernel, rfl, by decide +kernel, by decide +kernel⟩

def spPot (K : PySem.W.Frag) : Sp := fun vs H Q _ => ∃ (a : Addr) (ns : List Int) (k : Int), vs = [.ref a, .int k] ∧ SqL K H a (ns.map V.int) ∧
  0 ≤ k ∧ k ≤ 1000 ∧ ∀ p xs, H p = none → PotL 0 xs → Q (.ref p) (upd H p (.lst xs))
def spTake : Sp := fun vs H Q _ => ∃ (p : Addr) (xs : List V) (m : Int) (n : Nat), vs = [.ref p, .int m] ∧ H p = some (.lst xs) ∧ PotL n xs ∧ n ≤ 1000000 ∧
  0 < m ∧ m.natAbs.log2 < 9000 ∧ ∀ H' ys d, Bu p H H' → H' p = some (.lst ys) → PotL (n + 1) ys → 0 ≤ d → d < m → Q (.int d) H'
def spOf (K : PySem.W.Frag) : Sp := fun vs H Q _ => ∃ (p q : Addr) (xs zs : List V) (n : Nat), vs = [.ref p, .ref q] ∧ H p = some (.lst xs) ∧ PotL n xs ∧ n ≤ 1000000 ∧
  p ≠ q ∧ SqL K H q zs ∧ zs ≠ [] ∧ zs.length ≤ 1000000 ∧ ∀ H' ys v, Bu p H H' → H' p = some (.lst ys) → PotL (n + 1) ys → v ∈ zs → Q v H'
theorem bigPos : (0 : Int) < (10 ^ (50 : Int).toNat) ^ (8 : Int).toNat := by decide +kernel
section
variable {P : Program} {w : World} {K : PySem.W.Frag} {mg : Str → Option Value} {base : Heap}
theorem ok_pot {f : Addr} {fd : FuncData} {k : Nat} (F : Fun K "_law_pot" "_law_pot" sPot f fd) (ml : mg "len" = none) (ma : mg "abs" = none) (mi : mg "int" = none) :
    FnOk P w K mg base CX0 (k + 1) f fd ["_law_script", "_law_k"] (spPot K) := by
  refine F.ok scPot (fun vs H Q E h => ?_) (fun cdv A outer s H vs Q E hr h => ?_)
  · obtain ⟨a, ns, k, rfl, _⟩ := h
    rfl
  · obtain ⟨a, ns, k, rfl, hS, k0, k1, q⟩ := h
    refine ⟨_, pss_cons (ps_set (i := 2) scPot.nd rfl (.inl rfl) (pe_op op_add (pe_op op_mul pe_int (pv 1)) pe_int))
      (pss_cons (ps_if (pt_cmpR op_lt (pv 1) (pe_callB call_len_seq (by rfl) ml PySem.boot_len (pa_cons (pv 0) pa_nil)) (nomark _))
        (pss_one (ps_set (i := 2) scPot.nd rfl (.inl rfl) (pe_ix ix_list (pv 0) (pv 1) (fun _ _ => rfl)))) pss_nil)
      (pss_cons (ps_set (i := 3) scPot.nd rfl (.inl rfl) (pe_op op_mul
        (pe_op op_mod (pe_callB call_abs (by rfl) ma (by decide +kernel) (pa_cons (pv 2) pa_nil)) (pe_op op_powG (pe_op op_pow pe_int pe_int) pe_int))
        (pe_callTy call_int1 (by rfl) mi (by decide +kernel) (pa_cons (pe_cmpR op_ge (pe_callB call_abs (by rfl) ma (by decide +kernel) (pa_cons (pv 2) pa_nil)) (pe_op op_pow pe_int pe_int) (nomark _)) pa_nil))))
      (pss_one (ps_ret (pe_lst (pa_cons (pv 3) (pa_cons
        (pe_op op_mod (pe_op op_add (pe_op op_add (pe_op op_mul (pe_op op_mod (pv 2) pe_int) pe_int) (pe_op op_mul (pe_op op_mul pe_int (pv 1)) (pv 1))) pe_int) pe_int)
        (pa_cons pe_int pa_nil)))))))), ?_⟩
    refine ⟨_, rfl, 29, k, rfl, rfl, .inl ⟨by decide, by decide⟩, _, _, rfl, rfl, ?_⟩
    refine ⟨_, rfl, _, rfl, a, _, rfl, .inl hS, k, _, rfl, rfl, _, rfl, ite2 (fun e => ?_) (fun e => ?_)⟩
    · have hk : k < ((ns.map V.int).length : Int) := of_decide_eq_true e
      rw [List.length_map] at hk
      have hk' : k.toNat < ns.length := by omega
      have g : atI (ns.map V.int) k = some (.int ns[k.toNat]) := by
        have z : (ns.map V.int)[k.toNat]? = some (.int ns[k.toNat]) := by
          rw [List.getElem?_map, List.getElem?_eq_getElem hk']
          rfl
        have y := atI_nat z
        rw [Int.toNat_of_nonneg k0] at y
        exact y
      refine ⟨_, rfl, _, rfl, a, _, k, _, rfl, rfl, hS, g, ?_⟩
      refine ⟨_, rfl, _, rfl, 10, 50, rfl, rfl, ⟨by decide, by decide, by decide⟩, _, 8, rfl, rfl, ⟨by decide, by decide +kernel⟩, _, _, rfl, rfl, bigPos, ?_⟩
      refine ⟨_, rfl, _, rfl, 10, 18, rfl, rfl, ⟨by decide, by decide, by decide⟩, _, _, rfl, rfl, .inr ⟨_, rfl, _, _, rfl, rfl, .inr (flag_in _), ?_⟩⟩
      refine ⟨_, rfl, _, rfl, _, _, rfl, rfl, (show (0 : Int) < 2305843009213693951 by decide), _, _, rfl, rfl, .inr ⟨by decide, by decide⟩, _, rfl, _, _, rfl, rfl, .inl ⟨by decide, by decide⟩, _, rfl, _, _, rfl, rfl, .inr ⟨by omega, by omega⟩, ?_⟩
      refine ⟨_, _, rfl, rfl, _, _, rfl, rfl, _, _, rfl, rfl, (show (0 : Int) < 2305843009213693921 by decide), (by show 3 ≤ sizeLine; decide), fun p np => q p _ np ?_⟩
      exact ⟨_, _, 0, rfl, own_nn _ _ _ bigPos, Int.emod_nonneg _ (by decide), Int.emod_lt_of_pos _ (by decide), Int.le_refl 0, by decide⟩
    · refine ⟨_, rfl, _, rfl, 10, 50, rfl, rfl, ⟨by decide, by decide, by decide⟩, _, 8, rfl, rfl, ⟨by decide, by decide +kernel⟩, _, _, rfl, rfl, bigPos, ?_⟩
      refine ⟨_, rfl, _, rfl, 10, 18, rfl, rfl, ⟨by decide, by decide, by decide⟩, _, _, rfl, rfl, .inr ⟨_, rfl, _, _, rfl, rfl, .inr (flag_in _), ?_⟩⟩
      refine ⟨_, rfl, _, rfl, _, _, rfl, rfl, (show (0 : Int) < 2305843009213693951 by decide), _, _, rfl, rfl, .inr ⟨by decide, by decide⟩, _, rfl, _, _, rfl, rfl, .inl ⟨by decide, by decide⟩, _, rfl, _, _, rfl, rfl, .inr ⟨by omega, by omega⟩, ?_⟩
      refine ⟨_, _, rfl, rfl, _, _, rfl, rfl, _, _, rfl, rfl, (show (0 : Int) < 2305843009213693921 by decide), (by show 3 ≤ sizeLine; decide), fun p np => q p _ np ?_⟩
      exact ⟨_, _, 0, rfl, own_nn _ _ _ bigPos, Int.emod_nonneg _ (by decide), Int.emod_lt_of_pos _ (by decide), Int.le_refl 0, by decide⟩
/-- a pot's third number is bounded -/
theorem ok_take {f : Addr} {fd : FuncData} {k : Nat} (F : Fun K "_law_take" "_law_take" sTake f fd) :
    FnOk P w K mg base CX0 (k + 1) f fd ["_law_pot_here", "_law_many"] spTake := by
  refine F.ok scTake (fun vs H Q E h => ?_) (fun cdv A outer s H vs Q E hr h => ?_)
  · obtain ⟨p, xs, m, n, rfl, _⟩ := h
    rfl
  · obtain ⟨p, xs, m, n, rfl, hp, ⟨x, y, c, rfl, x0, y0, y1, c0, c1⟩, hn, m0, m1, q⟩ := h
    have hL : SqL K H p [.int x, .int y, .int c] := .inl (.inl hp)
    refine ⟨_, pss_cons (ps_if (pt_cmpR op_gt (pe_ix ix_list (pv 0) pe_int (fun _ _ => rfl)) pe_int (nomark _))
        (pss_cons (ps_set (i := 2) scTake.nd rfl (.inl rfl) (pe_op op_mod (pe_ix ix_list (pv 0) pe_int (fun _ _ => rfl)) (pv 1)))
        (pss_cons (ps_asg (pe_op op_fdivW (pe_ix ix_list (pv 0) pe_int (fun _ _ => rfl)) (pv 1)) (pg_sub (pv 0) pe_int set_list))
        (pss_one (ps_ret (pv 2))))) pss_nil)
      (pss_cons (ps_asg (pe_op op_add (pe_ix ix_list (pv 0) pe_int (fun _ _ => rfl)) pe_int) (pg_sub (pv 0) pe_int set_list))
      (pss_cons (ps_set (i := 3) scTake.nd rfl (.inl rfl) (pe_ix ix_list (pe_lst (pa_cons pe_int (pa_cons pe_int (pa_cons pe_int (pa_cons pe_int (pa_cons pe_int pa_nil))))))
        (pe_op op_mod (pe_ix ix_list (pv 0) pe_int (fun _ _ => rfl)) pe_int) (fun _ _ => rfl)))
      (pss_cons (ps_set (i := 4) scTake.nd rfl (.inl rfl) (pe_op op_mod (pe_op op_pow (pe_op op_add (pe_op op_add (pe_ix ix_list (pv 0) pe_int (fun _ _ => rfl))
          (pe_op op_mul (pe_op op_mul pe_int (pe_ix ix_list (pv 0) pe_int (fun _ _ => rfl))) (pe_ix ix_list (pv 0) pe_int (fun _ _ => rfl)))) pe_int) pe_int) (pv 3)))
      (pss_one (ps_ret (pe_op op_mod (pe_op op_fdivW (pe_op op_mod (pe_op op_mulW (pv 4) (pe_op op_add (pe_op op_mod (pv 4) pe_int) (pe_op op_mul pe_int (pe_ix ix_list (pv 0) pe_int (fun _ _ => rfl))))) pe_int) pe_int) (pv 1))))))), ?_⟩
    refine ⟨_, rfl, p, _, 0, .int x, rfl, rfl, hL, rfl, _, _, rfl, rfl, _, rfl, ite2 (fun e => ?_) (fun e => ?_)⟩
    · have hx : 0 < x := of_decide_eq_true e
      refine ⟨_, rfl, p, _, 0, .int x, rfl, rfl, hL, rfl, _, rfl, _, _, rfl, rfl, m0, ?_⟩
      refine ⟨_, rfl, p, _, 0, .int x, rfl, rfl, hL, rfl, _, rfl, _, _, rfl, rfl, ⟨m0, m1⟩, _, rfl, p, _, 0, 0, rfl, rfl, hp, rfl, _, rfl, ?_⟩
      exact q _ _ _ Bu.put upd_same ⟨_, _, _, rfl, Int.ediv_nonneg x0 (Int.le_of_lt m0), y0, y1, c0, by omega⟩ (Int.emod_nonneg _ (by omega)) (Int.emod_lt_of_pos _ m0)
    · refine ⟨_, rfl, p, _, 2, .int c, rfl, rfl, hL, rfl, _, _, rfl, rfl, _, rfl, p, _, 2, 2, rfl, rfl, hp, rfl, ?_⟩
      have c0' : 0 ≤ c + 1 := by omega
      have c1' : c + 1 ≤ 1000001 := by omega
      refine ⟨(by show 5 ≤ sizeLine; decide), fun t nt => ?_⟩
      have npt : p ≠ t := fun z => by
        rw [← z, upd_same] at nt
        cases nt
      let H2 : Hp := upd (upd H p (.lst [.int x, .int y, .int (c + 1)])) t (.lst [.int 2147483647, .int 2147483629, .int 2147483587, .int 2147483579, .int 2147483563])
      have h2 : H2 p = some (.lst [.int x, .int y, .int (c + 1)]) := by
        show upd _ t _ p = _
        rw [upd_ne npt, upd_same]
      have hL2 : SqL K H2 p [.int x, .int y, .int (c + 1)] := .inl (.inl h2)
      have hb : Bu p H H2 := Bu.trans Bu.put (Bu.new nt)
      have hT : SqL K H2 t [.int 2147483647, .int 2147483629, .int 2147483587, .int 2147483579, .int 2147483563] := .inl (.inl upd_same)
      obtain ⟨pr, hpr, p1, p2⟩ : ∃ pr : Int, atI [V.int 2147483647, .int 2147483629, .int 2147483587, .int 2147483579, .int 2147483563] ((c + 1) % 5) = some (.int pr) ∧ 0 < pr ∧ pr < 2147483648 := by
        have r0 : 0 ≤ (c + 1) % 5 := Int.emod_nonneg _ (by decide)
        have r1 : (c + 1) % 5 < 5 := Int.emod_lt_of_pos _ (by decide)
        generalize (c + 1) % 5 = r at r0 r1
        have : r = 0 ∨ r = 1 ∨ r = 2 ∨ r = 3 ∨ r = 4 := by omega
        rcases this with rfl | rfl | rfl | rfl | rfl
        · exact ⟨_, rfl, by decide, by decide⟩
        · exact ⟨_, rfl, by decide, by decide⟩
        · exact ⟨_, rfl, by decide, by decide⟩
        · exact ⟨_, rfl, by decide, by decide⟩
        · exact ⟨_, rfl, by decide, by decide⟩
      refine ⟨_, rfl, p, _, 2, .int (c + 1), rfl, rfl, hL2, rfl, _, _, rfl, rfl, (show (0 : Int) < 5 by decide), t, _, _, _, rfl, rfl, hT, hpr, ?_⟩
      -- mixed
      have m3 : 0 ≤ 98299 * (c + 1) := by omega
      have m4 : 98299 * (c + 1) * (c + 1) ≤ 98299 * 1000001 * 1000001 :=
        Int.mul_le_mul (Int.mul_le_mul_of_nonneg_left c1' (by decide)) c1' c0' (by decide)
      have m5 : 0 ≤ 98299 * (c + 1) * (c + 1) := Int.mul_nonneg m3 c0'
      refine ⟨_, rfl, p, _, 1, .int y, rfl, rfl, hL2, rfl, _, rfl, p, _, 2, .int (c + 1), rfl, rfl, hL2, rfl, _, _, rfl, rfl, .inl ⟨by decide, by decide⟩, _, rfl, p, _, 2, .int (c + 1), rfl, rfl, hL2, rfl, _, _, rfl, rfl, .inr ⟨by omega, by omega⟩, ?_⟩
      have pb : CPow (y + 98299 * (c + 1) * (c + 1) + 29) 3 := ⟨by decide, by decide, by omega⟩
      refine ⟨_, _, rfl, rfl, _, _, rfl, rfl, _, _, rfl, rfl, pb, _, rfl, _, _, rfl, rfl, p1, ?_⟩
      have u0 : 0 ≤ (y + 98299 * (c + 1) * (c + 1) + 29) ^ (3 : Int).toNat % pr := Int.emod_nonneg _ (by omega)
      have u1 : (y + 98299 * (c + 1) * (c + 1) + 29) ^ (3 : Int).toNat % pr < pr := Int.emod_lt_of_pos _ p1
      have fin := fun d => q H2 _ d hb h2 ⟨x, y, c + 1, rfl, x0, y0, y1, c0', by omega⟩
      show gName 4 (V.int ((y + 98299 * (c + 1) * (c + 1) + 29) ^ (3 : Int).toNat % pr)) _ _ _
      generalize (y + 98299 * (c + 1) * (c + 1) + 29) ^ (3 : Int).toNat % pr = u at u0 u1 ⊢
      have v0 : 0 ≤ u % 10007 := Int.emod_nonneg _ (by decide)
      have v1 : u % 10007 < 10007 := Int.emod_lt_of_pos _ (by decide)
      refine ⟨_, rfl, _, rfl, _, _, rfl, rfl, (show (0 : Int) < 10007 by decide), _, rfl, p, _, 2, .int (c + 1), rfl, rfl, hL2, rfl, _, _, rfl, rfl, .inl ⟨by decide, by decide⟩, _, _, rfl, rfl, ?_⟩
      refine ⟨_, _, rfl, rfl, wide_mul (a := 40) (b := 40) (by omega) (by omega) (by decide) (by decide) (by decide), _, _, rfl, rfl, (show (0 : Int) < 2305843009213693907 by decide), _, _, rfl, rfl, ⟨by decide, by decide +kernel⟩, _, rfl, _, _, rfl, rfl, m0, ?_⟩
      exact fin _ (Int.emod_nonneg _ (by omega)) (Int.emod_lt_of_pos _ m0)
theorem ok_of {f fT : Addr} {fd fdT : FuncData} (F : Fun K "_law_of" "_law_of" sOf f fd) (FT : Fun K "_law_take" "_law_take" sTake fT fdT) (bT : Binds K fdT ["_law_pot_here", "_law_many"] [])
    (gT : mg "_law_take" = some (.ref fT)) (ml : mg "len" = none) :
    FnOk P w K mg base CX0 2 f fd ["_law_pot_here", "_law_some"] (spOf K) := by
  have GT : FnOk P w K mg base CX0 1 fT fdT ["_law_pot_here", "_law_many"] spTake := ok_take FT
  refine F.ok scOf (fun vs H Q E h => ?_) (fun cdv A outer s H vs Q E hr h => ?_)
  · obtain ⟨p, r, xs, zs, n, rfl, _⟩ := h
    rfl
  · obtain ⟨p, r, xs, zs, n, rfl, hp, hx, hn, ne, hS, z0, z1, q⟩ := h
    refine ⟨_, pss_one (ps_ret (pe_ix ix_list (pv 1) (pe_call GT hr (by rfl) gT FT.kp bT .nil pass0 (pa_cons (pv 0) (pa_cons (pe_callB call_len_seq (by rfl) ml PySem.boot_len (pa_cons (pv 1) pa_nil)) pa_nil))) (fun _ _ => rfl))), ?_⟩
    have hz : 0 < zs.length := by
      cases zs with
      | nil => exact absurd rfl z0
      | cons _ _ => exact Nat.succ_pos _
    have hlog : ((zs.length : Nat) : Int).natAbs.log2 < 9000 := by
      rw [Int.natAbs_natCast]
      exact Nat.lt_of_lt_of_le (PySem.Flt.log2_lt_of (show 0 < 20 by decide) (show zs.length < 2 ^ 20 by omega)) (by decide)
    refine ⟨_, rfl, _, rfl, _, rfl, r, zs, rfl, .inl hS, p, xs, _, n, rfl, hp, hx, hn, by omega, hlog, fun H' ys d hb hy hY d0 d1 => ?_⟩
    have hd : d.toNat < zs.length := by omega
    have hS' : SqL K H' r zs := by
      rcases hS with (e | ⟨o, e⟩) | e
      · exact .inl (.inl (hb _ _ (Ne.symm ne) e))
      · exact .inl (.inr ⟨o, hb _ _ (Ne.symm ne) e⟩)
      · exact .inr e
    have g : atI zs d = some zs[d.toNat] := by
      have y := atI_nat (List.getElem?_eq_getElem hd)
      rw [Int.toNat_of_nonneg d0] at y
      exact y
    exact ⟨r, zs, d, _, rfl, rfl, hS', g, q H' ys _ hb hy hY (List.getElem_mem hd)⟩
end
/-! ### names -/
def pool8 : List Str := ["a", "b", "idle", "line", "loop", "x", "zzzzzzzz", "abcdefgh"]
theorem scNames : FnScope ["_law_pot_here", "_law_many", "_law_pool", "_law_turn"] ["_law_pot_here", "_law_many"] (defScope sNames) :=
  ⟨rfl, rfl, rfl, by decide +kernel, rfl, by decide +kernel, by decide +kernel⟩
def spNames : Sp := fun vs H Q _ => ∃ (p : Addr) (xs : List V) (m n : Nat), vs = [.ref p, .int (m : Nat)] ∧ H p = some (.lst xs) ∧ PotL n xs ∧ n + m ≤ 1000000 ∧ m ≤ 8 ∧
  ∀ (H' : Hp) (ys : List V) (q : Addr) (ns : List Str), Bu p H H' → H' p = some (.lst ys) → PotL (n + m) ys → H q = none → q ≠ p → H' q = some (.lst (ns.map V.str)) → ns.length = m → ns.Nodup → (∀ x ∈ ns, x ∈ pool8) → Q (.ref q) H'
theorem perm_erase {α : Type} : ∀ (l : List α) (k : Nat) (h : k < l.length), List.Perm ([l[k]] ++ l.eraseIdx k) l
  | [], _, h => by simp at h
  | x :: l, 0, _ => .refl _
  | x :: l, k + 1, h => by
    have h' : k < l.length := by simpa using h
    have z := perm_erase l k h'
    show List.Perm (l[k] :: x :: l.eraseIdx k) (x :: l)
    exact (List.Perm.swap x l[k] _).trans (z.cons x)
theorem map_erase {α β : Type} (f : α → β) : ∀ (l : List α) (k : Nat), (l.eraseIdx k).map f = (l.map f).eraseIdx k
  | [], _ => rfl
  | _ :: _, 0 => rfl
  | x :: l, k + 1 => by
    show f x :: (l.eraseIdx k).map f = f x :: (l.map f).eraseIdx k
    rw [map_erase f l k]
theorem perm_pop {α : Type} {acc pl : List α} {k : Nat} (h : k < pl.length) : List.Perm ((acc ++ [pl[k]]) ++ pl.eraseIdx k) (acc ++ pl) := by
  rw [List.append_assoc]
  exact List.Perm.append_left acc (perm_erase pl k h)
section
variable {P : Program} {w : World} {K : PySem.W.Frag} {mg : Str → Option Value} {base : Heap}
theorem ok_names {f fT : Addr} {fd fdT : FuncData} (F : Fun K "_law_names" "_law_names" sNames f fd) (FT : Fun K "_law_take" "_law_take" sTake fT fdT) (bT : Binds K fdT ["_law_pot_here", "_law_many"] [])
    (gT : mg "_law_take" = some (.ref fT)) (ml : mg "len" = none) (mR : mg "range" = none) :
    FnOk P w K mg base CX0 2 f fd ["_law_pot_here", "_law_many"] spNames := by
  have GT : FnOk P w K mg base CX0 1 fT fdT ["_law_pot_here", "_law_many"] spTake := ok_take FT
  refine F.ok scNames (fun vs H Q E h => ?_) (fun cdv A outer s H vs Q E hr h => ?_)
  · obtain ⟨p, xs, m, n, rfl, _⟩ := h
    rfl
  · obtain ⟨p, xs, m, n, rfl, hp, hx, hn, hm, q⟩ := h
    refine ⟨_, pss_cons (ps_set (i := 2) scNames.nd rfl (.inr rfl) (pe_lst (pa_cons pe_str (pa_cons pe_str (pa_cons pe_str (pa_cons pe_str (pa_cons pe_str (pa_cons pe_str (pa_cons pe_str (pa_cons pe_str pa_nil))))))))))
      (pss_one (ps_ret (pe_lc (own := [("_law_turn", 3)]) (g := gName 3) (tt := tYes) (te := tBM K "list" rPopAt (tVar 2) (tCons (tCall spTake [] E0 (tCons (tVar 0) (tCons (tCB (rLenK K) (tCons (tVar 2) tNil)) tNil))) tNil)) rfl scNames.nd (pi_range1 rfl mR (pa_cons (pv 1) pa_nil)) (blkOk_by (N := ["_law_pot_here", "_law_many", "_law_pool", "_law_turn"]) (sc := defScope sNames) (by decide +kernel))
        (fun _ _ _ _ _ => pg_name (i := 3) scNames.nd rfl (Or.inl rfl)) (fun _ _ _ _ _ => pts_nil)
        (fun _ _ _ _ _ => pe_bm PySem.F.plainAttrs_list PySem.F.slot_list_pop PySem.F.type_list_pop mt_popAt (pv 2)
          (pa_cons (pe_call GT hr (by rfl) gT FT.kp bT .nil pass0 (pa_cons (pv 0) (pa_cons (pe_callB call_len_seq (by rfl) ml PySem.boot_len (pa_cons (pv 2) pa_nil)) pa_nil))) pa_nil))))), ?_⟩
    refine ⟨(by show 8 ≤ sizeLine; decide), fun r nr => ?_⟩
    have npr : p ≠ r := ne_of_none hp nr
    refine ⟨_, rfl, (m : Nat), rfl, by omega, by omega, fun D nD => ?_⟩
    have npD : p ≠ D := fun z => by
      rw [← z, upd_ne npr, hp] at nD
      cases nD
    have nrD : r ≠ D := fun z => by
      rw [← z, upd_same] at nD
      cases nD
    have nHD : H D = none := by
      rw [upd_ne nrD.symm] at nD
      exact nD
    rw [Int.toNat_natCast]
    have y := sizeLine_eq
    refine lc_range (lo := 0) (n := m) (fun i H' => ∃ (ys : List V) (pl acc : List Str), H' p = some (.lst ys) ∧ PotL (n + i) ys ∧ H' r = some (.lst (pl.map V.str)) ∧ H' D = some (.lst (acc.map V.str)) ∧ acc.length = i ∧
        List.Perm (acc ++ pl) pool8 ∧ Bu p H H') ⟨xs, pool8, [], by rw [upd_ne npD, upd_ne npr]; exact hp, hx, by rw [upd_ne nrD]; exact upd_same, upd_same, rfl, .refl _, fun b o nb e => ?_⟩ ?_ ?_
    · rw [upd_ne (ne_of_none e nHD), upd_ne (ne_of_none e nr)]
      exact e
    · rintro i H' hi ⟨ys, pl, acc, hp', hx', hr', hD', hl', pm, hb'⟩
      have hpl : pl.length = 8 - i := by
        have z := pm.length_eq
        rw [List.length_append, hl'] at z
        have z8 : pool8.length = 8 := rfl
        omega
      have hlog : (((pl.map V.str).length : Nat) : Int).natAbs.log2 < 9000 := by
        rw [Int.natAbs_natCast, List.length_map]
        exact Nat.lt_of_lt_of_le (PySem.Flt.log2_lt_of (show 0 < 20 by decide) (show pl.length < 2 ^ 20 by omega)) (by decide)
      refine ⟨rfl, ?_⟩
      refine ⟨_, rfl, .inl ⟨rfl, _, .inl (.inl hr')⟩, _, rfl, _, rfl, r, _, rfl, .inl (.inl (.inl hr')), p, ys, _, n + i, rfl, hp', hx', by omega, by rw [List.length_map]; omega, hlog, fun H4 zs d hb hz hZ d0 d1 => ?_⟩
      rw [List.length_map] at d1
      have hd : d.toNat < pl.length := by omega
      have hr4 : H4 r = some (.lst (pl.map V.str)) := hb _ _ npr.symm hr'
      have hD4 : H4 D = some (.lst (acc.map V.str)) := hb _ _ npD.symm hD'
      have g1 : seqIndex? d (pl.map V.str).length = some d.toNat := by
        rw [List.length_map]
        exact seq_nn d0 (by omega)
      have g2 : (pl.map V.str)[d.toNat]? = some (.str pl[d.toNat]) := by
        rw [List.getElem?_map, List.getElem?_eq_getElem hd]
        rfl
      refine ⟨r, _, d, d.toNat, _, rfl, rfl, hr4, by omega, by omega, g1, g2, acc.map V.str, ?_, ?_, ?_⟩
      · rw [upd_ne nrD.symm]
        exact hD4
      · rw [List.length_map]
        omega
      · refine ⟨zs, pl.eraseIdx d.toNat, acc ++ [pl[d.toNat]], ?_, hZ, ?_, ?_, by rw [List.length_append, hl']; rfl, (perm_pop hd).trans pm, fun b o nb e => ?_⟩
        · rw [upd_ne npD, upd_ne npr]
          exact hz
        · rw [upd_ne nrD, upd_same, map_erase]
        · rw [upd_same, List.map_append]
          rfl
        · rw [upd_ne (ne_of_none e nHD), upd_ne (ne_of_none e nr)]
          exact hb _ _ nb (hb' _ _ nb e)
    · rintro H' ⟨ys, pl, acc, hp', hx', hr', hD', hl', pm, hb'⟩
      have nd8 : pool8.Nodup := by decide +kernel
      have nda : (acc ++ pl).Nodup := pm.nodup_iff.mpr nd8
      exact q H' ys D acc hb' hp' hx' nHD npD.symm hD' hl' (List.nodup_append.mp nda).1 fun x hx => pm.mem_iff.mp (List.mem_append_left _ hx)
end
/-! ### items -/
/-- an item as drawn: its names, its numbers, its depth -/
def Wf (ns : List Str) (most : Int) : Nat → It → Prop
  | _, .line x t => x ∈ ns ∧ 1 ≤ t ∧ t ≤ most
  | 0, .loop _ _ => False
  | n + 1, .loop r is => 1 ≤ r ∧ r ≤ most ∧ 1 ≤ is.length ∧ is.length ≤ 3 ∧ ∀ i ∈ is, Wf ns most n i
/-- how often items draw, at most -/
def bud : Nat → Nat → Nat
  | 0, many => 1 + many * 3
  | n + 1, many => 1 + many * (3 + bud n 3)
theorem scItems : FnScope ["_law_pot_here", "_law_names_here", "_law_many", "_law_depth", "_law_most", "_law_found", "_law_turn"] ["_law_pot_here", "_law_names_here", "_law_many", "_law_depth", "_law_most"] (defScope sItems) :=
  ⟨rfl, rfl, rfl, by decide +kernel, rfl, by decide +kernel, by decide +kernel⟩
def spItems (K : PySem.W.Frag) (dep : Nat) : Sp := fun vs H Q _ => ∃ (p q : Addr) (xs : List V) (ns : List Str) (many n : Nat) (most : Int),
  vs = [.ref p, .ref q, .int (many : Nat), .int (dep : Nat), .int most] ∧ H p = some (.lst xs) ∧ PotL n xs ∧ p ≠ q ∧ SqL K H q (ns.map V.str) ∧ ns ≠ [] ∧ ns.length ≤ 1000 ∧ 1 ≤ many ∧ many ≤ 20 ∧
  1 ≤ most ∧ most ≤ 10 ^ 18 ∧ n + bud dep many ≤ 1000000 ∧
  ∀ (H' : Hp) (ys : List V) (u : V) (is : List It) (n' : Nat), Bu p H H' → H' p = some (.lst ys) → PotL n' ys → n' ≤ n + bud dep many → Da K (newer H H') u (.tuple (is.map It.d)) →
    1 ≤ is.length → is.length ≤ many → (∀ i ∈ is, Wf ns most dep i) → Q u H'
def innerB : Nat → Nat
  | 0 => 0
  | d + 1 => bud d 3
theorem spItems_le (many dep : Nat) : many * (3 + innerB dep) + 1 = bud dep many := by
  cases dep with
  | zero =>
    show many * (3 + 0) + 1 = 1 + many * 3
    omega
  | succ d =>
    show many * (3 + bud d 3) + 1 = 1 + many * (3 + bud d 3)
    omega
theorem wf_line {ns : List Str} {most : Int} {dep : Nat} {x : Str} {t : Int} (h : x ∈ ns) (h1 : 1 ≤ t) (h2 : t ≤ most) : Wf ns most dep (.line x t) := by
  cases dep with
  | zero => exact ⟨h, h1, h2⟩
  | succ n => exact ⟨h, h1, h2⟩
section
variable {P : Program} {w : World} {K : PySem.W.Frag} {mg : Str → Option Value} {base : Heap}
/-- one more depth: fI keeps spR, the promise of the depth below (nothing, at the depth 0) -/
theorem items_step {f fT fO : Addr} {fd fdT fdO : FuncData} {k dep : Nat} {spR : Sp} (F : Fun K "_law_items" "_law_items" sItems f fd) (FT : Fun K "_law_take" "_law_take" sTake fT fdT) (bT : Binds K fdT ["_law_pot_here", "_law_many"] [])
    (gT : mg "_law_take" = some (.ref fT)) (GO : FnOk P w K mg base CX0 2 fO fdO ["_law_pot_here", "_law_some"] (spOf K)) (bO : Binds K fdO ["_law_pot_here", "_law_some"] []) (gO : mg "_law_of" = some (.ref fO)) (kO : PySem.W.keepIn K (.ref fO) = true)
    (gI : mg "_law_items" = some (.ref f)) (bI : Binds K fd ["_law_pot_here", "_law_names_here", "_law_many", "_law_depth", "_law_most"] []) (mR : mg "range" = none) (mT : mg "tuple" = none)
    (GR : FnOk P w K mg base CX0 k f fd ["_law_pot_here", "_law_names_here", "_law_many", "_law_depth", "_law_most"] spR) (hk : 2 ≤ k) (hR : dep = 0 ∨ ∃ d, dep = d + 1 ∧ spR = spItems K d) :
    FnOk P w K mg base CX0 (k + 1) f fd ["_law_pot_here", "_law_names_here", "_law_many", "_law_depth", "_law_most"] (spItems K dep) := by
  have GT : FnOk P w K mg base CX0 1 fT fdT ["_law_pot_here", "_law_many"] spTake := ok_take FT
  refine F.ok scItems (fun vs H Q E h => ?_) (fun cdv A outer s H vs Q E hr h => ?_)
  · obtain ⟨p, q, xs, ns, many, n, most, rfl, _⟩ := h
    rfl
  · obtain ⟨p, q, xs, ns, many, n, most, rfl, hp, hx, npq, hN, hn0, hn1, m1, m2, o1, o2, hb, kk⟩ := h
    have hr1 : Room 1 _ := hr.mono (show 1 ≤ k by omega)
    have hr2 : Room 2 _ := hr.mono (show 2 ≤ k by omega)
    refine ⟨_, pss_cons (ps_set (i := 5) scItems.nd rfl (.inl rfl) (pe_lst pa_nil))
      (pss_cons (ps_for PassesOwn.never rfl (pi_range1 rfl mR (pa_cons (pe_op op_add pe_int (pe_call GT hr1 (by rfl) gT FT.kp bT .nil pass0 (pa_cons (pv 0) (pa_cons (pv 2) pa_nil)))) pa_nil)) (pg_name (i := 6) scItems.nd rfl (.inl rfl))
        (pss_one (ps_if (PW.pt (pw_and (pt_cmpR op_gt (pv 3) pe_int (nomark _)) (pw_and1 (pt_cmpR op_eq (pe_call GT hr1 (by rfl) gT FT.kp bT .nil pass0 (pa_cons (pv 0) (pa_cons pe_int pa_nil))) pe_int (nomark _)))))
          (pss_one (ps_expr (pe_bm PySem.F.plainAttrs_list PySem.F.slot_list_append PySem.F.type_list_append mt_append (pv 5) (pa_cons (pe_tup (pa_cons pe_str (pa_cons (pe_op op_add pe_int (pe_call GT hr1 (by rfl) gT FT.kp bT .nil pass0 (pa_cons (pv 0) (pa_cons (pv 4) pa_nil))))
            (pa_cons (pe_call GR hr (by rfl) gI F.kp bI .nil pass0 (pa_cons (pv 0) (pa_cons (pv 1) (pa_cons pe_int (pa_cons (pe_op op_sub (pv 3) pe_int) (pa_cons (pv 4) pa_nil)))))) pa_nil)))) pa_nil))))
          (pss_one (ps_expr (pe_bm PySem.F.plainAttrs_list PySem.F.slot_list_append PySem.F.type_list_append mt_append (pv 5) (pa_cons (pe_tup (pa_cons pe_str (pa_cons (pe_call GO hr2 (by rfl) gO kO bO .nil pass0 (pa_cons (pv 0) (pa_cons (pv 1) pa_nil)))
            (pa_cons (pe_op op_add pe_int (pe_call GT hr1 (by rfl) gT FT.kp bT .nil pass0 (pa_cons (pv 0) (pa_cons (pv 4) pa_nil)))) pa_nil)))) pa_nil)))))))
      (pss_one (ps_ret (pe_callTy call_tuple_of (by rfl) mT (by decide +kernel) (pa_cons (pv 5) pa_nil))))), ?_⟩
    refine ⟨(by show 0 ≤ sizeLine; exact Nat.zero_le _), fun l nl => ?_⟩
    have npl : p ≠ l := ne_of_none hp nl
    let H1 : Hp := upd H l (.lst [])
    have hp1 : H1 p = some (.lst xs) := by
      show upd H l _ p = _
      rw [upd_ne npl]
      exact hp
    have hl1 : H1 l = some (.lst []) := upd_same
    have hb0 : Bu p H H1 := Bu.new nl
    have y := sizeLine_eq
    have hbud := spItems_le many dep
    refine ⟨_, rfl, _, rfl, p, xs, (many : Nat), n, rfl, hp1, hx, by omega, by omega, log_le (by omega) (by omega), fun H2 ys d hb2 hy hY d0 d1 => ⟨_, _, rfl, rfl, _, rfl, by omega, by omega, for_range (lo := 0) (n := (1 + d).toNat)
      (fun i σ' H' => ∃ (y6 : Option V) (ys' : List V) (is : List It) (us : List V) (n' : Nat), σ' = [some (.ref p), some (.ref q), some (.int (many : Nat)), some (.int (dep : Nat)), some (.int most), some (.ref l), y6] ∧
        H' p = some (.lst ys') ∧ PotL n' ys' ∧ n' ≤ n + 1 + i * (3 + innerB dep) ∧ H' l = some (.lst us) ∧ DaAll K (newer H1 H') us (is.map It.d) ∧ is.length = i ∧ us.length = i ∧ (∀ x ∈ is, Wf ns most dep x) ∧ Bu p H H')
      ⟨none, ys, [], [], n + 1, rfl, hy, hY, by omega, hb2 _ _ npl.symm hl1, .nil, rfl, rfl, fun x hx => (nomatch hx), hb0.trans hb2⟩ ?_ ?_⟩⟩
    · rintro i σ' H' hi ⟨y6, ys', is, us, n', rfl, hp', hY', hn', hl', hDa, hi', hlen', hw, hb'⟩
      have him : (i + 1) * (3 + innerB dep) ≤ many * (3 + innerB dep) := Nat.mul_le_mul_right _ (by omega)
      rw [Nat.succ_mul] at him
      refine ⟨_, rfl, _, _, rfl, rfl, _, rfl, ite2 (fun e => ?_) (fun e => ?_)⟩
      · have hdep : (0 : Int) < (dep : Nat) := of_decide_eq_true e
        refine ⟨_, rfl, p, ys', 3, n', rfl, hp', hY', by omega, by decide, by decide +kernel, fun H3 ys3 d3 hb3 hy3 hY3 f0 f1 => ⟨rfl, _, rfl, ite2 (fun e2 => ?_) (fun e2 => ?_)⟩⟩
        · obtain ⟨dd, rfl, rfl⟩ : ∃ dd, dep = dd + 1 ∧ spR = spItems K dd := by
            rcases hR with h | h
            · omega
            · exact h
          have hin : innerB (dd + 1) = bud dd 3 := rfl
          have hl3 : H3 l = some (.lst us) := hb3 _ _ npl.symm hl'
          refine ⟨_, rfl, .inl ⟨rfl, _, .inl (.inl hl3)⟩, _, rfl, _, rfl, p, ys3, most, n' + 1, rfl, hy3, hY3, by omega, by omega, log_le o1 o2, fun H4 ys4 d4 hb4 hy4 hY4 e0 e1 => ⟨_, _, rfl, rfl, ?_⟩⟩
          have hb24 : Bu p H H4 := (hb'.trans hb3).trans hb4
          have hl4 : H4 l = some (.lst us) := hb4 _ _ npl.symm hl3
          have hN4 : SqL K H4 q (ns.map V.str) := bu_seq npq.symm hb24 hN
          have edep : (V.int (((dd + 1 : Nat) : Int) - 1)) = V.int (dd : Nat) := by
            congr 1
            omega
          refine ⟨_, rfl, _, rfl, _, rfl, _, _, rfl, rfl, _, rfl, p, q, ys4, ns, 3, n' + 2, most, by
            show [V.ref p, V.ref q, V.int 3, V.int (((dd + 1 : Nat) : Int) - 1), V.int most] = _
            rw [edep]
            rfl, hy4, hY4, npq, hN4, hn0, hn1, by decide, by decide, o1, o2, by omega, fun H5 ys5 u is5 n5 hb5 hy5 hY5 hn5 hDu l1 l2 hw5 => ?_⟩
          refine ⟨(by show 3 ≤ sizeLine; decide), fun t nt => ?_⟩
          have hb35 : Bu p H' H5 := (hb3.trans hb4).trans hb5
          have hl5 : H5 l = some (.lst us) := hb35 _ _ npl.symm hl'
          have npt : p ≠ t := ne_of_none hy5 nt
          have nlt : l ≠ t := ne_of_none hl5 nt
          refine ⟨l, us, .ref t, rfl, rfl, by rw [upd_ne nlt]; exact hl5, ?_, ?_⟩
          · omega
          · refine ⟨_, ys5, is ++ [.loop (1 + d4) is5], us ++ [.ref t], n5, rfl, by rw [upd_ne npl, upd_ne npt]; exact hy5, hY5, by rw [Nat.succ_mul]; omega, upd_same, ?_, by rw [List.length_append, hi']; rfl, by rw [List.length_append, hlen']; rfl, fun z hz => ?_, ?_⟩
            · rw [List.map_append]
              have hH1t : H1 t = none := dom1 (hb'.trans hb35) hy5 hl5 nt
              have keep : ∀ b o, H1 b = none → H5 b = some o → upd (upd H5 t (.tup [.str "loop", .int (1 + d4), u])) l (.lst (us ++ [.ref t])) b = some o := fun b o nb e5 => by
                have nbl : b ≠ l := fun z => by
                  rw [z, hl1] at nb
                  cases nb
                rw [upd_ne nbl, upd_ne (ne_of_none e5 nt)]
                exact e5
              have hd : It.d (.loop (1 + d4) is5) = .tuple [.str "loop", .int (1 + d4), .tuple (is5.map It.d)] := by
                rw [It.d, Its.d_map]
              show DaAll _ _ _ (_ ++ [It.d (.loop (1 + d4) is5)])
              rw [hd]
              refine daAll_append (.tup (xs := [.str "loop", .int (1 + d4), u]) (.inl (.inl ?_)) (.cons (.str _) (.cons (.int _) (.cons (hDu.mono (newer_le (fun b nb => ?_) fun b o nb e => ?_)) .nil)))) (hDa.mono (newer_le (fun _ z => z) fun b o nb e => ?_))
              · rw [newer_at hH1t, upd_ne nlt.symm, upd_same]
              · exact dom1 hb24 hy4 hl4 nb
              · exact keep b o (dom1 hb24 hy4 hl4 nb) e
              · have nbp : b ≠ p := fun z => by
                  rw [z, hp1] at nb
                  cases nb
                exact keep b o nb (hb35 _ _ nbp e)
            · rcases List.mem_append.mp hz with h | h
              · exact hw z h
              · rw [List.mem_singleton.mp h]
                exact ⟨by omega, by omega, l1, l2, hw5⟩
            · intro b o nb e
              have nbl : b ≠ l := ne_of_none e nl
              have e5 := hb35 _ _ nb (hb' _ _ nb e)
              rw [upd_ne nbl, upd_ne (ne_of_none e5 nt)]
              exact e5
        · let n3 : Nat := n' + 1
          have hn3 : n3 = n' + 1 := rfl
          have hY3 : PotL n3 ys3 := hY3
          refine cast rfl (?_ : _)
          have hl3 : H3 l = some (.lst us) := hb3 _ _ npl.symm hl'
          have hN3 : SqL K H3 q (ns.map V.str) := bu_seq npq.symm (hb'.trans hb3) hN
          refine ⟨_, rfl, .inl ⟨rfl, _, .inl (.inl hl3)⟩, _, rfl, _, rfl, p, q, ys3, ns.map V.str, n3, rfl, hy3, hY3, by omega, npq, hN3, by simpa using hn0, by rw [List.length_map]; omega, fun H4 ys4 v hb4 hy4 hY4 hv => ?_⟩
          obtain ⟨x, hx', rfl⟩ := List.mem_map.mp hv
          refine ⟨_, rfl, _, rfl, p, ys4, most, n3 + 1, rfl, hy4, hY4, by omega, by omega, log_le o1 o2, fun H5 ys5 d5 hb5 hy5 hY5 e0 e1 => ⟨_, _, rfl, rfl, (by show 3 ≤ sizeLine; decide), fun t nt => ?_⟩⟩
          have hb35 : Bu p H' H5 := (hb3.trans hb4).trans hb5
          have hl5 : H5 l = some (.lst us) := hb35 _ _ npl.symm hl'
          have npt : p ≠ t := ne_of_none hy5 nt
          have nlt : l ≠ t := ne_of_none hl5 nt
          refine ⟨l, us, .ref t, rfl, rfl, by rw [upd_ne nlt]; exact hl5, ?_, ?_⟩
          · omega
          · refine ⟨_, ys5, is ++ [.line x (1 + d5)], us ++ [.ref t], n3 + 2, rfl, by rw [upd_ne npl, upd_ne npt]; exact hy5, hY5, by rw [Nat.succ_mul]; omega, upd_same, ?_, by rw [List.length_append, hi']; rfl, by rw [List.length_append, hlen']; rfl, fun z hz => ?_, ?_⟩
            · rw [List.map_append]
              have hH1t : H1 t = none := by
                exact dom1 (hb'.trans hb35) hy5 hl5 nt
              refine daAll_append (.tup (xs := [.str "line", .str x, .int (1 + d5)]) (.inl (.inl ?_)) (.cons (.str _) (.cons (.str _) (.cons (.int _) .nil)))) (hDa.mono (newer_le (fun _ z => z) fun b o nb e => ?_))
              · rw [newer_at hH1t, upd_ne nlt.symm, upd_same]
              · have nbp : b ≠ p := fun z => by
                  rw [z, hp1] at nb
                  cases nb
                have nbl : b ≠ l := fun z => by
                  rw [z, hl1] at nb
                  cases nb
                have e5 := hb35 _ _ nbp e
                rw [upd_ne nbl, upd_ne (ne_of_none e5 nt)]
                exact e5
            · rcases List.mem_append.mp hz with h | h
              · exact hw z h
              · rw [List.mem_singleton.mp h]
                exact wf_line hx' (by omega) (by omega)
            · intro b o nb e
              have nbl : b ≠ l := ne_of_none e nl
              have e5 := hb35 _ _ nb (hb' _ _ nb e)
              rw [upd_ne nbl, upd_ne (ne_of_none e5 nt)]
              exact e5
      · let n3 : Nat := n'
        have hn3 : n3 ≤ n' + 1 := Nat.le_succ _
        have hb3 : Bu p H' H' := Bu.refl
        have hY3 : PotL n3 ys' := hY'
        have hy3 := hp'
        have hl3 : H' l = some (.lst us) := hb3 _ _ npl.symm hl'
        have hN3 : SqL K H' q (ns.map V.str) := bu_seq npq.symm (hb'.trans hb3) hN
        refine ⟨_, rfl, .inl ⟨rfl, _, .inl (.inl hl3)⟩, _, rfl, _, rfl, p, q, ys', ns.map V.str, n3, rfl, hy3, hY3, by omega, npq, hN3, by simpa using hn0, by rw [List.length_map]; omega, fun H4 ys4 v hb4 hy4 hY4 hv => ?_⟩
        obtain ⟨x, hx', rfl⟩ := List.mem_map.mp hv
        refine ⟨_, rfl, _, rfl, p, ys4, most, n3 + 1, rfl, hy4, hY4, by omega, by omega, log_le o1 o2, fun H5 ys5 d5 hb5 hy5 hY5 e0 e1 => ⟨_, _, rfl, rfl, (by show 3 ≤ sizeLine; decide), fun t nt => ?_⟩⟩
        have hb35 : Bu p H' H5 := (hb3.trans hb4).trans hb5
        have hl5 : H5 l = some (.lst us) := hb35 _ _ npl.symm hl'
        have npt : p ≠ t := ne_of_none hy5 nt
        have nlt : l ≠ t := ne_of_none hl5 nt
        refine ⟨l, us, .ref t, rfl, rfl, by rw [upd_ne nlt]; exact hl5, ?_, ?_⟩
        · omega
        · refine ⟨_, ys5, is ++ [.line x (1 + d5)], us ++ [.ref t], n3 + 2, rfl, by rw [upd_ne npl, upd_ne npt]; exact hy5, hY5, by rw [Nat.succ_mul]; omega, upd_same, ?_, by rw [List.length_append, hi']; rfl, by rw [List.length_append, hlen']; rfl, fun z hz => ?_, ?_⟩
          · rw [List.map_append]
            have hH1t : H1 t = none := by
              exact dom1 (hb'.trans hb35) hy5 hl5 nt
            refine daAll_append (.tup (xs := [.str "line", .str x, .int (1 + d5)]) (.inl (.inl ?_)) (.cons (.str _) (.cons (.str _) (.cons (.int _) .nil)))) (hDa.mono (newer_le (fun _ z => z) fun b o nb e => ?_))
            · rw [newer_at hH1t, upd_ne nlt.symm, upd_same]
            · have nbp : b ≠ p := fun z => by
                rw [z, hp1] at nb
                cases nb
              have nbl : b ≠ l := fun z => by
                rw [z, hl1] at nb
                cases nb
              have e5 := hb35 _ _ nbp e
              rw [upd_ne nbl, upd_ne (ne_of_none e5 nt)]
              exact e5
          · rcases List.mem_append.mp hz with h | h
            · exact hw z h
            · rw [List.mem_singleton.mp h]
              exact wf_line hx' (by omega) (by omega)
          · intro b o nb e
            have nbl : b ≠ l := ne_of_none e nl
            have e5 := hb35 _ _ nb (hb' _ _ nb e)
            rw [upd_ne nbl, upd_ne (ne_of_none e5 nt)]
            exact e5
    · rintro σ' H' ⟨y6, ys', is, us, n', rfl, hp', hY', hn', hl', hDa, hi', hlen', hw, hb'⟩
      have hge : is.length ≤ many := by omega
      have hmul : (1 + d).toNat * (3 + innerB dep) ≤ many * (3 + innerB dep) := Nat.mul_le_mul_right _ (by omega)
      refine ⟨_, rfl, l, us, rfl, .inl ⟨.inl (.inl hl'), fun t nt => ?_⟩⟩
      have npt : p ≠ t := ne_of_none hp' nt
      have hHt : H1 t = none := dom1 hb' hp' hl' nt
      have hbb : Bu p H H' := hb'
      refine kk _ ys' _ is n' (fun b o nb e => ?_) (by rw [upd_ne npt]; exact hp') hY' (by omega) (.tup (xs := us) (.inl (.inl ?_)) (hDa.mono (newer_le (fun b z => ?_) fun b o nb e => ?_))) (by omega) hge hw
      · have e5 := hbb _ _ nb e
        rw [upd_ne (ne_of_none e5 nt)]
        exact e5
      · have hHt' : H t = none := hb0.dom hp1 t hHt
        rw [newer_at hHt', upd_same]
      · exact hb0.dom hp1 b z
      · rw [upd_ne (ne_of_none e nt)]
        exact e
theorem ok_items {f fT fO : Addr} {fd fdT fdO : FuncData} (F : Fun K "_law_items" "_law_items" sItems f fd) (FT : Fun K "_law_take" "_law_take" sTake fT fdT) (bT : Binds K fdT ["_law_pot_here", "_law_many"] [])
    (gT : mg "_law_take" = some (.ref fT)) (GO : FnOk P w K mg base CX0 2 fO fdO ["_law_pot_here", "_law_some"] (spOf K)) (bO : Binds K fdO ["_law_pot_here", "_law_some"] []) (gO : mg "_law_of" = some (.ref fO)) (kO : PySem.W.keepIn K (.ref fO) = true)
    (gI : mg "_law_items" = some (.ref f)) (bI : Binds K fd ["_law_pot_here", "_law_names_here", "_law_many", "_law_depth", "_law_most"] []) (mR : mg "range" = none) (mT : mg "tuple" = none) :
    ∀ dep : Nat, FnOk P w K mg base CX0 (3 + dep) f fd ["_law_pot_here", "_law_names_here", "_law_many", "_law_depth", "_law_most"] (spItems K dep)
  | 0 => items_step F FT bT gT GO bO gO kO gI bI mR mT no_fn (Nat.le_refl 2) (.inl rfl)
  | n + 1 => items_step F FT bT gT GO bO gO kO gI bI mR mT (ok_items F FT bT gT GO bO gO kO gI bI mR mT n) (show 2 ≤ 3 + n by omega) (.inr ⟨n, rfl, rfl⟩)
end
end Ev

/-! ## How long a text of data is -/
namespace Ev
open PySem PySem.Spec PyProof.Rows L2
theorem pool_nm : pool8.all nmB = true := by decide +kernel
/-! ### items as drawn -/
theorem wf_ps {ns : List Str} {most : Int} : ∀ (n : Nat) (i : It), Wf ns most n i → It.ps i
  | n, .line x t, h => by
    have h : x ∈ ns ∧ 1 ≤ t ∧ t ≤ most := by
      cases n <;> exact h
    rw [It.ps]
    exact h.2.1
  | 0, .loop r is, h => h.elim
  | n + 1, .loop r is, h => by
    obtain ⟨h1, h2, h3, h4, h5⟩ : 1 ≤ r ∧ r ≤ most ∧ 1 ≤ is.length ∧ is.length ≤ 3 ∧ ∀ i ∈ is, Wf ns most n i := h
    rw [It.ps]
    exact ⟨h1, (fun e => by rw [e] at h3; exact absurd h3 (by decide)), ps_of fun i hi => wf_ps n i (h5 i hi)⟩
theorem wf_okp {ns : List Str} {most : Int} {B : Nat} (hm : most < (2 ^ B : Nat)) : ∀ (n : Nat) (i : It), Wf ns most n i → Okp B n i
  | n, .line x t, h => by
    have h : x ∈ ns ∧ 1 ≤ t ∧ t ≤ most := by
      cases n <;> exact h
    exact okp_line.mpr ⟨by omega, by omega⟩
  | 0, .loop r is, h => h.elim
  | n + 1, .loop r is, h => by
    obtain ⟨h1, h2, h3, h4, h5⟩ : 1 ≤ r ∧ r ≤ most ∧ 1 ≤ is.length ∧ is.length ≤ 3 ∧ ∀ i ∈ is, Wf ns most n i := h
    exact ⟨by omega, by omega, fun i hi => wf_okp hm n i (h5 i hi)⟩
theorem wf_nm {ns : List Str} {most : Int} (hm : most < (2 ^ 64 : Nat)) (hn : ∀ x ∈ ns, x ∈ pool8) : ∀ (n : Nat) (i : It), Wf ns most n i → It.nm i
  | n, .line x t, h => by
    have h : x ∈ ns ∧ 1 ≤ t ∧ t ≤ most := by
      cases n <;> exact h
    rw [It.nm]
    exact ⟨List.all_eq_true.mp pool_nm x (hn x h.1), by omega⟩
  | 0, .loop r is, h => h.elim
  | n + 1, .loop r is, h => by
    obtain ⟨h1, h2, h3, h4, h5⟩ : 1 ≤ r ∧ r ≤ most ∧ 1 ≤ is.length ∧ is.length ≤ 3 ∧ ∀ i ∈ is, Wf ns most n i := h
    rw [It.nm]
    exact ⟨by omega, nm_of fun i hi => wf_nm hm hn n i (h5 i hi)⟩
def itN : Nat → Nat
  | 0 => 1
  | n + 1 => 1 + 3 * itN n
theorem wf_ni {ns : List Str} {most : Int} : ∀ (n : Nat) (i : It), Wf ns most n i → It.ni i ≤ itN n
  | n, .line x t, _ => by
    rw [It.ni]
    cases n
    · exact Nat.le_refl _
    · show 1 ≤ 1 + _
      omega
  | 0, .loop r is, h => h.elim
  | n + 1, .loop r is, h => by
    obtain ⟨h1, h2, h3, h4, h5⟩ : 1 ≤ r ∧ r ≤ most ∧ 1 ≤ is.length ∧ is.length ≤ 3 ∧ ∀ i ∈ is, Wf ns most n i := h
    rw [It.ni]
    have z := ni_mul fun i hi => wf_ni n i (h5 i hi)
    have z2 : is.length * itN n ≤ 3 * itN n := Nat.mul_le_mul_right _ h4
    show 1 + Its.ni is ≤ 1 + 3 * itN n
    omega
end Ev

/-! ## The law's own ticks -/
namespace Ev
open PySem PySem.Spec PyProof.Rows L2
theorem scLt : FnScope ["_law_items_here", "_law_found", "_law_item"] ["_law_items_here"] (defScope (topS 33)) := ⟨rfl, rfl, rfl, by decide +kernel, rfl, by decide +kernel, by decide +kernel⟩
section
variable {P : Program} {w : World} {K : PySem.W.Frag} {mg : Str → Option Value} {base : Heap} {f : Addr} {fd : FuncData}
theorem lt_step {B dep k : Nat} {spR : Sp} (F : Fun K "_law_ticks" "_law_ticks" (topS 33) f fd) (b : Binds K fd ["_law_items_here"] []) (m : mg "_law_ticks" = some (.ref f))
    (GR : FnOk P w K mg base CX0 k f fd ["_law_items_here"] spR) (hR : dep = 0 ∨ ∃ d, dep = d + 1 ∧ spR = spWr K B d) : FnOk P w K mg base CX0 (k + 1) f fd ["_law_items_here"] (spWr K B dep) := by
  refine F.ok scLt (fun vs H Q E h => ?_) (fun cdv A outer s H vs Q E hr h => ?_)
  · obtain ⟨x, is, rfl, _⟩ := h
    rfl
  · obtain ⟨x, is, rfl, hp, hps, hw, q⟩ := h
    refine ⟨_, pss_cons (ps_set (i := 1) scLt.nd rfl (.inl rfl) (pe_lst pa_nil))
      (pss_cons (ps_for PassesOwn.never rfl (pi_tup (pv 0)) (pg_name (i := 2) scLt.nd rfl (.inl rfl))
        (pss_one (ps_if (pt_cmpR op_eq (pe_ix ix_tup (pv 2) pe_int (fun _ _ => rfl)) pe_str (nomark _))
          (pss_one (ps_set (i := 1) scLt.nd rfl (.inl rfl) (pe_op op_cat (pv 1) (pe_op op_rep (pe_lst (pa_cons (pe_ix ix_tup (pv 2) pe_int (fun _ _ => rfl)) pa_nil)) (pe_ix ix_tup (pv 2) pe_int (fun _ _ => rfl))))))
          (pss_one (ps_set (i := 1) scLt.nd rfl (.inl rfl) (pe_op op_cat (pv 1) (pe_op op_rep (pe_call GR hr (by rfl) m F.kp b .nil pass0 (pa_cons (pe_ix ix_tup (pv 2) pe_int (fun _ _ => rfl)) pa_nil)) (pe_ix ix_tup (pv 2) pe_int (fun _ _ => rfl)))))))))
      (pss_one (ps_ret (pv 1)))), ?_⟩
    have y := sizeLine_eq
    obtain ⟨a, xs, rfl, hs, ha⟩ := da_prog hp.da
    have hxl := daAll_len ha
    rw [List.length_map] at hxl
    refine ⟨(by show 0 ≤ sizeLine; exact Nat.zero_le _), fun l0 nl0 => ?_⟩
    refine ⟨_, rfl, a, rfl, ⟨xs, seqT_mono (same_put nl0) hs⟩, for_tup (K := K) (a := a) (xs := xs) (fun i σ' H' => ∃ (l : Addr) (y2 : Option V), σ' = [some (.ref a), some (.ref l), y2] ∧ Same H H' ∧ H' l = some (.lst ((Its.w (is.take i)).map V.str)))
      ⟨l0, none, rfl, same_put nl0, by rw [List.take_zero, Its.w]; exact upd_same⟩ (fun i σ' H' _ ⟨_, _, _, s', _⟩ => seqT_mono s' hs) ?_ ?_⟩
    · rintro i x' σ' H' hi ⟨l, y2, rfl, s', hl'⟩
      obtain ⟨d, hd', hx'⟩ := daAll_at (ha.mono s') hi
      rw [List.getElem?_map] at hd'
      obtain ⟨it, hit, rfl⟩ := Option.map_eq_some_iff.mp hd'
      have hmem := List.mem_of_getElem? hit
      have hpi := ps_mem hps hmem
      have hsum : (Its.w (is.take i)).length + (It.w it).length ≤ 100000 := by
        have z := congrArg List.length (w_at hit)
        rw [List.length_append, List.length_append] at z
        omega
      cases it with
      | line z t =>
        obtain ⟨b', rfl, hb'⟩ := da_line hx'
        rw [It.ps] at hpi
        rw [It.w, List.length_replicate] at hsum
        refine ⟨_, rfl, b', _, 0, _, rfl, rfl, hb', rfl, rfl, _, rfl, ?_⟩
        rw [dec_str]
        refine iteT ?_
        refine ⟨_, rfl, _, rfl, b', _, 1, _, rfl, rfl, hb', rfl, (by show 1 ≤ sizeLine; decide), fun l1 n1 => ?_⟩
        have hb1 := seqT_mono (same_put (o := .lst [.str z]) n1) hb'
        refine ⟨_, rfl, b', _, 2, _, rfl, rfl, hb1, rfl, l1, t, [.str z], rfl, rfl, upd_same, by omega, by omega, by show 1 * t.toNat ≤ sizeLine; omega, fun l2 n2 => ?_⟩
        have s2 := (same_put (o := .lst [.str z]) n1).trans (same_put (o := .lst (List.replicate t.toNat [.str z]).flatten) n2)
        refine ⟨l, l2, _, _, rfl, rfl, s2 _ _ hl', upd_same, ?_, fun l3 n3 => ?_⟩
        · rw [List.length_map, rep_one, List.length_replicate]
          omega
        · refine ⟨l3, _, rfl, (s'.trans s2).trans (same_put n3), ?_⟩
          rw [upd_same, w_take hit, It.w, List.map_append, rep_one, List.map_replicate]
      | loop r js =>
        obtain ⟨d', rfl, hsp⟩ : ∃ d', dep = d' + 1 ∧ spR = spWr K B d' := by
          rcases hR with h | h
          · subst h
            exact (hp.ok _ hmem).elim
          · exact h
        subst hsp
        obtain ⟨k0, k1, hokj⟩ : 0 ≤ r ∧ r < (2 ^ B : Nat) ∧ ∀ i ∈ js, Okp B d' i := hp.ok _ hmem
        obtain ⟨b', v4, rfl, hb', hv4⟩ := da_loop hx'
        rw [It.ps] at hpi
        have hpos := Its.w_pos js hpi.2.1 hpi.2.2
        rw [It.w, flat_len] at hsum
        have r1 : 1 ≤ r.toNat := by omega
        have hj : (Its.w js).length ≤ r.toNat * (Its.w js).length := Nat.le_mul_of_pos_left _ r1
        have hrr : r.toNat ≤ r.toNat * (Its.w js).length := Nat.le_mul_of_pos_right _ hpos
        have hnl : Its.nl js ≤ 100000 := by
          have z := Its.nl_mem hmem
          rw [It.nl] at z
          exact Nat.le_trans z hp.few
        refine ⟨_, rfl, b', _, 0, _, rfl, rfl, hb', rfl, rfl, _, rfl, ?_⟩
        rw [dec_ll]
        refine iteF ?_
        refine ⟨_, rfl, _, rfl, b', _, 2, _, rfl, rfl, hb', rfl, v4, js, rfl, ⟨hv4, hokj, hnl⟩, hpi.2.2, by omega, fun H1 l1 s1 e1 => ?_⟩
        refine ⟨_, rfl, b', _, 1, _, rfl, rfl, seqT_mono s1 hb', rfl, l1, r, _, rfl, rfl, e1, by omega, by omega, by rw [List.length_map, Nat.mul_comm]; omega, fun l2 n2 => ?_⟩
        refine ⟨l, l2, _, _, rfl, rfl, same_put n2 _ _ (s1 _ _ hl'), upd_same, ?_, fun l3 n3 => ?_⟩
        · rw [List.length_map, map_flat, List.length_map, flat_len]
          omega
        · refine ⟨l3, _, rfl, ((s'.trans s1).trans (same_put n2)).trans (same_put n3), ?_⟩
          rw [upd_same, w_take hit, It.w, List.map_append, map_flat]
    · rintro σ' H' ⟨l, y2, rfl, s', hl'⟩
      rw [hxl, List.take_length] at hl'
      exact ⟨_, rfl, q H' l s' hl'⟩
theorem ok_lt {B : Nat} (F : Fun K "_law_ticks" "_law_ticks" (topS 33) f fd) (b : Binds K fd ["_law_items_here"] []) (m : mg "_law_ticks" = some (.ref f)) : ∀ dep : Nat, FnOk P w K mg base CX0 (dep + 1) f fd ["_law_items_here"] (spWr K B dep)
  | 0 => lt_step F b m no_fn (.inl rfl)
  | d + 1 => lt_step F b m (ok_lt F b m d) (.inr ⟨d, rfl, rfl⟩)
end
end Ev

/-! ## == and != of any data with a text, == of a tuple with () -/
namespace PySem.SeqAt
open AutoSeq1 (wpAny_loadPart')
open MeetsSeq
section
variable {A : Around} {s : Shared}
theorem ev_sub_sd : isSubtype (.type "str") (.type "dict") = pure false := by rw [isSubtype_type]; kernel_rfl
theorem ev_dict_eq_str (l : Addr) (es : Array DictEntry) (n : Nat) (dd : Option Addr) (sl : Array (Option Value)) (b : Str) (u : Tok) :
    Meets (Builtin.«dict.__eq__» ⟨[.ref l, .str b u], []⟩)
      (fun _ R s => s.heap.get? l = some { cls := .type "dict", dict := dd, data := .dict es n, slots := sl } ∧ R (.ok (.ret .notImplemented)) s) :=
  .of_wp fun prog w A R s h => by
    obtain ⟨hp, g, d, tk, os⟩ := s
    obtain ⟨hl, h⟩ := h
    have f1 := ev_sub_sd
    wp_walk using wpAny_loadPart' hl, wpAny_load hl
    exact ⟨_, rfl, h⟩
theorem ev_dict_ne_str (l : Addr) (es : Array DictEntry) (n : Nat) (dd : Option Addr) (sl : Array (Option Value)) (b : Str) (u : Tok) :
    Meets (Builtin.«dict.__ne__» ⟨[.ref l, .str b u], []⟩)
      (fun _ R s => s.heap.get? l = some { cls := .type "dict", dict := dd, data := .dict es n, slots := sl } ∧ R (.ok (.ret .notImplemented)) s) :=
  .of_wp fun prog w A R s h => by
    obtain ⟨hp, g, d, tk, os⟩ := s
    obtain ⟨hl, h⟩ := h
    have f1 := ev_sub_sd
    wp_walk using wpAny_loadPart' hl, wpAny_load hl
    exact ⟨_, rfl, h⟩
theorem ev_str_eq_dict (b : Str) (u : Tok) (l : Addr) (c : Value) (es : Array DictEntry) (n : Nat) (dd : Option Addr) (sl : Array (Option Value)) :
    Meets (Builtin.«str.__eq__» ⟨[.str b u, .ref l], []⟩) (fun _ R s => s.heap.get? l = some { cls := c, dict := dd, data := .dict es n, slots := sl } ∧ R (.ok (.ret .notImplemented)) s) :=
  .of_wp fun prog w A R s h => by
    obtain ⟨hp, g, d, tk, os⟩ := s
    obtain ⟨hl, h⟩ := h
    wp_walk using wpAny_loadPart' hl, wpAny_load hl
    exact ⟨_, rfl, h⟩
theorem ev_str_ne_dict (b : Str) (u : Tok) (l : Addr) (c : Value) (es : Array DictEntry) (n : Nat) (dd : Option Addr) (sl : Array (Option Value)) :
    Meets (Builtin.«str.__ne__» ⟨[.str b u, .ref l], []⟩) (fun _ R s => s.heap.get? l = some { cls := c, dict := dd, data := .dict es n, slots := sl } ∧ R (.ok (.ret .notImplemented)) s) :=
  .of_wp fun prog w A R s h => by
    obtain ⟨hp, g, d, tk, os⟩ := s
    obtain ⟨hl, h⟩ := h
    wp_walk using wpAny_loadPart' hl, wpAny_load hl
    exact ⟨_, rfl, h⟩
theorem ev_rc_dict_str {l : Addr} {o : Obj} {es : Array DictEntry} {n : Nat} (b : Str) (u : Tok) (ho : s.heap.get? l = some o) (hc : o.cls = .type "dict") (hd : o.data = .dict es n) (hu : A.units < cLine) :
    RcAt A s (.ref l) (.str b u) false := fun prog w E Q h => by
  obtain ⟨cls, dd, data, sl⟩ := o
  simp only at hc hd
  subst hc hd
  exact rc_eq_decline_or (k := false) ⟨_, ho, rfl⟩ (typeIs_str s b u) (by decide) ev_sub_sd F.slot_dict_eq F.slot_str_eq_refl
    (fun _ hq => call_meets F.slot_dict_eq ⟨_, ho, rfl⟩ F.entry_dict_eq (F.args_dict_eq_2 _ _) (ev_dict_eq_str l es n dd sl b u) ⟨ho, hq⟩)
    (fun _ hq => call_meets F.slot_str_eq_refl (typeIs_str s b u) F.entry_str_eq (F.args_str_eq_2 _ _) (ev_str_eq_dict b u l (.type "dict") es n dd sl) ⟨ho, hq⟩)
    (fun _ hq => wpAny_of_eq (rfl : isSame (.ref l) (.str b u) = pure false) hq) (.inr hu) h
theorem ev_rn_dict_str {l : Addr} {o : Obj} {es : Array DictEntry} {n : Nat} (b : Str) (u : Tok) (ho : s.heap.get? l = some o) (hc : o.cls = .type "dict") (hd : o.data = .dict es n) (hu : A.units < cLine) :
    RcNeAt A s (.ref l) (.str b u) true := fun prog w E Q h => by
  obtain ⟨cls, dd, data, sl⟩ := o
  simp only at hc hd
  subst hc hd
  exact rc_ne_decline_or (k := false) ⟨_, ho, rfl⟩ (typeIs_str s b u) (by decide) ev_sub_sd F.slot_dict_ne F.slot_str_ne_refl
    (fun _ hq => call_meets F.slot_dict_ne ⟨_, ho, rfl⟩ F.entry_dict_ne (F.args_dict_ne_2 _ _) (ev_dict_ne_str l es n dd sl b u) ⟨ho, hq⟩)
    (fun _ hq => call_meets F.slot_str_ne_refl (typeIs_str s b u) F.entry_str_ne (F.args_str_ne_2 _ _) (ev_str_ne_dict b u l (.type "dict") es n dd sl) ⟨ho, hq⟩)
    (fun _ hq => wpAny_of_eq (rfl : isSame (.ref l) (.str b u) = pure false) hq) (.inr hu) h
end
end PySem.SeqAt
namespace Ev
open PySem PySem.Spec PyProof.Rows L2
def isStrD (t : Str) : PyData → Bool
  | .str x => x == t
  | _ => false
def rEqS (K : PySem.W.Frag) : R2 := fun x y H Q => ∃ (d : PyData) (t : Str), Da K H x d ∧ y = .str t ∧ Q (.bl (isStrD t d)) H
def rNeS (K : PySem.W.Frag) : R2 := fun x y H Q => ∃ (d : PyData) (t : Str), Da K H x d ∧ y = .str t ∧ Q (.bl (!isStrD t d)) H
section
variable {X : Cx}
theorem op_eqS (hu : X.A.units < cLine) : OpR X (compareOp .Eq) (rEqS X.K) := by
  intro pins s σ H x y v u Q I rx ry h
  obtain ⟨d, t, hd, rfl, q⟩ := h
  obtain ⟨tk, rfl⟩ := ry
  have fin : ∀ b, b = isStrD t d → EP X pins σ Q (.bool b) s := fun b e => ⟨.bl b, H, I, rfl, by rw [e]; exact q⟩
  cases hd with
  | non =>
    cases rx
    exact SeqAt.RcAt.none_str t tk _ _ _ _ (fin _ rfl)
  | bl b =>
    cases rx
    exact SeqAt.RcAt.bool_str b t tk _ _ _ _ (fin _ rfl)
  | int i =>
    obtain ⟨tk', rfl⟩ := rx
    exact SeqAt.RcAt.int_str i tk' t tk _ _ _ _ (fin _ rfl)
  | str x =>
    obtain ⟨tk', rfl⟩ := rx
    exact SeqAt.RcAt.str_str x tk' t tk _ _ _ _ (fin _ rfl)
  | lst hs ha =>
    cases rx
    obtain ⟨its, rv, ⟨o, n, ho, hc, _, hd⟩, _⟩ := I.list hs
    exact SeqAt.RcAt.list_str t tk ⟨o, ho, hc, n, hd⟩ hu _ _ _ _ (fin _ rfl)
  | tup hs ha =>
    cases rx
    obtain ⟨its, rv, ⟨o, ho, hc, n, hd⟩, _⟩ := I.tuple hs
    exact SeqAt.RcAt.tuple_str t tk ⟨o, ho, hc, n, hd⟩ hu _ _ _ _ (fin _ rfl)
  | @dic a kvs _ he hk =>
    cases rx
    have ok : ObjOk X.prog X.w H s.heap a (.dK kvs) := I.hok a _ he
    obtain ⟨_, ns, vs, kv, o, es, ep, ho, ex, hd, _⟩ := ok
    exact SeqAt.ev_rc_dict_str t tk ho ex.1 hd hu _ _ _ _ (fin _ rfl)
theorem op_neS (hu : X.A.units < cLine) : OpR X (compareOp .NotEq) (rNeS X.K) := by
  intro pins s σ H x y v u Q I rx ry h
  obtain ⟨d, t, hd, rfl, q⟩ := h
  obtain ⟨tk, rfl⟩ := ry
  have fin : ∀ b, b = (!isStrD t d) → EP X pins σ Q (.bool b) s := fun b e => ⟨.bl b, H, I, rfl, by rw [e]; exact q⟩
  cases hd with
  | non =>
    cases rx
    exact SeqAt.RcNeAt.none_str t tk _ _ _ _ (fin _ rfl)
  | bl b =>
    cases rx
    exact SeqAt.RcNeAt.bool_str b t tk _ _ _ _ (fin _ rfl)
  | int i =>
    obtain ⟨tk', rfl⟩ := rx
    exact SeqAt.RcNeAt.int_str i tk' t tk _ _ _ _ (fin _ rfl)
  | str x =>
    obtain ⟨tk', rfl⟩ := rx
    exact SeqAt.RcNeAt.str_str x tk' t tk _ _ _ _ (fin _ rfl)
  | lst hs ha =>
    cases rx
    obtain ⟨its, rv, ⟨o, n, ho, hc, _, hd⟩, _⟩ := I.list hs
    exact SeqAt.RcNeAt.list_str t tk ⟨o, ho, hc, n, hd⟩ hu _ _ _ _ (fin _ rfl)
  | tup hs ha =>
    cases rx
    obtain ⟨its, rv, ⟨o, ho, hc, n, hd⟩, _⟩ := I.tuple hs
    exact SeqAt.RcNeAt.tuple_str t tk ⟨o, ho, hc, n, hd⟩ hu _ _ _ _ (fin _ rfl)
  | @dic a kvs _ he hk =>
    cases rx
    have ok : ObjOk X.prog X.w H s.heap a (.dK kvs) := I.hok a _ he
    obtain ⟨_, ns, vs, kv, o, es, ep, ho, ex, hd, _⟩ := ok
    exact SeqAt.ev_rn_dict_str t tk ho ex.1 hd hu _ _ _ _ (fin _ rfl)
/-- t == () -/
def rEqT0 (K : PySem.W.Frag) : R2 := fun x y H Q => ∃ (a b : Addr) (xs : List V), x = .ref a ∧ y = .ref b ∧ SqT K H a xs ∧ SqT K H b [] ∧ Q (.bl (decide (xs = []))) H
theorem op_eqT0 (hu : X.A.units < cLine) : OpR X (compareOp .Eq) (rEqT0 X.K) := by
  intro pins s σ H x y v u Q I rx ry h
  obtain ⟨a, b, xs, rfl, rfl, h1, h2, q⟩ := h
  cases rx
  cases ry
  obtain ⟨i1, r1, ⟨o1, ho1, hc1, n1, hd1⟩, _⟩ := I.tuple h1
  obtain ⟨i2, r2, ⟨o2, ho2, hc2, n2, hd2⟩, _⟩ := I.tuple h2
  have e2 : i2 = [] := by
    have z := Paired.length r2
    exact List.length_eq_zero_iff.mp z.symm
  subst e2
  have l1 : i1.length = xs.length := (Paired.length r1).symm
  refine SeqAt.rcIn_tuples (e := fun _ => true) ⟨o1, ho1, hc1, n1, hd1⟩ ⟨o2, ho2, hc2, n2, hd2⟩ hu (fun j j1 j2 => absurd j2 (by simp)) ?_
  have z : ((List.range (min i1.toArray.size ([] : List Value).toArray.size)).all (fun _ => true) && i1.toArray.size == ([] : List Value).toArray.size) = decide (xs = []) := by
    cases xs with
    | nil =>
      have : i1 = [] := List.length_eq_zero_iff.mp l1
      subst this
      rfl
    | cons x r =>
      have : i1.length = r.length + 1 := l1
      simp [this]
  rw [z]
  exact ⟨.bl _, H, I, rfl, q⟩
end
end Ev

/-! ## The law's small programs -/
namespace Ev
open PySem PySem.Spec PyProof.Rows L2
theorem wlen_mul {W : Nat} : ∀ {is : List It}, (∀ i ∈ is, (It.w i).length ≤ W) → (Its.w is).length ≤ is.length * W
  | [], _ => by
    rw [Its.w]
    exact Nat.zero_le _
  | i :: is, h => by
    rw [Its.w, List.length_append, List.length_cons, Nat.succ_mul]
    have a := h i (List.mem_cons_self ..)
    have b := wlen_mul fun j hj => h j (List.mem_cons_of_mem _ hj)
    omega
theorem wf_w {ns : List Str} : ∀ (n : Nat) (i : It), Wf ns 3 n i → (It.w i).length ≤ 3 * 9 ^ n
  | n, .line x t, h => by
    have h : x ∈ ns ∧ 1 ≤ t ∧ t ≤ 3 := by
      cases n <;> exact h
    rw [It.w, List.length_replicate]
    have : 1 ≤ 9 ^ n := Nat.pos_of_ne_zero (by simp)
    omega
  | 0, .loop r is, h => h.elim
  | n + 1, .loop r is, h => by
    obtain ⟨h1, h2, h3, h4, h5⟩ : 1 ≤ r ∧ r ≤ 3 ∧ 1 ≤ is.length ∧ is.length ≤ 3 ∧ ∀ i ∈ is, Wf ns 3 n i := h
    rw [It.w, flat_len]
    have a := wlen_mul fun i hi => wf_w n i (h5 i hi)
    have b : is.length * (3 * 9 ^ n) ≤ 3 * (3 * 9 ^ n) := Nat.mul_le_mul_right _ h4
    have c : r.toNat * (Its.w is).length ≤ 3 * (3 * (3 * 9 ^ n)) := Nat.mul_le_mul (by omega) (Nat.le_trans a b)
    rw [Nat.pow_succ]
    omega
/-- a small program -/
structure Sm (is : List It) : Prop where
  ne : is ≠ []
  ps : Its.ps is
  ok : ∀ i ∈ is, Okp 64 2 i
  nm : Its.nm is
  ni : Its.ni is ≤ 52
theorem Sm.prg {K : PySem.W.Frag} {H : Hp} {u : V} {is : List It} (h : Sm is) (hu : Da K H u (.tuple (is.map It.d))) : Prg K 64 2 H u is := ⟨hu, h.ok, by
  have a := Its.nl_ni is
  have b := h.ni
  omega⟩
theorem sm_of {ns : List Str} {is : List It} (h1 : 1 ≤ is.length) (h4 : is.length ≤ 4) (hn : ∀ x ∈ ns, x ∈ pool8) (h : ∀ i ∈ is, Wf ns 3 2 i) : Sm is where
  ne := fun e => by
    rw [e] at h1
    exact absurd h1 (by decide)
  ps := ps_of fun i hi => wf_ps 2 i (h i hi)
  ok := fun i hi => wf_okp (by decide) 2 i (h i hi)
  nm := nm_of fun i hi => wf_nm (by decide) hn 2 i (h i hi)
  ni := by
    have z := ni_mul fun i hi => wf_ni 2 i (h i hi)
    have z2 : is.length * itN 2 ≤ 4 * itN 2 := Nat.mul_le_mul_right _ h4
    have z3 : 4 * itN 2 = 52 := rfl
    omega
theorem sm_drop {i : It} {is : List It} (h : Sm (i :: is)) (hn : is ≠ []) : Sm is where
  ne := hn
  ps := by
    have z := h.ps
    rw [Its.ps] at z
    exact z.2
  ok := fun j hj => h.ok j (List.mem_cons_of_mem _ hj)
  nm := by
    have z := h.nm
    rw [Its.nm] at z
    exact z.2
  ni := by
    have z := h.ni
    rw [Its.ni] at z
    omega
theorem sm_line {x : Str} {t : Int} (hx : x ∈ pool8) (h1 : 1 ≤ t) (h2 : t ≤ 120) : Sm [.line x t] where
  ne := fun e => by cases e
  ps := ps_of fun i hi => by
    rw [List.mem_singleton.mp hi, It.ps]
    exact h1
  ok := fun i hi => by
    rw [List.mem_singleton.mp hi]
    exact okp_line.mpr ⟨by omega, by omega⟩
  nm := nm_of fun i hi => by
    rw [List.mem_singleton.mp hi, It.nm]
    exact ⟨List.all_eq_true.mp pool_nm x hx, by omega⟩
  ni := by
    rw [Its.ni, It.ni, Its.ni]
    decide
theorem sm_w {is : List It} (h : Sm is) : 1 ≤ (Its.w is).length := Its.w_pos is h.ne h.ps
/-- a pot is no list of texts -/
theorem pot_ne {H : Hp} {p l : Addr} {n : Nat} {ys : List V} {ws : List Str} (h1 : H p = some (.lst ys)) (hy : PotL n ys) (h2 : H l = some (.lst (ws.map V.str))) : l ≠ p := fun e => by
  rw [e, h1] at h2
  obtain ⟨x, y, c, rfl, _⟩ := hy
  cases ws with
  | nil => cases h2
  | cons w ws =>
    rw [List.map_cons] at h2
    injection h2 with h2
    injection h2 with h2
    injection h2 with h2
    cases h2
def spSmall (K : PySem.W.Frag) : Sp := fun vs H Q _ => ∃ (p : Addr) (xs : List V) (n : Nat), vs = [.ref p, .int 120] ∧ H p = some (.lst xs) ∧ PotL n xs ∧ n + 300 ≤ 1000000 ∧
  ∀ (H' : Hp) (ys : List V) (n' : Nat) (t l : Addr) (u : V) (is : List It), Bu p H H' → H' p = some (.lst ys) → PotL n' ys → n' ≤ n + 300 → H' t = some (.tup [u, .ref l]) → Prg K 64 2 H' u is → Sm is → (Its.w is).length ≤ 120 → H' l = some (.lst ((Its.w is).map V.str)) → Q (.ref t) H'
theorem scSm : FnScope ["_law_pot_here", "_law_most", "_law_names_here", "_law_items_here", "_law_ticks_here"] ["_law_pot_here", "_law_most"] (defScope (topS 34)) := ⟨rfl, rfl, rfl, by decide +kernel, rfl, by decide +kernel, by decide +kernel⟩
theorem bud24 : bud 2 4 ≤ 200 := by decide +kernel
section
variable {P : Program} {w : World} {K : PySem.W.Frag} {mg : Str → Option Value} {base : Heap} {f fT fN fI fL : Addr} {fd fdT fdN fdI fdL : FuncData}
theorem ok_small (F : Fun K "_law_small" "_law_small" (topS 34) f fd)
    (GT : FnOk P w K mg base CX0 1 fT fdT ["_law_pot_here", "_law_many"] spTake) (bT : Binds K fdT ["_law_pot_here", "_law_many"] []) (gT : mg "_law_take" = some (.ref fT)) (kT : PySem.W.keepIn K (.ref fT) = true)
    (GN : FnOk P w K mg base CX0 2 fN fdN ["_law_pot_here", "_law_many"] spNames) (bN : Binds K fdN ["_law_pot_here", "_law_many"] []) (gN : mg "_law_names" = some (.ref fN)) (kN : PySem.W.keepIn K (.ref fN) = true)
    (GI : FnOk P w K mg base CX0 5 fI fdI ["_law_pot_here", "_law_names_here", "_law_many", "_law_depth", "_law_most"] (spItems K 2)) (bI : Binds K fdI ["_law_pot_here", "_law_names_here", "_law_many", "_law_depth", "_law_most"] []) (gI : mg "_law_items" = some (.ref fI)) (kI : PySem.W.keepIn K (.ref fI) = true)
    (GL : FnOk P w K mg base CX0 3 fL fdL ["_law_items_here"] (spWr K 64 2)) (bL : Binds K fdL ["_law_items_here"] []) (gL : mg "_law_ticks" = some (.ref fL)) (kL : PySem.W.keepIn K (.ref fL) = true) (ml : mg "len" = none) :
    FnOk P w K mg base CX0 6 f fd ["_law_pot_here", "_law_most"] (spSmall K) := by
  refine F.ok scSm (fun vs H Q E h => ?_) (fun cdv A outer s H vs Q E hr h => ?_)
  · obtain ⟨p, xs, n, rfl, _⟩ := h
    rfl
  · obtain ⟨p, xs, n, rfl, hp, hx, hn, q⟩ := h
    have hr1 : Room 1 _ := hr.mono (show 1 ≤ 5 by omega)
    have hr2 : Room 2 _ := hr.mono (show 2 ≤ 5 by omega)
    have hr3 : Room 3 _ := hr.mono (show 3 ≤ 5 by omega)
    have hu : (A.deeper (envOfC "_law_small" (defScope (topS 34)) s.heap.objs.size f cdv)).units < cLine := hr.units0
    refine ⟨_, pss_cons (ps_set (i := 2) scSm.nd rfl (.inl rfl) (pe_call GN hr2 (by rfl) gN kN bN .nil pass0 (pa_cons (pv 0) (pa_cons (pe_op op_add pe_int (pe_call GT hr1 (by rfl) gT kT bT .nil pass0 (pa_cons (pv 0) (pa_cons pe_int pa_nil)))) pa_nil))))
      (pss_cons (ps_set (i := 3) scSm.nd rfl (.inl rfl) (pe_call GI hr (by rfl) gI kI bI .nil pass0 (pa_cons (pv 0) (pa_cons (pv 2) (pa_cons pe_int (pa_cons pe_int (pa_cons pe_int pa_nil)))))))
      (pss_cons (ps_set (i := 4) scSm.nd rfl (.inl rfl) (pe_call GL hr3 (by rfl) gL kL bL .nil pass0 (pa_cons (pv 3) pa_nil)))
      (pss_cons (ps_while PassesOwn.never (pt_cmpR op_gt (pe_callB call_len_seq (by rfl) ml PySem.boot_len (pa_cons (pv 4) pa_nil)) (pv 1) (nomark _))
        (pss_cons (ps_set (i := 3) scSm.nd rfl (.inl rfl) (pe_slice sl_tupA (pv 3) (po_some pe_int) po_none))
        (pss_cons (ps_if (pt_cmpR (op_eqT0 hu) (pv 3) (pe_tup pa_nil) (nomark _))
          (pss_one (ps_set (i := 3) scSm.nd rfl (.inl rfl) (pe_tup (pa_cons (pe_tup (pa_cons pe_str (pa_cons (pe_ix ix_list (pv 2) pe_int (fun _ _ => rfl)) (pa_cons (pe_op op_add pe_int (pe_call GT hr1 (by rfl) gT kT bT .nil pass0 (pa_cons (pv 0) (pa_cons (pv 1) pa_nil)))) pa_nil)))) pa_nil)))) pss_nil)
        (pss_one (ps_set (i := 4) scSm.nd rfl (.inl rfl) (pe_call GL hr3 (by rfl) gL kL bL .nil pass0 (pa_cons (pv 3) pa_nil)))))))
      (pss_one (ps_ret (pe_tup (pa_cons (pv 3) (pa_cons (pv 4) pa_nil)))))))), ?_⟩
    have sl := sizeLine_eq
    have b24 := bud24
    refine ⟨_, rfl, _, rfl, p, xs, 4, n, rfl, hp, hx, by omega, by decide, by decide +kernel, fun H1 ys1 d1 hb1 hy1 hY1 d0 d4 => ?_⟩
    obtain ⟨dn, rfl⟩ := Int.eq_ofNat_of_zero_le d0
    refine ⟨_, _, rfl, rfl, p, ys1, 1 + dn, n + 1, rfl, hy1, hY1, by omega, by omega, fun H2 ys2 qn ns hb2 hy2 hY2 nq1 nqp hq2 hnl hnd hnp => ?_⟩
    have hns : ns ≠ [] := fun e => by
      rw [e] at hnl
      simp at hnl
      omega
    refine ⟨_, rfl, _, rfl, p, qn, ys2, ns, 4, n + 1 + (1 + dn), 3, rfl, hy2, hY2, nqp.symm, .inl (.inl hq2), hns, by omega, by decide, by decide, by decide, by decide, by omega, fun H3 ys3 u is3 n3 hb3 hy3 hY3 hn3 hu3 l1 l4 hw3 => ?_⟩
    have hsm := sm_of l1 l4 hnp hw3
    have hwl : (Its.w is3).length ≤ 972 := by
      have a := wlen_mul fun i hi => wf_w 2 i (hw3 i hi)
      have b : is3.length * (3 * 9 ^ 2) ≤ 4 * (3 * 9 ^ 2) := Nat.mul_le_mul_right _ l4
      omega
    have hu3' : Da K H3 u (.tuple (is3.map It.d)) := hu3.mono (newer_sub fun _ _ _ e => e)
    refine ⟨_, rfl, u, is3, rfl, hsm.prg hu3', hsm.ps, by omega, fun H4 l s4 hl4 => ?_⟩
    have hb4 : Bu p H H4 := ((hb1.trans hb2).trans hb3).trans (Bu.of s4)
    have hq4 : SqL K H4 qn (ns.map V.str) := bu_seq nqp (hb3.trans (Bu.of s4)) (.inl (.inl hq2))
    refine while_w (fun m σ' H' => ∃ (l : Addr) (u : V) (is : List It) (ys : List V) (n' : Nat), σ' = [some (.ref p), some (.int 120), some (.ref qn), some u, some (.ref l)] ∧ Bu p H H' ∧ H' p = some (.lst ys) ∧ PotL n' ys ∧ SqL K H' qn (ns.map V.str) ∧ Da K H' u (.tuple (is.map It.d)) ∧ Sm is ∧ (Its.w is).length ≤ 972 ∧
        H' l = some (.lst ((Its.w is).map V.str)) ∧ m = (if 120 < (Its.w is).length then is.length else 0) ∧ n' + (if 120 < (Its.w is).length then 1 else 0) ≤ n + 300)
      ⟨_, l, u, is3, ys3, n3, rfl, hb4, s4 _ _ hy3, hY3, hq4, hu3'.mono s4, hsm, hwl, hl4, rfl, by split <;> omega⟩ ?_ ?_
    · rintro m σ' H' ⟨l, u, is, ys, n', rfl, hb', hp', hY', hq', hu', hsm', hwl', hl', rfl, hn'⟩
      refine ⟨_, rfl, l, _, rfl, .inl (.inl (.inl hl')), _, rfl, _, _, rfl, rfl, _, rfl, ite2 (fun e => ?_) (fun e => ?_)⟩
      · have hgt : 120 < (Its.w is).length := by
          have z := of_decide_eq_true e
          rw [List.length_map] at z
          omega
        rw [if_pos hgt] at hn'
        obtain ⟨i0, js, rfl⟩ : ∃ i0 js, is = i0 :: js := List.exists_cons_of_ne_nil hsm'.ne
        refine ⟨_, rfl, 1, rfl, ?_⟩
        dsimp only [tNoPart]
        refine sl_val (lo := some 1) (hi := none) hu' fun H5 u5 s5 hu5 => ?_
        rw [show cutD ((i0 :: js).map It.d) (some 1) none = js.map It.d from cut_from _ 1] at hu5
        obtain ⟨a5, xs5, rfl, hs5, ha5⟩ := da_prog hu5
        have hx5 := daAll_len ha5
        rw [List.length_map] at hx5
        have hwj : (Its.w js).length ≤ 972 := by
          rw [Its.w, List.length_append] at hwl'
          omega
        refine ⟨_, rfl, (by show 0 ≤ sizeLine; exact Nat.zero_le _), fun t0 nt0 => ⟨a5, t0, xs5, rfl, rfl, seqT_mono (same_put nt0) hs5, .inl (.inl upd_same), _, rfl, ite2 (fun e => ?_) (fun e => ?_)⟩⟩
        · have s6 := s5.trans (same_put (o := .tup []) nt0)
          obtain ⟨n0, nt, hnn⟩ := List.exists_cons_of_ne_nil hns
          have g : atI (ns.map V.str) 0 = some (.str n0) := by
            refine atI_nat (j := 0) ?_
            rw [hnn]
            rfl
          have hq6 : SqL K _ qn (ns.map V.str) := bu_seq nqp (Bu.of s6) hq'
          refine ⟨_, rfl, qn, _, 0, _, rfl, rfl, hq6, g, _, rfl, _, rfl, p, ys, 120, n', rfl, s6 _ _ hp', hY', by omega, by decide, by decide +kernel, fun H7 ys7 d7 hb7 hy7 hY7 e0 e1 => ⟨_, _, rfl, rfl, (by show 3 ≤ sizeLine; decide), fun t1 nt1 => ⟨(by show 1 ≤ sizeLine; decide), fun t2 nt2 => ?_⟩⟩⟩
          have s7 := (same_put nt1 (o := .tup [.str "line", .str n0, .int (1 + d7)])).trans (same_put (o := .tup [.ref t1]) nt2)
          have hsl : Sm [.line n0 (1 + d7)] := sm_line (hnp n0 (by rw [hnn]; exact List.mem_cons_self ..)) (by omega) (by omega)
          have hd1 : Da K (upd (upd H7 t1 (.tup [.str "line", .str n0, .int (1 + d7)])) t2 (.tup [.ref t1])) (.ref t1) (It.d (.line n0 (1 + d7))) := by
            rw [It.d]
            exact .tup (xs := [.str "line", .str n0, .int (1 + d7)]) (.inl (.inl (same_put nt2 _ _ upd_same))) (.cons (.str _) (.cons (.str _) (.cons (.int _) .nil)))
          have hd2 : Da K (upd (upd H7 t1 (.tup [.str "line", .str n0, .int (1 + d7)])) t2 (.tup [.ref t1])) (.ref t2) (.tuple ([It.line n0 (1 + d7)].map It.d)) := .tup (xs := [.ref t1]) (.inl (.inl upd_same)) (.cons hd1 .nil)
          have hwl1 : (Its.w [.line n0 (1 + d7)]).length ≤ 120 := by
            rw [w_one, It.w, List.length_replicate]
            omega
          refine ⟨_, rfl, .ref t2, [.line n0 (1 + d7)], rfl, hsl.prg hd2, hsl.ps, by omega, fun H8 l8 s8 hl8 => ?_⟩
          have hb68 : Bu p H' H8 := ((Bu.of s6).trans hb7).trans (Bu.of (s7.trans s8))
          refine ⟨0, ?_, l8, .ref t2, _, ys7, n' + 1, rfl, hb'.trans hb68, (s7.trans s8) _ _ hy7, hY7, bu_seq nqp hb68 hq', hd2.mono s8, hsl, by omega, hl8, ?_, ?_⟩
          · rw [if_pos hgt, List.length_cons]
            omega
          · rw [if_neg (by omega)]
          · rw [if_neg (by omega)]
            omega
        · have hjs : js ≠ [] := fun z => by
            rw [z] at hx5
            exact e (decide_eq_true (List.length_eq_zero_iff.mp hx5))
          have hsj := sm_drop hsm' hjs
          have s6 := s5.trans (same_put (o := .tup []) nt0)
          refine ⟨_, rfl, .ref a5, js, rfl, hsj.prg (hu5.mono (same_put nt0)), hsj.ps, by omega, fun H8 l8 s8 hl8 => ?_⟩
          have s18 := s6.trans s8
          refine ⟨_, ?_, l8, .ref a5, js, ys, n', rfl, hb'.trans (Bu.of s18), s18 _ _ hp', hY', bu_seq nqp (Bu.of s18) hq', (hu5.mono (same_put nt0)).mono s8, hsj, hwj, hl8, rfl, ?_⟩
          · rw [if_pos hgt, List.length_cons]
            split <;> omega
          · split <;> omega
      · have hle : ¬ 120 < (Its.w is).length := fun z => e (decide_eq_true (by rw [List.length_map]; omega))
        rw [if_neg hle] at hn'
        refine ⟨_, rfl, _, rfl, (by show 2 ≤ sizeLine; decide), fun t nt => ?_⟩
        have s9 := same_put (o := .tup [u, .ref l]) nt
        exact q _ ys n' t l u is (hb'.trans (Bu.of s9)) (s9 _ _ hp') hY' hn' upd_same (hsm'.prg (hu'.mono s9)) hsm' (by omega) (s9 _ _ hl')
    · rintro σ' H' Q1 Q2 hQ ⟨v, hv, a1, a2, e1, e2, v2, hv2, i, j, ei, ej, k, ek, h⟩
      exact ⟨v, hv, a1, a2, e1, e2, v2, hv2, i, j, ei, ej, k, ek, hQ _ _ h⟩
end
end Ev

/-! ## The law's counts -/
namespace Ev
open PySem PySem.Spec PyProof.Rows L2
/-- the scope of the outer comprehension, as it is entered -/
abbrev scCtO : Scope := { kind := .function, names := [(".0", .local), ("_law_name", .cell), ("len", .globalImplicit), ("_law_word", .cell)], isGenerator := false, isCoroutine := false }
theorem scCt : FnScope ["_law_word", "_law_names_here", "_law_name", "_law_one"] ["_law_word", "_law_names_here"] (defScope (topS 35)) := ⟨rfl, rfl, rfl, by decide +kernel, rfl, by decide +kernel, by decide +kernel⟩
theorem range_count (w : List Str) (n : Str) : ((List.range w.length).filter fun j => ((w[j]?).map fun z => decide (z = n)).getD false).length = w.count n := by
  rw [← List.countP_eq_length_filter]
  have z := congrArg (List.countP id) (range_map w (fun z => decide (z = n)) false)
  rw [List.countP_map, List.countP_map] at z
  rw [show (fun j => ((w[j]?).map fun z => decide (z = n)).getD false) = id ∘ fun j => ((w[j]?).map fun z => decide (z = n)).getD false from rfl, z]
  rw [List.count_eq_countP]
  refine List.countP_congr fun x _ => ?_
  simp
theorem daAll_strs {K : PySem.W.Frag} {H : Hp} : ∀ w : List Str, DaAll K H (w.map V.str) (w.map PyData.str)
  | [] => .nil
  | x :: w => .cons (.str x) (daAll_strs w)
def cntT (ns w : List Str) : PyData := .tuple (ns.map fun n => pairD (n, (w.count n : Nat)))
def spCt (K : PySem.W.Frag) : Sp := fun vs H Q _ => ∃ (l a : Addr) (w ns : List Str), vs = [.ref l, .ref a] ∧ SqL K H l (w.map V.str) ∧ SqT K H a (ns.map V.str) ∧ w.length ≤ 100000 ∧ ns.length ≤ 100000 ∧
  ∀ H' u, Same H H' → Da K H' u (cntT ns w) → Q u H'
abbrev rLn (K : PySem.W.Frag) : List V → Hp → VK → Prop := fun xs H Q => ∃ p ys, xs = [V.ref p] ∧ (SqL K H p ys ∨ SqT K H p ys) ∧ Q (.int ys.length) H
abbrev inLc (K : PySem.W.Frag) : TE := tLc (iList K (tVar 0)) (gName 3) (tTest (tOp rEq (tVar 3) (tVar 2))) (tVar 3) [3]
section
variable {P : Program} {w : World} {K : PySem.W.Frag} {mg : Str → Option Value} {base : Heap} {f : Addr} {fd : FuncData}
/-- len(list) -/
theorem g_lenL {H0 : Hp} {σ : L2.St} {te : TE} {g : GP} {n : Nat} (h : Gives H0 te g σ) (hg : ∀ H u, g.p H u → ∃ p us, u = V.ref p ∧ SqL K H p us ∧ us.length = n) : Gives H0 (tCB (rLn K) (tCons te tNil)) (gEq (.int ((n : Nat) : Int))) σ := fun H Q s q =>
  h H _ s fun H1 u s1 hu => by
    obtain ⟨p, us, e, hs, hn⟩ := hg H1 u hu
    subst e
    refine ⟨p, us, rfl, .inl hs, ?_⟩
    rw [hn]
    exact q H1 _ s1 rfl
theorem g_cnt1 {H0 : Hp} {l : Addr} {x1 : V} {n : Str} {w : List Str} {y3 : Option V} (hl : SqL K H0 l (w.map V.str)) (hz : w.length ≤ 100000) :
    Gives H0 (tCB (rLn K) (tCons (inLc K) tNil)) (gEq (.int ((w.count n : Nat) : Int))) [some (.ref l), some x1, some (.str n), y3] := fun H Q s q => by
  have key := g_lcF (K := K) (H0 := H0) (σ := [some (.ref l), some x1, some (.str n), y3]) (ti := tVar 0) (te := tVar 3) (tt := tTest (tOp rEq (tVar 3) (tVar 2))) (ds := w.map PyData.str) (f := fun j => ((w[j]?).map fun z => decide (z = n)).getD false)
    (y := fun j => ((w[j]?).map V.str).getD .non) (g := gName 3) (vs := [3]) (fun HH Q' sH k' => ⟨_, rfl, k' HH l _ Same.rfl' (sH.seq hl) (daAll_strs w)⟩) (by rw [List.length_map]; omega) fun j x' d hd HH R N sH hx hR hN => by
      rw [List.getElem?_map] at hd
      obtain ⟨z, hz', rfl⟩ := Option.map_eq_some_iff.mp hd
      cases hx
      rw [hz'] at hR hN
      have hR : decide (z = n) = true → ∀ H', Same HH H' → R (.str z) H' := hR
      have hN : decide (z = n) = false → ∀ H', Same HH H' → N H' := hN
      refine ⟨rfl, _, rfl, _, rfl, rfl, _, rfl, ?_⟩
      have ed : decide (V.str z = V.str n) = decide (z = n) := decide_eq_decide.mpr ⟨fun h => V.str.inj h, fun h => by rw [h]⟩
      rw [ed]
      by_cases e : z = n
      · rw [decide_eq_true e] at hR ⊢
        exact iteT ⟨_, rfl, hR rfl HH Same.rfl'⟩
      · rw [decide_eq_false e] at hN ⊢
        exact iteF (hN rfl HH Same.rfl')
  exact g_lenL key (fun H1 u ⟨p, us, e, hp, ha⟩ => ⟨p, us, e, .inl (.inl hp), by rw [all_eq ha, List.length_map, List.length_map, range_count]⟩) H Q s q
theorem ok_ct (F : Fun K "_law_counted" "_law_counted" (topS 35) f fd) (ml : mg "len" = none) (mT : mg "tuple" = none) : FnOk P w K mg base CX0 1 f fd ["_law_word", "_law_names_here"] (spCt K) := by
  refine F.ok scCt (fun vs H Q E h => ?_) (fun cdv A outer s H vs Q E hr h => ?_)
  · obtain ⟨l, a, w, ns, rfl, _⟩ := h
    rfl
  · obtain ⟨l, a, w, ns, rfl, hl, ha, hw, hn, q⟩ := h
    refine ⟨_, pss_one (ps_ret (pe_callTy call_tuple_of (by rfl) mT (by decide +kernel) (pa_cons (pe_lc (own := [("_law_name", 2)]) (g := gName 2) (tt := tYes) (te := tTup (tCons (tVar 2) (tCons (tCB (rLn K) (tCons (inLc K) tNil)) tNil))) rfl scCt.nd (pi_tup (pv 1))
      (blkOk_by (N := ["_law_word", "_law_names_here", "_law_name", "_law_one"]) (sc := defScope (topS 35)) (by decide +kernel)) (fun _ _ _ _ _ => pg_name (i := 2) scCt.nd rfl (Or.inr rfl)) (fun _ _ _ _ _ => pts_nil)
      (fun _ _ _ _ _ => pe_tup (pa_cons (pv 2) (pa_cons (pe_callB call_len_seq (by rfl) ml PySem.boot_len (pa_cons (pe_lc (own := [("_law_one", 3)]) (g := gName 3) (tt := tTest (tOp rEq (tVar 3) (tVar 2))) (te := tVar 3) rfl scCt.nd (pi_list (pv 0))
        (blkOk_by (N := ["_law_word", "_law_names_here", "_law_name", "_law_one"]) (sc := scCtO) (by decide +kernel)) (fun _ _ _ _ _ => pg_name (i := 3) scCt.nd rfl (Or.inl rfl)) (fun _ _ _ _ _ => pts_one (pt_cmpR op_eq (pv 3) (pv 2) (nomark _))) (fun _ _ _ _ _ => pv 3)) pa_nil)) pa_nil)))) pa_nil))), ?_⟩
    have ht : tupDs (ns.map fun n => pairD (n, (w.count n : Nat))) = true := by
      have z := tup_pairs (ns.map fun n => (n, ((w.count n : Nat) : Int)))
      rw [List.map_map] at z
      exact z
    have key := g_lcDT (K := K) (H0 := H) (σ := [some (.ref l), some (.ref a), none, none]) (te := tTup (tCons (tVar 2) (tCons (tCB (rLn K) (tCons (inLc K) tNil)) tNil))) (a := a) (xs := ns.map V.str) (es := ns.map fun n => pairD (n, (w.count n : Nat))) (g := gName 2) (vs := [2]) (i := 1) rfl
      ha (by rw [List.length_map]; omega) ht (by rw [List.length_map, List.length_map]) fun j x' e hx' he HH R sH hR => by
        rw [List.getElem?_map] at hx' he
        obtain ⟨z, hz, rfl⟩ := Option.map_eq_some_iff.mp hx'
        rw [hz] at he
        cases he
        refine ⟨rfl, _, rfl, ?_⟩
        refine g_cnt1 (K := K) (H0 := H) (w := w) (n := z) (x1 := .ref a) (y3 := none) hl hw HH _ sH fun H4 u s4 hu => ?_
        cases hu
        exact ⟨(by show 2 ≤ sizeLine; decide), fun t nt => hR _ _ (s4.trans (same_put nt)) (.tup (xs := [.str z, .int ((w.count z : Nat) : Int)]) (.inl (.inl upd_same)) (.cons (.str _) (.cons (.int _) .nil)))⟩
    refine s_ret (g_tupOf key) fun H4 u s4 hu4 => ?_
    exact q H4 u s4 hu4
end
end Ev

/-! ## Lists that are the same; enumerate -/
namespace Ev
open PySem PySem.Spec PyProof.Rows L2
/-! ### where a name stands -/
def spF (n : Str) : List Str → Nat → List Nat
  | [], _ => []
  | x :: w, i => if x = n then i :: spF n w (i + 1) else spF n w (i + 1)
theorem spF_len (n : Str) : ∀ (w : List Str) (i : Nat), (spF n w i).length = w.count n
  | [], _ => rfl
  | x :: w, i => by
    unfold spF
    by_cases e : x = n
    · rw [if_pos e, List.length_cons, spF_len n w (i + 1), e, List.count_cons_self]
    · rw [if_neg e, spF_len n w (i + 1), List.count_cons_of_ne e]
theorem spF_snoc (n x : Str) : ∀ (w : List Str) (i : Nat), spF n (w ++ [x]) i = spF n w i ++ if x = n then [i + w.length] else []
  | [], i => by
    show (if x = n then i :: [] else []) = _
    rfl
  | y :: w, i => by
    show (if y = n then i :: spF n (w ++ [x]) (i + 1) else spF n (w ++ [x]) (i + 1)) = (if y = n then i :: spF n w (i + 1) else spF n w (i + 1)) ++ _
    rw [spF_snoc n x w (i + 1), List.length_cons, show i + 1 + w.length = i + (w.length + 1) by omega]
    split
    · rfl
    · rfl
theorem spF_nth (n : Str) : ∀ (w : List Str) (i p : Nat), w[p]? = some n → (spF n w i)[(w.take p).count n]? = some (i + p)
  | [], i, p, h => by cases h
  | x :: w, i, 0, h => by
    have e : x = n := Option.some.inj h
    unfold spF
    rw [if_pos e, List.take_zero]
    rfl
  | x :: w, i, p + 1, h => by
    have z := spF_nth n w (i + 1) p h
    unfold spF
    rw [List.take_succ_cons]
    by_cases e : x = n
    · rw [if_pos e, e, List.count_cons_self, List.getElem?_cons_succ, z]
      congr 1
      omega
    · rw [if_neg e, List.count_cons_of_ne e, z]
      congr 1
      omega
theorem nth_spot {w : List Str} {n : Str} {k p : Nat} (h : Nth w n (k : Nat) p) : (spF n w 0)[k]? = some p := by
  have z := spF_nth n w 0 p h.at'
  have e : (w.take p).count n = k := by
    have y := h.cnt
    omega
  rw [e, Nat.zero_add] at z
  exact z
/-! ### the same data -/
theorem lay_all : ∀ {ds : List PyData}, (∀ d ∈ ds, d.canLay0 = true) → PyData.canLayAll0 ds = true
  | [], _ => by rw [PyData.canLayAll0]
  | d :: ds, h => by
    rw [PyData.canLayAll0, h d (List.mem_cons_self ..), lay_all fun x hx => h x (List.mem_cons_of_mem _ hx)]
    rfl
theorem dep_all0 : ∀ {ds : List PyData}, (∀ d ∈ ds, d.depth = 0) → PyData.depthAll ds = 0
  | [], _ => by rw [PyData.depthAll]
  | d :: ds, h => by
    rw [PyData.depthAll, h d (List.mem_cons_self ..), dep_all0 fun x hx => h x (List.mem_cons_of_mem _ hx)]
    rfl
theorem shaped_lst {ds : List PyData} (h : ∀ d ∈ ds, d.canLay0 = true ∧ d.depth = 0) : SeqAt.shaped (.list ds) = true := by
  unfold SeqAt.shaped
  rw [PyData.canLay0, lay_all fun d hd => (h d hd).1, PyData.depth, dep_all0 fun d hd => (h d hd).2]
  rfl
theorem shaped_strs {w : List Str} (h : ∀ x ∈ w, PyData.strOk x = true) : SeqAt.shaped (.list (w.map PyData.str)) = true := shaped_lst fun d hd => by
  obtain ⟨x, hx, rfl⟩ := List.mem_map.mp hd
  exact ⟨by rw [PyData.canLay0]; exact h x hx, by rw [PyData.depth]⟩
theorem shaped_nats {w : List Nat} : SeqAt.shaped (.list (w.map fun n => PyData.int (n : Nat))) = true := shaped_lst fun d hd => by
  obtain ⟨x, hx, rfl⟩ := List.mem_map.mp hd
  exact ⟨by rw [PyData.canLay0], by rw [PyData.depth]⟩
section
variable {K : PySem.W.Frag} {H0 : Hp} {σ : L2.St} {te tf : TE} {G G' : GP}
theorem dp_strs {H : Hp} : ∀ w : List Str, DpAll K H (w.map V.str) (w.map PyData.str)
  | [] => .nil
  | x :: w => .cons (.str x) (dp_strs w)
theorem dp_nats {H : Hp} : ∀ w : List Nat, DpAll K H (w.map fun n => V.int (n : Nat)) (w.map fun n => PyData.int (n : Nat))
  | [] => .nil
  | x :: w => .cons (.int _) (dp_nats w)
/-- a != b of the same data -/
theorem gt_neD {d : PyData} (h : Gives H0 te G σ) (hd : ∀ H u, G.p H u → Dp K H u d) (h' : Gives H0 tf G' σ) (hd' : ∀ H u, G'.p H u → Dp K H u d) (sh : SeqAt.shaped d = true) : GivesT H0 (tTest (tOp (rNeD K) te tf)) false σ := fun H Q s q =>
  h H _ s fun H1 u s1 g1 => h' H1 _ (s.trans s1) fun H2 u' s2 g2 => by
    refine ⟨d, d, hd H2 u (G.mono s2 g1), hd' H2 u' g2, sh, sh, _, rfl, ?_⟩
    rw [PySem.SeqAt.eqv_refl d (SeqAt.canLay_of_shaped sh)]
    exact q H2 (s1.trans s2)
/-- a != b of the same texts -/
theorem gt_neS {y : Str} (h : Gives H0 te (gEq (.str y)) σ) (h' : Gives H0 tf (gEq (.str y)) σ) : GivesT H0 (tTest (tOp rNe te tf)) false σ := fun H Q s q =>
  h H _ s fun H1 u s1 e1 => h' H1 _ (s.trans s1) fun H2 u' s2 e2 => by
    have e1 : u = .str y := e1
    have e2 : u' = .str y := e2
    subst e1
    subst e2
    refine ⟨rfl, _, rfl, ?_⟩
    rw [decide_eq_true rfl]
    exact q H2 (s1.trans s2)
theorem glst_strs {w : List Str} {H : Hp} {u : V} (h : (gLst ((w.map V.str).map gEq)).p H u) : Dp K H u (.list (w.map PyData.str)) := by
  obtain ⟨p, us, rfl, hp, ha⟩ := h
  rw [all_eq ha] at hp
  exact .lst (.inl (.inl hp)) (dp_strs w)
theorem glst_nats {w : List Nat} {H : Hp} {u : V} (h : (gLst ((w.map fun n => V.int (n : Nat)).map gEq)).p H u) : Dp K H u (.list (w.map fun n => PyData.int (n : Nat))) := by
  obtain ⟨p, us, rfl, hp, ha⟩ := h
  rw [all_eq ha] at hp
  exact .lst (.inl (.inl hp)) (dp_nats w)
/-- [i for i, x in enumerate(l) if x == n] -/
theorem g_enum {l : Addr} {w : List Str} {n : Str} {i a b c : Nat} (hi : σ[i]? = some (some (.ref l))) (hl : SqL K H0 l (w.map V.str)) (hz : w.length ≤ 100000)
    (he : ∀ (j : Nat) (x : Str) (H : Hp) (T : Addr) (R : VK) (N : Hp → Prop), Same H0 H → H T = some (.tup [.int (j : Nat), .str x]) → (x = n → R (.int (j : Nat)) H) → (x ≠ n → N H) →
      gTup K 2 (gCons (gName a) (gCons (gName b) gNil)) (.ref T) (wipe σ [a, b]) H fun σ2 H2 => wipe σ2 [a, b] = wipe σ [a, b] ∧ tTest (tOp rEq (tVar b) (tVar c)) σ2 H2 fun bb H3 => if bb = true then tVar a σ2 H3 R else N H3) :
    Gives H0 (tLc (iEnum K (tCons (tVar i) tNil)) (gTup K 2 (gCons (gName a) (gCons (gName b) gNil))) (tTest (tOp rEq (tVar b) (tVar c))) (tVar a) [a, b]) (gLst (((spF n w 0).map fun n => V.int (n : Nat)).map gEq)) σ := fun H Q s q => by
  refine ⟨_, hi, l, _, rfl, s.seq hl, fun D nD => ?_⟩
  have sl := sizeLine_eq
  refine lc_it (walk_enum (K := K) (a := l) (xs := w.map V.str)) (fun k H' => Same H H' ∧ H' D = some (.lst ((spF n (w.take k) 0).map fun n => V.int (n : Nat)))) ⟨same_put nD, upd_same⟩ (fun k H' _ ⟨s', _⟩ => s'.seq (s.seq hl)) ?_ ?_
  · rintro k x H' H'' hk ⟨s', eD⟩ ⟨T, x1, x2, rfl, nT, rfl, e1, e2⟩
    rw [List.length_map] at hk
    have hw := List.getElem?_eq_getElem hk
    cases e1
    dsimp only at e2
    rw [List.getElem?_map, hw] at e2
    cases e2
    have st := same_put (o := .tup [.int (k : Nat), .str w[k]]) nT
    have hle : ((spF n (w.take k) 0).map fun n => V.int (n : Nat)).length < sizeLine := by
      rw [List.length_map, spF_len]
      have z := List.count_le_length (a := n) (l := w.take k)
      rw [List.length_take] at z
      omega
    have sn : spF n (w.take (k + 1)) 0 = spF n (w.take k) 0 ++ if w[k] = n then [k] else [] := by
      rw [List.take_add_one, hw]
      show spF n (w.take k ++ [w[k]]) 0 = _
      rw [spF_snoc, List.length_take, Nat.zero_add, Nat.min_eq_left (by omega)]
    refine he k w[k] _ T _ _ (s.trans (s'.trans st)) upd_same (fun e => ⟨_, st _ _ eD, hle, ?_, ?_⟩) (fun e => ⟨s'.trans st, ?_⟩)
    · intro b' o e'
      rw [upd_ne (ne_of_none e' nD)]
      exact st _ _ (s' _ _ e')
    · rw [upd_same, sn, if_pos e, List.map_append]
      rfl
    · rw [sn, if_neg e, List.append_nil]
      exact st _ _ eD
  · rintro H' ⟨s', eD⟩
    rw [List.length_map, List.take_length] at eD
    exact q H' _ s' ⟨D, _, rfl, eD, allEq⟩
end
/-! ### names of a program -/
theorem nm_w : ∀ (is : List It), Its.nm is → ∀ x ∈ Its.w is, nmB x = true
  | [], _, x, h => by
    rw [Its.w] at h
    cases h
  | .line y t :: is, hn, x, h => by
    rw [Its.nm, It.nm] at hn
    rw [Its.w, It.w] at h
    rcases List.mem_append.mp h with h | h
    · rw [(List.mem_replicate.mp h).2]
      exact hn.1.1
    · exact nm_w is hn.2 x h
  | .loop r js :: is, hn, x, h => by
    rw [Its.nm, It.nm] at hn
    rw [Its.w, It.w] at h
    rcases List.mem_append.mp h with h | h
    · obtain ⟨l, hl, hx⟩ := List.mem_flatten.mp h
      rw [(List.mem_replicate.mp hl).2] at hx
      exact nm_w js hn.1.2 x hx
    · exact nm_w is hn.2 x h
end Ev

/-! ## The law's question -/
namespace Ev
open PySem PySem.Spec PyProof.Rows L2
section
variable {K : PySem.W.Frag} {H0 : Hp} {σ : L2.St} {te : TE}
/-- [elt for i in range(m)], the elements plain values, with new things made -/
theorem g_lcRS {ys : List V} {m : Int} {g : TG} {vs : List Nat} (hm : -(2 ^ 62) ≤ m ∧ m < 2 ^ 62) (hl : ys.length = m.toNat) (hz : ys.length ≤ 1000)
    (he : ∀ (j : Nat) (y : V), ys[j]? = some y → ∀ (H : Hp) (R : VK), Same H0 H → (∀ H', Same H H' → R y H') →
      g (.int (0 + j)) (wipe σ vs) H fun σ2 H2 => wipe σ2 vs = wipe σ vs ∧ te σ2 H2 R) :
    Gives H0 (tLc (iRng1 (tCons (tC (.int m)) tNil)) g tYes te vs) (gLst (ys.map gEq)) σ := fun H Q s q => by
  refine ⟨m, rfl, hm.1, hm.2, fun D nD => ?_⟩
  have sD : Same H (upd H D (.lst [])) := same_put nD
  have y := sizeLine_eq
  refine lc_range (lo := 0) (n := m.toNat) (fun k H' => Same H H' ∧ H' D = some (.lst (ys.take k))) ⟨sD, upd_same⟩ ?_ ?_
  · rintro k H' hk ⟨s', eD⟩
    have hk' : k < ys.length := by omega
    have hy := List.getElem?_eq_getElem hk'
    refine cast ?_ (he k ys[k] hy H' (fun y H4 => ∃ acc, H4 D = some (.lst acc) ∧ acc.length < sizeLine ∧ Same H (upd H4 D (.lst (acc ++ [y]))) ∧ upd H4 D (.lst (acc ++ [y])) D = some (.lst (ys.take (k + 1)))) (s.trans s') fun H4 s4 => ⟨_, s4 _ _ eD, ?_, ?_, ?_⟩)
    · rfl
    · rw [List.length_take]
      omega
    · intro b o e
      rw [upd_ne (ne_of_none e nD)]
      exact s4 _ _ (s' _ _ e)
    · rw [upd_same, List.take_add_one, hy]
      rfl
  · rintro H' ⟨s', eD⟩
    rw [← hl, List.take_length] at eD
    exact q H' _ s' ⟨D, ys, rfl, eD, allEq⟩
theorem s_parA {ta : TA} {i j : Nat} {D : Ends} {rest : TS} {R : Hp → V → V → Prop} (h : ∀ Q : List V → Hp → Prop, (∀ H' u1 u2, Same H0 H' → R H' u1 u2 → Q [u1, u2] H') → ta σ H0 Q) (k : ∀ H' u1 u2, Same H0 H' → R H' u1 u2 → rest D ((σ.set i (some u1)).set j (some u2)) H') : tSeq (tPar i j ta) rest D σ H0 :=
  h _ fun H' u1 u2 s r => ⟨u1, u2, rfl, k H' u1 u2 s r⟩
end
theorem sm_sz {is : List It} (h : Sm is) : Sz 6 8580 (.tuple (is.map It.d)) := by
  obtain ⟨k1, k2, k3, k4⟩ := Its.szd 2 64 is h.ok h.nm
  have z := h.ni
  refine ⟨by rw [PyData.showable]; exact k1, by rw [PyData.leavesShort]; exact k2, ?_, ?_⟩
  · rw [PyData.depth]
    omega
  · rw [PyData.weight]
    omega
theorem sz_strs {ws : List Str} (h : ∀ x ∈ ws, nmB x = true) : Sz 1 (ws.length * 9) (.tuple (ws.map PyData.str)) := by
  have z := sz_tup (e := 0) (w := 8) (ds := ws.map PyData.str) fun d hd => by
    obtain ⟨x, hx, rfl⟩ := List.mem_map.mp hd
    exact nm_sz (h x hx)
  rw [List.length_map] at z
  exact z
theorem sz_cnt {ns ws : List Str} (h : ∀ x ∈ ns, nmB x = true) (hw : ws.length ≤ 120) : Sz 2 (ns.length * 19) (cntT ns ws) := by
  have z := sz_tup (e := 1) (w := 18) (ds := ns.map fun n => pairD (n, (ws.count n : Nat))) fun d hd => by
    obtain ⟨x, hx, rfl⟩ := List.mem_map.mp hd
    have c := List.count_le_length (a := x) (l := ws)
    have y := sz_tup (e := 0) (w := 8) (ds := [.str x, .int ((ws.count x : Nat) : Int)]) fun d hd => by
      rcases List.mem_cons.mp hd with rfl | hd
      · exact nm_sz (h x hx)
      rcases List.mem_cons.mp hd with rfl | hd
      · exact (sz_int (k := 7) (by omega) (by decide) (by decide)).up (Nat.le_refl _) (by decide)
      cases hd
    exact y.up (Nat.le_refl _) (by show 2 * 9 ≤ 18; decide)
  rw [List.length_map] at z
  exact z
def tolD (ns ws : List Str) : PyData := .list [.int (ws.length : Nat), .tuple (ns.map PyData.str), cntT ns ws, .tuple (ws.map PyData.str)]
theorem sz_tol {ns ws : List Str} (h : ∀ x ∈ ns, nmB x = true) (h' : ∀ x ∈ ws, nmB x = true) (hn : ns.length ≤ 64) (hw : ws.length ≤ 120) : Sz 3 (4 * 2001) (tolD ns ws) := by
  refine sz_lst (e := 2) (w := 2000) (ds := [.int (ws.length : Nat), .tuple (ns.map PyData.str), cntT ns ws, .tuple (ws.map PyData.str)]) fun d hd => ?_
  rcases List.mem_cons.mp hd with rfl | hd
  · exact (sz_int (k := 7) (by omega) (by decide) (by decide)).up (by decide) (by decide)
  rcases List.mem_cons.mp hd with rfl | hd
  · exact (sz_strs h).up (by decide) (by omega)
  rcases List.mem_cons.mp hd with rfl | hd
  · exact (sz_cnt h hw).up (by decide) (by omega)
  rcases List.mem_cons.mp hd with rfl | hd
  · exact (sz_strs h').up (by decide) (by omega)
  cases hd
theorem cutV_mid (xs : List V) (i j : Nat) : cutV xs (some (i : Nat)) (some (j : Nat)) = (xs.drop i).take (j - i) := by
  unfold cutV
  rw [HT.sIx_nat, HT.sIx_nat]
  by_cases h : i ≤ xs.length
  · rw [Nat.min_eq_left h]
    by_cases k : j ≤ xs.length
    · rw [Nat.min_eq_left k]
    · rw [Nat.min_eq_right (by omega), List.take_of_length_le (by rw [List.length_drop]; omega), List.take_of_length_le (by rw [List.length_drop]; omega)]
  · have e : min i xs.length = xs.length := Nat.min_eq_right (by omega)
    rw [e, List.drop_of_length_le (Nat.le_refl _), List.drop_of_length_le (show xs.length ≤ i by omega), List.take_nil, List.take_nil]
theorem cut_count (ws : List Str) (a k : Nat) (n : Str) : (((ws.take (a + k)).count n : Nat) : Int) - ((ws.take a).count n : Nat) = (((ws.drop a).take k).count n : Nat) := by
  rw [List.take_add, List.count_append]
  omega
theorem lines_few {is : List It} (h : Sm is) : (linesI is).length ≤ 52 := by
  unfold linesI
  rw [(srt_perm _).length_eq]
  have z := uniq_len ((Its.sp 1 is).map (·.1)) []
  rw [List.length_map, Its.sp_len] at z
  have y := Its.nl_ni is
  have v := h.ni
  have u : ([] : List Str).length = 0 := rfl
  omega
theorem lines_nm {is : List It} (h : Sm is) : ∀ x ∈ linesI is, nmB x = true := fun x hx => nm_w is h.nm x ((lines_w h.ps).mp hx)
abbrev NRi : List Str := ["_law_pot_here", "_law_program", "_law_word", "_law_held", "_law_names_here", "_law_told", "_law_at", "_law_turn", "_law_first", "_law_stop", "_law_name", "_law_spots", "_law_one", "_law_number"]
theorem scRi : FnScope NRi ["_law_pot_here", "_law_program", "_law_word"] (defScope (topS 36)) := ⟨rfl, rfl, rfl, by decide +kernel, rfl, by decide +kernel, by decide +kernel⟩
def spRi (K : PySem.W.Frag) : Sp := fun vs H Q _ => ∃ (p l : Addr) (x : V) (xs : List V) (is : List It) (n : Nat), vs = [.ref p, x, .ref l] ∧ H p = some (.lst xs) ∧ PotL n xs ∧ n + 16 ≤ 1000000 ∧ Prg K 64 2 H x is ∧ Sm is ∧ (Its.w is).length ≤ 120 ∧ H l = some (.lst ((Its.w is).map V.str)) ∧
  ∀ (H' : Hp) (ys : List V) (n' : Nat), Bu p H H' → H' p = some (.lst ys) → PotL n' ys → n' ≤ n + 16 → Q (.bl true) H'
section
variable {P : Program} {w : World} {K : PySem.W.Frag} {mg : Str → Option Value} {base : Heap} {f fLe fLi fTo fEx fLa fBt fNt fTk fCt : Addr} {fd fdLe fdLi fdTo fdEx fdLa fdBt fdNt fdTk fdCt : FuncData}
theorem ok_ri {k kN : Nat} (hk : 6 ≤ k) (hkN : kN ≤ k) (hm : ∃ mm, base.Ns sysModules mm) (F : Fun K "_law_right" "_law_right" (topS 36) f fd)
    (GLe : FnOk P w K mg base CX0 4 fLe fdLe ["program"] (spLen K 64 2)) (bLe : Binds K fdLe ["program"] []) (mLe : mg "length" = some (.ref fLe)) (vLe : PySem.W.keepIn K (.ref fLe) = true)
    (GLi : FnOk P w K mg base CX0 4 fLi fdLi ["program"] (spLines K 64 2)) (bLi : Binds K fdLi ["program"] []) (mLi : mg "lines_of" = some (.ref fLi)) (vLi : PySem.W.keepIn K (.ref fLi) = true)
    (GTo : FnOk P w K mg base CX0 6 fTo fdTo ["program"] (spTot K 64 2)) (bTo : Binds K fdTo ["program"] []) (mTo : mg "totals" = some (.ref fTo)) (vTo : PySem.W.keepIn K (.ref fTo) = true)
    (GEx : FnOk P w K mg base CX0 6 fEx fdEx ["program"] (spExp K 64 2)) (bEx : Binds K fdEx ["program"] []) (mEx : mg "expanded" = some (.ref fEx)) (vEx : PySem.W.keepIn K (.ref fEx) = true)
    (GLa : FnOk P w K mg base CX0 6 fLa fdLa ["program", "tick"] (spLat K 64 2)) (bLa : Binds K fdLa ["program", "tick"] []) (mLa : mg "line_at" = some (.ref fLa)) (vLa : PySem.W.keepIn K (.ref fLa) = true)
    (GBt : FnOk P w K mg base CX0 k fBt fdBt ["program", "first", "stop"] (spBtw K 64 2)) (bBt : Binds K fdBt ["program", "first", "stop"] []) (mBt : mg "totals_between" = some (.ref fBt)) (vBt : PySem.W.keepIn K (.ref fBt) = true)
    (GNt : FnOk P w K mg base CX0 kN fNt fdNt ["program", "name", "number"] (spNth K 64 2)) (bNt : Binds K fdNt ["program", "name", "number"] []) (mNt : mg "nth_tick" = some (.ref fNt)) (vNt : PySem.W.keepIn K (.ref fNt) = true)
    (GTk : FnOk P w K mg base CX0 1 fTk fdTk ["_law_pot_here", "_law_many"] spTake) (bTk : Binds K fdTk ["_law_pot_here", "_law_many"] []) (mTk : mg "_law_take" = some (.ref fTk)) (vTk : PySem.W.keepIn K (.ref fTk) = true)
    (GCt : FnOk P w K mg base CX0 1 fCt fdCt ["_law_word", "_law_names_here"] (spCt K)) (bCt : Binds K fdCt ["_law_word", "_law_names_here"] []) (mCt : mg "_law_counted" = some (.ref fCt)) (vCt : PySem.W.keepIn K (.ref fCt) = true)
    (mP : mg "repr" = none) (ml : mg "len" = none) (mT : mg "tuple" = none) (mSo : mg "sorted" = none) (mSe : mg "set" = none) (mR : mg "range" = none) (mE : mg "enumerate" = none) :
    FnG P w K mg base CX0 (k + 1) f fd ["_law_pot_here", "_law_program", "_law_word"] (spRi K) := by
  refine okG F scRi (fun vs H Q E h => ?_) (fun cdv A outer s H vs Q E hr gd h => ?_)
  · obtain ⟨p, l, x, xs, is, n, rfl, _⟩ := h
    rfl
  · obtain ⟨p, l, x, xs, is, n, rfl, hp, hx, hn, hprg, hsm, hw, hl, q⟩ := h
    have hrN : Room kN (A.deeper (envOfC "_law_right" (defScope (topS 36)) s.heap.objs.size f cdv)) := hr.mono hkN
    have hr1 : Room 1 (A.deeper (envOfC "_law_right" (defScope (topS 36)) s.heap.objs.size f cdv)) := hr.mono (by omega)
    have hr4 : Room 4 (A.deeper (envOfC "_law_right" (defScope (topS 36)) s.heap.objs.size f cdv)) := hr.mono (by omega)
    have hr6 : Room 6 (A.deeper (envOfC "_law_right" (defScope (topS 36)) s.heap.objs.size f cdv)) := hr.mono (by omega)
    have hu : (A.deeper (envOfC "_law_right" (defScope (topS 36)) s.heap.objs.size f cdv)).units + 70 < cLine := by
      have := hr.un
      omega
    have hu4 : (A.deeper (envOfC "_law_right" (defScope (topS 36)) s.heap.objs.size f cdv)).units + 64 < cLine := by omega
    refine ⟨_, pss_cons (ps_par (i := 3) (j := 4) rfl scRi.nd rfl rfl (by decide) rfl rfl (pa_cons (pe_callB (call_repr hm gd hu) (by rfl) mP (by decide +kernel) (pa_cons (pv 1) pa_nil))
        (pa_cons (pe_callTy call_tuple_of (by rfl) mT (by decide +kernel) (pa_cons (pe_callB (cr_sortSS rfl) (by rfl) mSo (by decide +kernel) (pa_cons (pe_callTy (cr_setS rfl) (by rfl) mSe (by decide +kernel) (pa_cons (pv 2) pa_nil)) pa_nil)) pa_nil)) pa_nil)) (by rfl))
      (pss_cons (ps_set (i := 5) scRi.nd rfl (.inl rfl) (pe_lst (pa_cons (pe_call GLe hr4 (by rfl) mLe vLe bLe .nil pass0 (pa_cons (pv 1) pa_nil)) (pa_cons (pe_call GLi hr4 (by rfl) mLi vLi bLi .nil pass0 (pa_cons (pv 1) pa_nil)) (pa_cons (pe_call GTo hr6 (by rfl) mTo vTo bTo .nil pass0 (pa_cons (pv 1) pa_nil)) (pa_cons (pe_call GEx hr6 (by rfl) mEx vEx bEx .nil pass0 (pa_cons (pv 1) pa_nil)) pa_nil))))))
      (pss_cons (ps_if (pt_cmpR op_ne (pe_callB (call_repr hm gd hu) (by rfl) mP (by decide +kernel) (pa_cons (pv 5) pa_nil)) (pe_callB (call_repr hm gd hu) (by rfl) mP (by decide +kernel)
          (pa_cons (pe_lst (pa_cons (pe_callB call_len_seq (by rfl) ml PySem.boot_len (pa_cons (pv 2) pa_nil)) (pa_cons (pv 4) (pa_cons (pe_call GCt hr1 (by rfl) mCt vCt bCt .nil pass0 (pa_cons (pv 2) (pa_cons (pv 4) pa_nil))) (pa_cons (pe_callTy call_tuple_of (by rfl) mT (by decide +kernel) (pa_cons (pv 2) pa_nil)) pa_nil))))) pa_nil)) (nomark _)) pss_dead pss_nil)
      (pss_cons (ps_if (pt_cmpR (op_neD hu4) (pe_lc (own := [("_law_at", 6)]) (g := gName 6) (tt := tYes) (te := tCall (spLat K 64 2) [] E0 (tCons (tVar 1) (tCons (tVar 6) tNil))) rfl scRi.nd (pi_range1 (by rfl) mR (pa_cons (pe_callB call_len_seq (by rfl) ml PySem.boot_len (pa_cons (pv 2) pa_nil)) pa_nil))
          (blkOk_by (N := NRi) (sc := defScope (topS 36)) (by decide +kernel)) (fun _ _ _ _ _ => pg_name (i := 6) scRi.nd rfl (Or.inl rfl)) (fun _ _ _ _ _ => pts_nil) (fun _ _ _ _ _ => pe_call GLa hr6 (by rfl) mLa vLa bLa .nil pass0 (pa_cons (pv 1) (pa_cons (pv 6) pa_nil)))) (pv 2) (nomark _)) pss_dead pss_nil)
      (pss_cons (ps_for PassesOwn.never rfl (pi_range1 (by rfl) mR (pa_cons pe_int pa_nil)) (pg_name (i := 7) scRi.nd rfl (.inl rfl))
        (pss_cons (ps_set (i := 8) scRi.nd rfl (.inl rfl) (pe_call GTk hr1 (by rfl) mTk vTk bTk .nil pass0 (pa_cons (pv 0) (pa_cons (pe_op op_add (pe_callB call_len_seq (by rfl) ml PySem.boot_len (pa_cons (pv 2) pa_nil)) pe_int) pa_nil))))
        (pss_cons (ps_set (i := 9) scRi.nd rfl (.inl rfl) (pe_op op_add (pv 8) (pe_call GTk hr1 (by rfl) mTk vTk bTk .nil pass0 (pa_cons (pv 0) (pa_cons (pe_op op_add (pe_op op_sub (pe_callB call_len_seq (by rfl) ml PySem.boot_len (pa_cons (pv 2) pa_nil)) (pv 8)) pe_int) pa_nil)))))
        (pss_one (ps_if (pt_cmpR op_ne (pe_callB (call_repr hm gd hu) (by rfl) mP (by decide +kernel) (pa_cons (pe_call GBt hr (by rfl) mBt vBt bBt .nil pass0 (pa_cons (pv 1) (pa_cons (pv 8) (pa_cons (pv 9) pa_nil)))) pa_nil))
          (pe_callB (call_repr hm gd hu) (by rfl) mP (by decide +kernel) (pa_cons (pe_call GCt hr1 (by rfl) mCt vCt bCt .nil pass0 (pa_cons (pe_slice sl_list (pv 2) (po_some (pv 8)) (po_some (pv 9))) (pa_cons (pv 4) pa_nil))) pa_nil)) (nomark _)) pss_dead pss_nil)))))
      (pss_cons (ps_for PassesOwn.never rfl (pi_tup (pv 4)) (pg_name (i := 10) scRi.nd rfl (.inr rfl))
        (pss_cons (ps_setLc (i := 11) (own := [("_law_at", 6), ("_law_one", 12)]) (g := gTup K 2 (gCons (gName 6) (gCons (gName 12) gNil))) (tt := tTest (tOp rEq (tVar 12) (tVar 10))) (te := tVar 6) rfl scRi.nd rfl rfl (sw_true rfl rfl rfl rfl) (pi_enum (by rfl) mE (pa_cons (pv 2) pa_nil))
          (blkOk_by (N := NRi) (sc := defScope (topS 36)) (by decide +kernel)) (fun _ _ _ _ _ => pg_tup rfl (pgs_cons (pg_name (i := 6) scRi.nd rfl (Or.inl rfl)) (pgs_cons (pg_name (i := 12) scRi.nd rfl (Or.inl rfl)) pgs_nil))) (fun _ _ _ _ _ => pts_one (pt_cmpR op_eq (pv 12) (pv 10) (nomark _))) (fun _ _ _ _ _ => pv 6))
        (pss_one (ps_if (pt_cmpR (op_neD hu4) (pe_lc (own := [("_law_number", 13)]) (g := gName 13) (tt := tYes) (te := tCall (spNth K 64 2) [] E0 (tCons (tVar 1) (tCons (tVar 10) (tCons (tVar 13) tNil)))) rfl scRi.nd (pi_range1 (by rfl) mR (pa_cons (pe_callB call_len_seq (by rfl) ml PySem.boot_len (pa_cons (pv 11) pa_nil)) pa_nil))
          (blkOk_by (N := NRi) (sc := defScope (topS 36)) (by decide +kernel)) (fun _ _ _ _ _ => pg_name (i := 13) scRi.nd rfl (Or.inl rfl)) (fun _ _ _ _ _ => pts_nil) (fun _ _ _ _ _ => pe_call GNt hrN (by rfl) mNt vNt bNt .nil pass0 (pa_cons (pv 1) (pa_cons (pv 10) (pa_cons (pv 13) pa_nil))))) (pv 11) (nomark _)) pss_dead pss_nil))))
      (pss_one (ps_ret (pe_cmpR op_eq (pe_callB (call_repr hm gd hu) (by rfl) mP (by decide +kernel) (pa_cons (pv 1) pa_nil)) (pv 3) (nomark _))))))))), ?_⟩
    obtain ⟨a0, xs0, rfl, hs0, ha0⟩ := da_prog hprg.da
    have hfit := (sm_sz hsm).fits (by decide) (by decide)
    have hlq := lines_eq hsm.ps
    have hfew := lines_few hsm
    have hnl : Its.nl is < 64 := by
      have a := Its.nl_ni is
      have b := hsm.ni
      omega
    have hnm := lines_nm hsm
    have hnmw := nm_w is hsm.nm
    have hu64 : (uniq [] (Its.w is)).length < 64 := by
      have z := congrArg List.length hlq
      rw [(srt_perm _).length_eq] at z
      omega
    have hlw := len_w (Its.ps_nn is hsm.ps)
    have sl := sizeLine_eq
    refine s_parA (R := fun H' u1 u2 => u1 = V.str (PyData.tuple (is.map It.d)).shown ∧ ∃ a4, u2 = V.ref a4 ∧ H' a4 = some (.tup ((linesI is).map V.str))) (fun Q' kq => ?_) fun H1 u1 u2 s1 ⟨e1, a4, e2, ha4⟩ => ?_
    · refine ⟨_, rfl, a0, _, rfl, hprg.da, hfit.1, hfit.2.1, hfit.2.2, _, rfl, l, Its.w is, rfl, .inl (.inl hl), by omega, fun a1 n1 => ⟨a1, _, rfl, upd_same, hu64, fun ys1 p2 pm so n2 => ⟨p2, _, rfl, .inl ⟨.inl (.inl upd_same), fun a3 n3 => ?_⟩⟩⟩⟩
      refine kq _ _ _ (((same_put n1).trans (same_put n2)).trans (same_put n3)) ⟨rfl, a3, rfl, ?_⟩
      rw [upd_same, hlq, srt_is pm so]
    subst e1
    subst e2
    refine s_setA (R := fun H' u => ∃ a5, u = V.ref a5 ∧ Da K H' u (tolD (linesI is) (Its.w is))) (fun Q' kq => ?_) fun H2 u5 s2 ⟨a5, e5, hd5⟩ => ?_
    · refine ⟨_, rfl, .ref a0, is, rfl, hprg.same s1, fun H2 s2 => ⟨_, rfl, .ref a0, is, rfl, (hprg.same s1).same s2, hnl, fun H3 b3 s3 hb3 => ⟨_, rfl, .ref a0, is, rfl, ((hprg.same s1).same s2).same s3, Its.ps_nn is hsm.ps, hnl, fun H4 u4 s4 hu4 => ⟨_, rfl, .ref a0, is, rfl, (((hprg.same s1).same s2).same s3).same s4, hsm.ps, by omega, fun H5 b5 s5 hb5 => ⟨(by show 4 ≤ sizeLine; decide), fun l6 n6 => ?_⟩⟩⟩⟩⟩
      refine kq _ _ ((((s2.trans s3).trans s4).trans s5).trans (same_put n6)) ⟨l6, rfl, ?_⟩
      rw [hlw]
      exact .lst (.inl (.inl upd_same)) (.cons (.int _) (.cons (.tup (.inl (.inl ((s4.trans (s5.trans (same_put n6))) _ _ hb3))) (daAll_strs _)) (.cons (hu4.mono (s5.trans (same_put n6))) (.cons (.tup (.inl (.inl (same_put n6 _ _ hb5))) (daAll_strs _)) .nil))))
    subst e5
    have hft := (sz_tol hnm hnmw (by omega) hw).fits (by decide) (by decide)
    have s02 : Same H H2 := s1.trans s2
    have hl2 : H2 l = some (.lst ((Its.w is).map V.str)) := s02 _ _ hl
    have ha42 : H2 a4 = some (.tup ((linesI is).map V.str)) := s2 _ _ ha4
    have hp2 := hprg.same s02
    refine s_skip (gt_neS (y := (tolD (linesI is) (Its.w is)).shown) (fun HH Q' sH kq => ⟨_, rfl, a5, _, rfl, hd5.mono sH, hft.1, hft.2.1, hft.2.2, kq HH _ Same.rfl' rfl⟩) (fun HH Q' sH kq => ?_)) fun H3 s3 => ?_
    · refine ⟨_, rfl, l, _, rfl, .inl (.inl (.inl (sH _ _ hl2))), _, rfl, _, rfl, _, rfl, l, a4, Its.w is, linesI is, rfl, .inl (.inl (sH _ _ hl2)), .inl (.inl (sH _ _ ha42)), by omega, by omega, fun H' u s' du => ?_⟩
      refine ⟨_, rfl, l, _, rfl, .inl ⟨.inl (.inl ((sH.trans s') _ _ hl2)), fun t nt => ⟨(by show 4 ≤ sizeLine; decide), fun ll nll => ⟨ll, tolD (linesI is) (Its.w is), rfl, ?_, hft.1, hft.2.1, hft.2.2, kq _ _ ((s'.trans (same_put nt)).trans (same_put nll)) rfl⟩⟩⟩⟩
      rw [List.length_map]
      exact .lst (.inl (.inl upd_same)) (.cons (.int _) (.cons (.tup (.inl (.inl ((sH.trans ((s'.trans (same_put nt)).trans (same_put nll))) _ _ ha42))) (daAll_strs _)) (.cons (du.mono ((same_put nt).trans (same_put nll))) (.cons (.tup (.inl (.inl (same_put nll _ _ upd_same))) (daAll_strs _)) .nil))))
    have hl3 := s3 _ _ hl2
    have hp3 := hp2.same s3
    refine s_skip (gt_neD (K := K) (G := gLst (((Its.w is).map V.str).map gEq)) (G' := gLst (((Its.w is).map V.str).map gEq)) (d := .list ((Its.w is).map PyData.str)) (fun HH Q' sH kq => ?_) (fun _ _ h => glst_strs h) (fun HH Q' sH kq => ⟨_, rfl, kq HH _ Same.rfl' ⟨l, _, rfl, sH _ _ hl3, allEq⟩⟩) (fun _ _ h => glst_strs h) (shaped_strs fun x hx => nm_ok (hnmw x hx))) fun H4 s4 => ?_
    · refine ⟨_, rfl, l, _, rfl, .inl (.inl (.inl (sH _ _ hl3))), ?_⟩
      refine g_lcRS (H0 := HH) (m := (((Its.w is).map V.str).length : Nat)) (ys := (Its.w is).map V.str) (g := gName 6) (vs := [6]) (by rw [List.length_map]; omega) (by omega) (by rw [List.length_map]; omega) (fun j y hy HA R sA kR => ?_) HH Q' Same.rfl' kq
      rw [List.getElem?_map] at hy
      obtain ⟨z, hz, rfl⟩ := Option.map_eq_some_iff.mp hy
      refine ⟨rfl, _, rfl, _, rfl, .ref a0, is, 0 + (j : Nat), z, rfl, (hp3.same sH).same sA, hsm.ps, by omega, ?_, fun H' s' => kR H' s'⟩
      rw [show (0 + (j : Int)).toNat = j by omega]
      exact hz
    have s04 : Same H H4 := (s02.trans s3).trans s4
    refine ⟨8, rfl, by decide, by decide, for_range (lo := 0) (n := 8) (fun i σ' H' => ∃ (y7 y8 y9 : Option V) (ys : List V) (n' : Nat), σ' = [some (.ref p), some (.ref a0), some (.ref l), some (.str (PyData.tuple (is.map It.d)).shown), some (.ref a4), some (.ref a5), none, y7, y8, y9, none, none, none, none] ∧
        Bu p H H' ∧ H' p = some (.lst ys) ∧ PotL n' ys ∧ n' ≤ n + 2 * i ∧ Prg K 64 2 H' (.ref a0) is ∧ H' l = some (.lst ((Its.w is).map V.str)) ∧ H' a4 = some (.tup ((linesI is).map V.str)))
      ⟨none, none, none, xs, n, rfl, Bu.of s04, s04 _ _ hp, hx, by omega, hprg.same s04, s04 _ _ hl, (s3.trans s4) _ _ ha42⟩ ?_ ?_⟩
    · rintro i σ' H' hi ⟨y7, y8, y9, ys, n', rfl, hb', hp', hY', hn', hprg', hl', ha'⟩
      have hlp : l ≠ p := pot_ne hp' hY' hl'
      have hap : a4 ≠ p := fun z => by
        rw [z, hp'] at ha'
        cases ha'
      refine ⟨_, rfl, _, rfl, l, _, rfl, .inl (.inl (.inl hl')), _, _, rfl, rfl, p, ys, _, n', rfl, hp', hY', by omega, by rw [List.length_map]; omega, log_le (by rw [List.length_map]; omega) (by rw [List.length_map]; omega), fun HA ysA d hbA hyA hYA d0 d1 => ?_⟩
      obtain ⟨dn, rfl⟩ := Int.eq_ofNat_of_zero_le d0
      rw [List.length_map] at d1
      have hlA := hbA _ _ hlp hl'
      have haA := hbA _ _ hap ha'
      refine ⟨_, rfl, _, rfl, _, rfl, l, _, rfl, .inl (.inl (.inl hlA)), _, rfl, _, _, rfl, rfl, _, _, rfl, rfl, p, ysA, _, n' + 1, rfl, hyA, hYA, by omega, by rw [List.length_map]; omega, log_le (by rw [List.length_map]; omega) (by rw [List.length_map]; omega), fun HB ysB e hbB hyB hYB e0 e1 => ?_⟩
      obtain ⟨en, rfl⟩ := Int.eq_ofNat_of_zero_le e0
      rw [List.length_map] at e1
      have hlB := hbB _ _ hlp hlA
      have haB := hbB _ _ hap haA
      have hpB : Prg K 64 2 HB (.ref a0) is := (hprg'.kt (hbA.kt hp')).kt (hbB.kt hyA)
      refine ⟨_, _, rfl, rfl, ?_⟩
      have hdat : totD is (fun z => (((Its.w is).take ((dn : Int) + (en : Int)).toNat).count z : Nat) - (((Its.w is).take (dn : Int).toNat).count z : Nat)) = cntT (linesI is) (((Its.w is).drop dn).take en) := by
        unfold totD cntT
        congr 1
        refine List.map_congr_left fun z _ => ?_
        dsimp only
        rw [show ((dn : Int) + (en : Int)).toNat = dn + en by omega, show ((dn : Int)).toNat = dn by omega, cut_count]
      have hcl : (((Its.w is).drop dn).take en).length ≤ 120 := by
        rw [List.length_take, List.length_drop]
        omega
      have hfc := (sz_cnt (ws := ((Its.w is).drop dn).take en) hnm hcl).fits (by decide) (by omega)
      dsimp only [gName]
      refine s_skip1 (gt_neS (y := (cntT (linesI is) (((Its.w is).drop dn).take en)).shown) (fun HH Q' sH kq => ?_) (fun HH Q' sH kq => ?_)) fun HC sC => ?_
      · refine ⟨_, rfl, _, rfl, _, rfl, .ref a0, is, _, _, rfl, hpB.same sH, hsm.ps, hnl, by omega, by omega, by omega, by omega, fun H' u s' du => ?_⟩
        rw [hdat] at du
        obtain ⟨ua, rfl⟩ : ∃ ua, u = V.ref ua := by
          unfold cntT at du
          cases du with
          | @tup a _ _ _ _ => exact ⟨a, rfl⟩
        exact ⟨ua, _, rfl, du, hfc.1, hfc.2.1, hfc.2.2, kq H' _ s' rfl⟩
      · refine ⟨_, rfl, _, rfl, _, rfl, _, rfl, _, rfl, l, _, rfl, .inl (.inl (sH _ _ hlB)), fun lc nlc => ?_⟩
        have ecut : cutV ((Its.w is).map V.str) (some (dn : Int)) (some ((dn : Int) + (en : Int))) = (((Its.w is).drop dn).take en).map V.str := by
          rw [show (dn : Int) + (en : Int) = ((dn + en : Nat) : Int) by omega, cutV_mid, ← List.map_drop, ← List.map_take, show dn + en - dn = en by omega]
        rw [ecut]
        have sl' := same_put (o := .lst ((((Its.w is).drop dn).take en).map V.str)) nlc
        refine ⟨_, rfl, lc, a4, ((Its.w is).drop dn).take en, linesI is, rfl, .inl (.inl upd_same), .inl (.inl ((sH.trans sl') _ _ haB)), by omega, by omega, fun H' u s' du => ?_⟩
        obtain ⟨ua, rfl⟩ : ∃ ua, u = V.ref ua := by
          unfold cntT at du
          cases du with
          | @tup a _ _ _ _ => exact ⟨a, rfl⟩
        exact ⟨ua, _, rfl, du, hfc.1, hfc.2.1, hfc.2.2, kq H' _ (sl'.trans s') rfl⟩
      · exact ⟨_, _, _, ysB, n' + 2, rfl, ((hb'.trans hbA).trans hbB).trans (Bu.of sC), sC _ _ hyB, hYB, by omega, hpB.same sC, sC _ _ hlB, sC _ _ haB⟩
    · rintro σ' Hb ⟨y7, y8, y9, ys, n', rfl, hb', hp', hY', hn', hprg', hl', ha'⟩
      refine ⟨_, rfl, a4, rfl, ⟨_, .inl (.inl ha')⟩, for_tup (K := K) (a := a4) (xs := (linesI is).map V.str) (fun i σ' H' => ∃ (y10 y11 : Option V), σ' = [some (.ref p), some (.ref a0), some (.ref l), some (.str (PyData.tuple (is.map It.d)).shown), some (.ref a4), some (.ref a5), none, y7, y8, y9, y10, y11, none, none] ∧ Same Hb H')
        ⟨none, none, rfl, Same.rfl'⟩ (fun i σ' H' _ ⟨_, _, _, s'⟩ => .inl (.inl (s' _ _ ha'))) ?_ ?_⟩
      · rintro i x' σ' H' hi ⟨y10, y11, rfl, s'⟩
        rw [List.getElem?_map] at hi
        obtain ⟨z, hz, rfl⟩ := Option.map_eq_some_iff.mp hi
        have hzm : z ∈ Its.w is := (lines_w hsm.ps).mp (List.mem_of_getElem? hz)
        dsimp only [gName]
        refine s_setA (R := fun H'' u => (gLst (((spF z (Its.w is) 0).map fun n => V.int (n : Nat)).map gEq)).p H'' u) (fun Q' kq => ?_) fun H1' u1' s1' g1' => ?_
        · refine g_enum (K := K) (H0 := H') (w := Its.w is) (n := z) (i := 2) (a := 6) (b := 12) (c := 10) (l := l) rfl (.inl (.inl (s' _ _ hl'))) (by omega) (fun j x HA T R N sA hT hR hN => ?_) H' Q' Same.rfl' kq
          refine ⟨T, _, rfl, .inl (.inl hT), rfl, _, _, rfl, _, _, rfl, rfl, rfl, _, rfl, _, rfl, rfl, _, rfl, ?_⟩
          have ed : decide (V.str x = V.str z) = decide (x = z) := decide_eq_decide.mpr ⟨fun h => V.str.inj h, fun h => by rw [h]⟩
          rw [ed]
          by_cases e : x = z
          · rw [decide_eq_true e]
            exact iteT ⟨_, rfl, hR e⟩
          · rw [decide_eq_false e]
            exact iteF (hN e)
        · have hcz : 1 ≤ (Its.w is).count z := List.count_pos_iff.mpr hzm
          have hcl : (Its.w is).count z ≤ (Its.w is).length := List.count_le_length
          have hsl := spF_len z (Its.w is) 0
          obtain ⟨l5, us5, rfl, hl5, hA5⟩ := g1'
          have e5 := all_eq hA5
          subst e5
          refine s_skip1 (gt_neD (K := K) (G := gLst (((spF z (Its.w is) 0).map fun n => V.int (n : Nat)).map gEq)) (G' := gLst (((spF z (Its.w is) 0).map fun n => V.int (n : Nat)).map gEq)) (d := .list ((spF z (Its.w is) 0).map fun n => PyData.int (n : Nat))) (fun HH Q' sH kq => ?_) (fun _ _ h => glst_nats h) (fun HH Q' sH kq => ⟨_, rfl, kq HH _ Same.rfl' ⟨l5, _, rfl, sH _ _ hl5, allEq⟩⟩) (fun _ _ h => glst_nats h) shaped_nats) fun HC sC => ?_
          · refine ⟨_, rfl, l5, _, rfl, .inl (.inl (.inl (sH _ _ hl5))), ?_⟩
            refine g_lcRS (H0 := HH) (m := (((spF z (Its.w is) 0).map fun n => V.int (n : Nat)).length : Nat)) (ys := (spF z (Its.w is) 0).map fun n => V.int (n : Nat)) (g := gName 13) (vs := [13]) (by rw [List.length_map]; omega) (by omega) (by rw [List.length_map]; omega) (fun j y hy HA R sA kR => ?_) HH Q' Same.rfl' kq
            have hj : j < (Its.w is).count z := by
              have v := (List.getElem?_eq_some_iff.mp hy).1
              rw [List.length_map] at v
              omega
            refine ⟨rfl, _, rfl, _, rfl, _, rfl, .ref a0, is, z, 0 + (j : Nat), rfl, ((((hprg'.same s').same s1').same sH).same sA), hsm.ps, hnl, by omega, by omega, by omega, fun HD pp sD hnth => ?_⟩
            rw [show (0 + (j : Int)) = ((j : Nat) : Int) by omega] at hnth
            rw [List.getElem?_map, nth_spot hnth] at hy
            cases hy
            exact kR HD sD
          · exact ⟨_, _, rfl, (s'.trans s1').trans sC⟩
      · rintro σ' H' ⟨y10, y11, rfl, s'⟩
        refine ⟨_, rfl, a0, _, rfl, (hprg'.same s').da, hfit.1, hfit.2.1, hfit.2.2, _, rfl, rfl, ?_⟩
        rw [decide_eq_true rfl]
        exact q H' ys n' (hb'.trans (Bu.of s')) (s' _ _ hp') hY' (by omega)
end
end Ev

/-! ## The law -/
namespace Ev
open PySem PySem.Spec PyProof.Rows L2
def spLaw (K : PySem.W.Frag) : Sp := fun vs H Q _ => ∃ (a : Addr) (ns : List Int), vs = [.ref a] ∧ SqL K H a (ns.map V.int) ∧ ∀ H', Q (.bl true) H'
theorem scLaw : FnScope ["_law_script", "_law_k", "_law_pot_here", "_law_turn", "_law_program", "_law_word"] ["_law_script"] (defScope (topS 37)) := ⟨rfl, rfl, rfl, by decide +kernel, rfl, by decide +kernel, by decide +kernel⟩
theorem sq_bu {K : PySem.W.Frag} {H H' : Hp} {p a : Addr} {o : HO} {zs : List V} (s : SqL K H a zs) (np : H p = none) (h : Bu p (upd H p o) H') : SqL K H' a zs := by
  rcases s with (e | ⟨o', e⟩) | e
  · exact .inl (.inl (h _ _ (ne_of_none e np) (by rw [upd_ne (ne_of_none e np)]; exact e)))
  · exact .inl (.inr ⟨o', h _ _ (ne_of_none e np) (by rw [upd_ne (ne_of_none e np)]; exact e)⟩)
  · exact .inr e
section
variable {P : Program} {w : World} {K : PySem.W.Frag} {mg : Str → Option Value} {base : Heap} {f fP fS fR : Addr} {fd fdP fdS fdR : FuncData}
theorem ok_law {k : Nat} (hk : 6 ≤ k) (F : Fun K "law" "law" (topS 37) f fd)
    (GP : FnOk P w K mg base CX0 1 fP fdP ["_law_script", "_law_k"] (spPot K)) (bP : Binds K fdP ["_law_script", "_law_k"] []) (gP : mg "_law_pot" = some (.ref fP)) (kP : PySem.W.keepIn K (.ref fP) = true)
    (GS : FnOk P w K mg base CX0 6 fS fdS ["_law_pot_here", "_law_most"] (spSmall K)) (bS : Binds K fdS ["_law_pot_here", "_law_most"] []) (gS : mg "_law_small" = some (.ref fS)) (kS : PySem.W.keepIn K (.ref fS) = true)
    (GR : FnG P w K mg base CX0 k fR fdR ["_law_pot_here", "_law_program", "_law_word"] (spRi K)) (bR : Binds K fdR ["_law_pot_here", "_law_program", "_law_word"] []) (gR : mg "_law_right" = some (.ref fR)) (kR : PySem.W.keepIn K (.ref fR) = true)
    (mR : mg "range" = none) (mM : mg "max" = none) (mm : mg "min" = none) (ml : mg "len" = none) :
    FnG P w K mg base CX0 (k + 1) f fd ["_law_script"] (spLaw K) := by
  refine okG F scLaw (fun vs H Q E h => ?_) (fun cdv A outer s H vs Q E hr gd h => ?_)
  · obtain ⟨a, ns, rfl, _⟩ := h
    rfl
  · obtain ⟨a, ns, rfl, hS, q⟩ := h
    have hr1 : Room 1 _ := hr.mono (show 1 ≤ k by omega)
    have hr6 : Room 6 _ := hr.mono hk
    refine ⟨_, pss_cons (ps_for PassesOwn.never rfl (pi_range1 rfl mR (pa_cons (pe_callB (call_max2 rfl) (by rfl) mM (by decide +kernel) (pa_cons pe_int (pa_cons (pe_callB (call_min2 rfl) (by rfl) mm (by decide +kernel) (pa_cons pe_int (pa_cons (pe_callB call_len_seq (by rfl) ml PySem.boot_len (pa_cons (pv 0) pa_nil)) pa_nil))) pa_nil))) pa_nil)) (pg_name (i := 1) scLaw.nd rfl (.inl rfl))
        (pss_cons (ps_set (i := 2) scLaw.nd rfl (.inl rfl) (pe_call GP hr1 (by rfl) gP kP bP .nil pass0 (pa_cons (pv 0) (pa_cons (pv 1) pa_nil))))
        (pss_one (ps_for PassesOwn.never rfl (pi_range1 rfl mR (pa_cons pe_int pa_nil)) (pg_name (i := 3) scLaw.nd rfl (.inl rfl))
          (pss_cons (ps_asg (pe_call GS hr6 (by rfl) gS kS bS .nil pass0 (pa_cons (pv 2) (pa_cons pe_int pa_nil))) (pg_tup rfl (pgs_cons (pg_name (i := 4) scLaw.nd rfl (.inl rfl)) (pgs_cons (pg_name (i := 5) scLaw.nd rfl (.inl rfl)) pgs_nil))))
          (pss_one (ps_if (pt_not (pt_val (pe_callG GR hr gd (by rfl) gR kR bR .nil pass0 (pa_cons (pv 2) (pa_cons (pv 4) (pa_cons (pv 5) pa_nil)))))) pss_dead pss_nil)))))))
      (pss_one (ps_ret pe_bl)), ?_⟩
    refine ⟨_, rfl, a, _, rfl, .inl hS, 3, _, rfl, 1, _, rfl, _, rfl, (mm_at _ (mm_le _)).1, (mm_at _ (mm_le _)).2.1, for_range (lo := 0) (fun i σ' H' => ∃ y1 y2 y3 y4 y5 : Option V, σ' = [some (.ref a), y1, y2, y3, y4, y5] ∧ SqL K H' a (ns.map V.int))
      ⟨none, none, none, none, none, rfl, hS⟩ ?_ ?_⟩
    · rintro i σ' H1 hi ⟨y1, y2, y3, y4, y5, rfl, hS1⟩
      have hi3 : i < 3 := Nat.lt_of_lt_of_le hi (mm_at _ (mm_le _)).2.2
      refine ⟨_, rfl, _, rfl, a, ns, _, rfl, hS1, by omega, by omega, fun p xs np hx => ?_⟩
      refine ⟨3, rfl, by decide, by decide, for_range (lo := 0) (n := 3) (fun j σ' H' => ∃ (y3 y4 y5 : Option V) (ys : List V) (n : Nat), σ' = [some (.ref a), some (.int (0 + (i : Int))), some (.ref p), y3, y4, y5] ∧ Bu p (upd H1 p (.lst xs)) H' ∧ H' p = some (.lst ys) ∧ PotL n ys ∧ n ≤ 400 * j)
        ⟨_, _, _, xs, 0, rfl, Bu.refl, upd_same, hx, by omega⟩ ?_ ?_⟩
      · rintro j σ' H2 hj ⟨y3, y4, y5, ys, n, rfl, hb2, hp2, hY2, hn2⟩
        refine ⟨_, rfl, p, ys, n, rfl, hp2, hY2, by omega, fun H3 ys3 n3 t l u is hb3 hp3 hY3 hn3 ht hprg hsm hw hl => ?_⟩
        refine ⟨t, _, rfl, .inl (.inl ht), rfl, _, _, rfl, _, _, rfl, rfl, ?_⟩
        refine ⟨_, rfl, _, rfl, _, rfl, p, l, u, ys3, is, n3, rfl, hp3, hY3, by omega, hprg, hsm, hw, hl, fun H4 ys4 n4 hb4 hp4 hY4 hn4 => ⟨_, rfl, ?_⟩⟩
        refine iteF ?_
        exact ⟨_, _, _, ys4, n4, rfl, (hb2.trans hb3).trans hb4, hp4, hY4, by omega⟩
      · rintro σ' H2 ⟨y3, y4, y5, ys, n, rfl, hb2, hp2, hY2, hn2⟩
        exact ⟨_, _, _, _, _, rfl, sq_bu hS1 np hb2⟩
    · rintro σ' H1 ⟨y1, y2, y3, y4, y5, rfl, hS1⟩
      exact q H1
end
end Ev

/-! ## What the top has written -/
namespace Ev
open PySem PySem.Spec PyProof.Rows L2
open PySem.W (typeIn keepIn codeIn nsIn)
def initB (K : PySem.W.Frag) (fI : Addr) (cd : Value) (q : Str) : Bool := (typeIn K (.ref fI) == some (.type "function")) && (codeIn K cd q && keepIn K (.ref fI))
theorem initB_ok {K : PySem.W.Frag} {fI : Addr} {cd : Value} {q : Str} (h : initB K fI cd q = true) : typeIn K (.ref fI) = some (.type "function") ∧ codeIn K cd q = true ∧ keepIn K (.ref fI) = true := by
  unfold initB at h
  simpa only [Bool.and_eq_true, beq_iff_eq] using h
theorem all_mk {P : Program} {w : World} {K : PySem.W.Frag} {h : Heap} {mg : Str → Option Value} {fa : Addr} (X : K.In h) (G : h.Ns mainGlobals mg) (hfa : mg "law" = some (.ref fa))
    {g6 : Addr} {ode6 ane6 : Option Addr} {sle6 : Array (Option Value)} {oce6 kVe6 dce6 pme6 cde6 cte6 : Value}
    {g7 : Addr} {ode7 ane7 : Option Addr} {sle7 : Array (Option Value)} {oce7 kVe7 dce7 pme7 cde7 cte7 : Value}
    {g10 : Addr} {ode10 ane10 : Option Addr} {sle10 : Array (Option Value)} {oce10 kVe10 dce10 pme10 cde10 cte10 : Value}
    {g11 : Addr} {ode11 ane11 : Option Addr} {sle11 : Array (Option Value)} {oce11 kVe11 dce11 pme11 cde11 cte11 : Value}
    {g12 : Addr} {ode12 ane12 : Option Addr} {sle12 : Array (Option Value)} {oce12 kVe12 dce12 pme12 cde12 cte12 : Value}
    {g13 : Addr} {ode13 ane13 : Option Addr} {sle13 : Array (Option Value)} {oce13 kVe13 dce13 pme13 cde13 cte13 : Value}
    {g14 : Addr} {ode14 ane14 : Option Addr} {sle14 : Array (Option Value)} {oce14 kVe14 dce14 pme14 cde14 cte14 : Value}
    {g15 : Addr} {ode15 ane15 : Option Addr} {sle15 : Array (Option Value)} {oce15 kVe15 dce15 pme15 cde15 cte15 : Value}
    {g16 : Addr} {ode16 ane16 : Option Addr} {sle16 : Array (Option Value)} {oce16 kVe16 dce16 pme16 cde16 cte16 : Value}
    {g17 : Addr} {ode17 ane17 : Option Addr} {sle17 : Array (Option Value)} {oce17 kVe17 dce17 pme17 cde17 cte17 : Value}
    {g18 : Addr} {ode18 ane18 : Option Addr} {sle18 : Array (Option Value)} {oce18 kVe18 dce18 pme18 cde18 cte18 : Value}
    {g19 : Addr} {ode19 ane19 : Option Addr} {sle19 : Array (Option Value)} {oce19 kVe19 dce19 pme19 cde19 cte19 : Value}
    {g20 : Addr} {ode20 ane20 : Option Addr} {sle20 : Array (Option Value)} {oce20 kVe20 dce20 pme20 cde20 cte20 : Value}
    {g21 : Addr} {ode21 ane21 : Option Addr} {sle21 : Array (Option Value)} {oce21 kVe21 dce21 pme21 cde21 cte21 : Value}
    {g22 : Addr} {ode22 ane22 : Option Addr} {sle22 : Array (Option Value)} {oce22 kVe22 dce22 pme22 cde22 cte22 : Value}
    {g23 : Addr} {ode23 ane23 : Option Addr} {sle23 : Array (Option Value)} {oce23 kVe23 dce23 pme23 cde23 cte23 : Value}
    {g24 : Addr} {ode24 ane24 : Option Addr} {sle24 : Array (Option Value)} {oce24 kVe24 dce24 pme24 cde24 cte24 : Value}
    {g25 : Addr} {ode25 ane25 : Option Addr} {sle25 : Array (Option Value)} {oce25 kVe25 dce25 pme25 cde25 cte25 : Value}
    {g26 : Addr} {ode26 ane26 : Option Addr} {sle26 : Array (Option Value)} {oce26 kVe26 dce26 pme26 cde26 cte26 : Value}
    {g28 : Addr} {ode28 ane28 : Option Addr} {sle28 : Array (Option Value)} {oce28 kVe28 dce28 pme28 cde28 cte28 : Value}
    {g29 : Addr} {ode29 ane29 : Option Addr} {sle29 : Array (Option Value)} {oce29 kVe29 dce29 pme29 cde29 cte29 : Value}
    {g30 : Addr} {ode30 ane30 : Option Addr} {sle30 : Array (Option Value)} {oce30 kVe30 dce30 pme30 cde30 cte30 : Value}
    {g31 : Addr} {ode31 ane31 : Option Addr} {sle31 : Array (Option Value)} {oce31 kVe31 dce31 pme31 cde31 cte31 : Value}
    {g32 : Addr} {ode32 ane32 : Option Addr} {sle32 : Array (Option Value)} {oce32 kVe32 dce32 pme32 cde32 cte32 : Value}
    {g33 : Addr} {ode33 ane33 : Option Addr} {sle33 : Array (Option Value)} {oce33 kVe33 dce33 pme33 cde33 cte33 : Value}
    {g34 : Addr} {ode34 ane34 : Option Addr} {sle34 : Array (Option Value)} {oce34 kVe34 dce34 pme34 cde34 cte34 : Value}
    {g35 : Addr} {ode35 ane35 : Option Addr} {sle35 : Array (Option Value)} {oce35 kVe35 dce35 pme35 cde35 cte35 : Value}
    {g36 : Addr} {ode36 ane36 : Option Addr} {sle36 : Array (Option Value)} {oce36 kVe36 dce36 pme36 cde36 cte36 : Value}
    {g37 : Addr} {ode37 ane37 : Option Addr} {sle37 : Array (Option Value)} {oce37 kVe37 dce37 pme37 cde37 cte37 : Value}
    {t_LONGEST : Tok}
    (A6 : nsIn K mainGlobals "is_whole" = some (some (.ref g6)))
    (L6 : K.lookup g6 = some ⟨oce6, ode6, .func (PySem.W.fnOf "is_whole" "is_whole" (defArgs (topS 6)) (defBody (topS 6)) (defScope (topS 6)) .none kVe6 dce6 pme6 ane6 cde6 cte6), sle6⟩)
    (H6 : initB K g6 cde6 "is_whole" = true)
    (A7 : nsIn K mainGlobals "is_integer_within" = some (some (.ref g7)))
    (L7 : K.lookup g7 = some ⟨oce7, ode7, .func (PySem.W.fnOf "is_integer_within" "is_integer_within" (defArgs (topS 7)) (defBody (topS 7)) (defScope (topS 7)) .none kVe7 dce7 pme7 ane7 cde7 cte7), sle7⟩)
    (H7 : initB K g7 cde7 "is_integer_within" = true)
    (A10 : nsIn K mainGlobals "length" = some (some (.ref g10)))
    (L10 : K.lookup g10 = some ⟨oce10, ode10, .func (PySem.W.fnOf "length" "length" (defArgs (topS 10)) (defBody (topS 10)) (defScope (topS 10)) .none kVe10 dce10 pme10 ane10 cde10 cte10), sle10⟩)
    (H10 : initB K g10 cde10 "length" = true)
    (A11 : nsIn K mainGlobals "lines_of" = some (some (.ref g11)))
    (L11 : K.lookup g11 = some ⟨oce11, ode11, .func (PySem.W.fnOf "lines_of" "lines_of" (defArgs (topS 11)) (defBody (topS 11)) (defScope (topS 11)) .none kVe11 dce11 pme11 ane11 cde11 cte11), sle11⟩)
    (H11 : initB K g11 cde11 "lines_of" = true)
    (A12 : nsIn K mainGlobals "line_at" = some (some (.ref g12)))
    (L12 : K.lookup g12 = some ⟨oce12, ode12, .func (PySem.W.fnOf "line_at" "line_at" (defArgs (topS 12)) (defBody (topS 12)) (defScope (topS 12)) .none kVe12 dce12 pme12 ane12 cde12 cte12), sle12⟩)
    (H12 : initB K g12 cde12 "line_at" = true)
    (A13 : nsIn K mainGlobals "totals" = some (some (.ref g13)))
    (L13 : K.lookup g13 = some ⟨oce13, ode13, .func (PySem.W.fnOf "totals" "totals" (defArgs (topS 13)) (defBody (topS 13)) (defScope (topS 13)) .none kVe13 dce13 pme13 ane13 cde13 cte13), sle13⟩)
    (H13 : initB K g13 cde13 "totals" = true)
    (A14 : nsIn K mainGlobals "totals_between" = some (some (.ref g14)))
    (L14 : K.lookup g14 = some ⟨oce14, ode14, .func (PySem.W.fnOf "totals_between" "totals_between" (defArgs (topS 14)) (defBody (topS 14)) (defScope (topS 14)) .none kVe14 dce14 pme14 ane14 cde14 cte14), sle14⟩)
    (H14 : initB K g14 cde14 "totals_between" = true)
    (A15 : nsIn K mainGlobals "nth_tick" = some (some (.ref g15)))
    (L15 : K.lookup g15 = some ⟨oce15, ode15, .func (PySem.W.fnOf "nth_tick" "nth_tick" (defArgs (topS 15)) (defBody (topS 15)) (defScope (topS 15)) .none kVe15 dce15 pme15 ane15 cde15 cte15), sle15⟩)
    (H15 : initB K g15 cde15 "nth_tick" = true)
    (A16 : nsIn K mainGlobals "expanded" = some (some (.ref g16)))
    (L16 : K.lookup g16 = some ⟨oce16, ode16, .func (PySem.W.fnOf "expanded" "expanded" (defArgs (topS 16)) (defBody (topS 16)) (defScope (topS 16)) .none kVe16 dce16 pme16 ane16 cde16 cte16), sle16⟩)
    (H16 : initB K g16 cde16 "expanded" = true)
    (A17 : nsIn K mainGlobals "check_line" = some (some (.ref g17)))
    (L17 : K.lookup g17 = some ⟨oce17, ode17, .func (PySem.W.fnOf "check_line" "check_line" (defArgs (topS 17)) (defBody (topS 17)) (defScope (topS 17)) .none kVe17 dce17 pme17 ane17 cde17 cte17), sle17⟩)
    (H17 : initB K g17 cde17 "check_line" = true)
    (A18 : nsIn K mainGlobals "check_length" = some (some (.ref g18)))
    (L18 : K.lookup g18 = some ⟨oce18, ode18, .func (PySem.W.fnOf "check_length" "check_length" (defArgs (topS 18)) (defBody (topS 18)) (defScope (topS 18)) .none kVe18 dce18 pme18 ane18 cde18 cte18), sle18⟩)
    (H18 : initB K g18 cde18 "check_length" = true)
    (A19 : nsIn K mainGlobals "spent" = some (some (.ref g19)))
    (L19 : K.lookup g19 = some ⟨oce19, ode19, .func (PySem.W.fnOf "spent" "spent" (defArgs (topS 19)) (defBody (topS 19)) (defScope (topS 19)) .none kVe19 dce19 pme19 ane19 cde19 cte19), sle19⟩)
    (H19 : initB K g19 cde19 "spent" = true)
    (A20 : nsIn K mainGlobals "spent_before" = some (some (.ref g20)))
    (L20 : K.lookup g20 = some ⟨oce20, ode20, .func (PySem.W.fnOf "spent_before" "spent_before" (defArgs (topS 20)) (defBody (topS 20)) (defScope (topS 20)) .none kVe20 dce20 pme20 ane20 cde20 cte20), sle20⟩)
    (H20 : initB K g20 cde20 "spent_before" = true)
    (A21 : nsIn K mainGlobals "spent_early" = some (some (.ref g21)))
    (L21 : K.lookup g21 = some ⟨oce21, ode21, .func (PySem.W.fnOf "spent_early" "spent_early" (defArgs (topS 21)) (defBody (topS 21)) (defScope (topS 21)) .none kVe21 dce21 pme21 ane21 cde21 cte21), sle21⟩)
    (H21 : initB K g21 cde21 "spent_early" = true)
    (A22 : nsIn K mainGlobals "added_up" = some (some (.ref g22)))
    (L22 : K.lookup g22 = some ⟨oce22, ode22, .func (PySem.W.fnOf "added_up" "added_up" (defArgs (topS 22)) (defBody (topS 22)) (defScope (topS 22)) .none kVe22 dce22 pme22 ane22 cde22 cte22), sle22⟩)
    (H22 : initB K g22 cde22 "added_up" = true)
    (A23 : nsIn K mainGlobals "ticks_of" = some (some (.ref g23)))
    (L23 : K.lookup g23 = some ⟨oce23, ode23, .func (PySem.W.fnOf "ticks_of" "ticks_of" (defArgs (topS 23)) (defBody (topS 23)) (defScope (topS 23)) .none kVe23 dce23 pme23 ane23 cde23 cte23), sle23⟩)
    (H23 : initB K g23 cde23 "ticks_of" = true)
    (A24 : nsIn K mainGlobals "item_at" = some (some (.ref g24)))
    (L24 : K.lookup g24 = some ⟨oce24, ode24, .func (PySem.W.fnOf "item_at" "item_at" (defArgs (topS 24)) (defBody (topS 24)) (defScope (topS 24)) .none kVe24 dce24 pme24 ane24 cde24 cte24), sle24⟩)
    (H24 : initB K g24 cde24 "item_at" = true)
    (A25 : nsIn K mainGlobals "ticks_ahead" = some (some (.ref g25)))
    (L25 : K.lookup g25 = some ⟨oce25, ode25, .func (PySem.W.fnOf "ticks_ahead" "ticks_ahead" (defArgs (topS 25)) (defBody (topS 25)) (defScope (topS 25)) .none kVe25 dce25 pme25 ane25 cde25 cte25), sle25⟩)
    (H25 : initB K g25 cde25 "ticks_ahead" = true)
    (A26 : nsIn K mainGlobals "written_out" = some (some (.ref g26)))
    (L26 : K.lookup g26 = some ⟨oce26, ode26, .func (PySem.W.fnOf "written_out" "written_out" (defArgs (topS 26)) (defBody (topS 26)) (defScope (topS 26)) .none kVe26 dce26 pme26 ane26 cde26 cte26), sle26⟩)
    (H26 : initB K g26 cde26 "written_out" = true)
    (A28 : nsIn K mainGlobals "_law_pot" = some (some (.ref g28)))
    (L28 : K.lookup g28 = some ⟨oce28, ode28, .func (PySem.W.fnOf "_law_pot" "_law_pot" (defArgs (topS 28)) (defBody (topS 28)) (defScope (topS 28)) .none kVe28 dce28 pme28 ane28 cde28 cte28), sle28⟩)
    (H28 : initB K g28 cde28 "_law_pot" = true)
    (A29 : nsIn K mainGlobals "_law_take" = some (some (.ref g29)))
    (L29 : K.lookup g29 = some ⟨oce29, ode29, .func (PySem.W.fnOf "_law_take" "_law_take" (defArgs (topS 29)) (defBody (topS 29)) (defScope (topS 29)) .none kVe29 dce29 pme29 ane29 cde29 cte29), sle29⟩)
    (H29 : initB K g29 cde29 "_law_take" = true)
    (A30 : nsIn K mainGlobals "_law_of" = some (some (.ref g30)))
    (L30 : K.lookup g30 = some ⟨oce30, ode30, .func (PySem.W.fnOf "_law_of" "_law_of" (defArgs (topS 30)) (defBody (topS 30)) (defScope (topS 30)) .none kVe30 dce30 pme30 ane30 cde30 cte30), sle30⟩)
    (H30 : initB K g30 cde30 "_law_of" = true)
    (A31 : nsIn K mainGlobals "_law_names" = some (some (.ref g31)))
    (L31 : K.lookup g31 = some ⟨oce31, ode31, .func (PySem.W.fnOf "_law_names" "_law_names" (defArgs (topS 31)) (defBody (topS 31)) (defScope (topS 31)) .none kVe31 dce31 pme31 ane31 cde31 cte31), sle31⟩)
    (H31 : initB K g31 cde31 "_law_names" = true)
    (A32 : nsIn K mainGlobals "_law_items" = some (some (.ref g32)))
    (L32 : K.lookup g32 = some ⟨oce32, ode32, .func (PySem.W.fnOf "_law_items" "_law_items" (defArgs (topS 32)) (defBody (topS 32)) (defScope (topS 32)) .none kVe32 dce32 pme32 ane32 cde32 cte32), sle32⟩)
    (H32 : initB K g32 cde32 "_law_items" = true)
    (A33 : nsIn K mainGlobals "_law_ticks" = some (some (.ref g33)))
    (L33 : K.lookup g33 = some ⟨oce33, ode33, .func (PySem.W.fnOf "_law_ticks" "_law_ticks" (defArgs (topS 33)) (defBody (topS 33)) (defScope (topS 33)) .none kVe33 dce33 pme33 ane33 cde33 cte33), sle33⟩)
    (H33 : initB K g33 cde33 "_law_ticks" = true)
    (A34 : nsIn K mainGlobals "_law_small" = some (some (.ref g34)))
    (L34 : K.lookup g34 = some ⟨oce34, ode34, .func (PySem.W.fnOf "_law_small" "_law_small" (defArgs (topS 34)) (defBody (topS 34)) (defScope (topS 34)) .none kVe34 dce34 pme34 ane34 cde34 cte34), sle34⟩)
    (H34 : initB K g34 cde34 "_law_small" = true)
    (A35 : nsIn K mainGlobals "_law_counted" = some (some (.ref g35)))
    (L35 : K.lookup g35 = some ⟨oce35, ode35, .func (PySem.W.fnOf "_law_counted" "_law_counted" (defArgs (topS 35)) (defBody (topS 35)) (defScope (topS 35)) .none kVe35 dce35 pme35 ane35 cde35 cte35), sle35⟩)
    (H35 : initB K g35 cde35 "_law_counted" = true)
    (A36 : nsIn K mainGlobals "_law_right" = some (some (.ref g36)))
    (L36 : K.lookup g36 = some ⟨oce36, ode36, .func (PySem.W.fnOf "_law_right" "_law_right" (defArgs (topS 36)) (defBody (topS 36)) (defScope (topS 36)) .none kVe36 dce36 pme36 ane36 cde36 cte36), sle36⟩)
    (H36 : initB K g36 cde36 "_law_right" = true)
    (A37 : nsIn K mainGlobals "law" = some (some (.ref g37)))
    (L37 : K.lookup g37 = some ⟨oce37, ode37, .func (PySem.W.fnOf "law" "law" (defArgs (topS 37)) (defBody (topS 37)) (defScope (topS 37)) .none kVe37 dce37 pme37 ane37 cde37 cte37), sle37⟩)
    (H37 : initB K g37 cde37 "law" = true)
    (c_LONGEST : nsIn K mainGlobals "LONGEST" = some (some (.int 2000 t_LONGEST)))
    (z_len : nsIn K mainGlobals "len" = some none)
    (z_abs : nsIn K mainGlobals "abs" = some none)
    (z_int : nsIn K mainGlobals "int" = some none)
    (z_bool : nsIn K mainGlobals "bool" = some none)
    (z_isinstance : nsIn K mainGlobals "isinstance" = some none)
    (z_range : nsIn K mainGlobals "range" = some none)
    (z_max : nsIn K mainGlobals "max" = some none)
    (z_min : nsIn K mainGlobals "min" = some none)
    (z_sum : nsIn K mainGlobals "sum" = some none)
    (z_repr : nsIn K mainGlobals "repr" = some none)
    (z_divmod : nsIn K mainGlobals "divmod" = some none)
    (z_tuple : nsIn K mainGlobals "tuple" = some none)
    (z_sorted : nsIn K mainGlobals "sorted" = some none)
    (z_set : nsIn K mainGlobals "set" = some none)
    (z_enumerate : nsIn K mainGlobals "enumerate" = some none)
    : ∃ fd : FuncData, (∀ (s : Shared) (u : Value), BindsTo s fd ⟨[u], []⟩ [("_law_script", u)]) ∧
      ∀ base : Heap, K.In base → base.Ns mainGlobals mg → (∃ mm, base.Ns sysModules mm) → FnG P w K mg base CX0 13 fa fd ["_law_script"] (spLaw K) := by
  have e := hfa.symm.trans (PySem.W.mg_of X G A37)
  cases e
  obtain ⟨t6, u6, v6⟩ := initB_ok H6
  have F6 := fun_mk (st := topS 6) L6 u6 v6
  have m6 := PySem.W.mg_of X G A6
  have b6 := F6.binds (ps := ["value"]) fun _ _ _ _ _ _ us hl => match us, hl with | [_], _ => rfl
  obtain ⟨t7, u7, v7⟩ := initB_ok H7
  have F7 := fun_mk (st := topS 7) L7 u7 v7
  have m7 := PySem.W.mg_of X G A7
  have b7 := F7.binds (ps := ["value", "least", "most"]) fun _ _ _ _ _ _ us hl => match us, hl with | [_, _, _], _ => rfl
  obtain ⟨t10, u10, v10⟩ := initB_ok H10
  have F10 := fun_mk (st := topS 10) L10 u10 v10
  have m10 := PySem.W.mg_of X G A10
  have b10 := F10.binds (ps := ["program"]) fun _ _ _ _ _ _ us hl => match us, hl with | [_], _ => rfl
  obtain ⟨t11, u11, v11⟩ := initB_ok H11
  have F11 := fun_mk (st := topS 11) L11 u11 v11
  have m11 := PySem.W.mg_of X G A11
  have b11 := F11.binds (ps := ["program"]) fun _ _ _ _ _ _ us hl => match us, hl with | [_], _ => rfl
  obtain ⟨t12, u12, v12⟩ := initB_ok H12
  have F12 := fun_mk (st := topS 12) L12 u12 v12
  have m12 := PySem.W.mg_of X G A12
  have b12 := F12.binds (ps := ["program", "tick"]) fun _ _ _ _ _ _ us hl => match us, hl with | [_, _], _ => rfl
  obtain ⟨t13, u13, v13⟩ := initB_ok H13
  have F13 := fun_mk (st := topS 13) L13 u13 v13
  have m13 := PySem.W.mg_of X G A13
  have b13 := F13.binds (ps := ["program"]) fun _ _ _ _ _ _ us hl => match us, hl with | [_], _ => rfl
  obtain ⟨t14, u14, v14⟩ := initB_ok H14
  have F14 := fun_mk (st := topS 14) L14 u14 v14
  have m14 := PySem.W.mg_of X G A14
  have b14 := F14.binds (ps := ["program", "first", "stop"]) fun _ _ _ _ _ _ us hl => match us, hl with | [_, _, _], _ => rfl
  obtain ⟨t15, u15, v15⟩ := initB_ok H15
  have F15 := fun_mk (st := topS 15) L15 u15 v15
  have m15 := PySem.W.mg_of X G A15
  have b15 := F15.binds (ps := ["program", "name", "number"]) fun _ _ _ _ _ _ us hl => match us, hl with | [_, _, _], _ => rfl
  obtain ⟨t16, u16, v16⟩ := initB_ok H16
  have F16 := fun_mk (st := topS 16) L16 u16 v16
  have m16 := PySem.W.mg_of X G A16
  have b16 := F16.binds (ps := ["program"]) fun _ _ _ _ _ _ us hl => match us, hl with | [_], _ => rfl
  obtain ⟨t17, u17, v17⟩ := initB_ok H17
  have F17 := fun_mk (st := topS 17) L17 u17 v17
  have m17 := PySem.W.mg_of X G A17
  have b17 := F17.binds (ps := ["program", "name"]) fun _ _ _ _ _ _ us hl => match us, hl with | [_, _], _ => rfl
  obtain ⟨t18, u18, v18⟩ := initB_ok H18
  have F18 := fun_mk (st := topS 18) L18 u18 v18
  have m18 := PySem.W.mg_of X G A18
  have b18 := F18.binds (ps := ["program"]) fun _ _ _ _ _ _ us hl => match us, hl with | [_], _ => rfl
  obtain ⟨t19, u19, v19⟩ := initB_ok H19
  have F19 := fun_mk (st := topS 19) L19 u19 v19
  have m19 := PySem.W.mg_of X G A19
  have b19 := F19.binds (ps := ["items", "rounds"]) fun _ _ _ _ _ _ us hl => match us, hl with | [_, _], _ => rfl
  obtain ⟨t20, u20, v20⟩ := initB_ok H20
  have F20 := fun_mk (st := topS 20) L20 u20 v20
  have m20 := PySem.W.mg_of X G A20
  have b20 := F20.binds (ps := ["items", "stop"]) fun _ _ _ _ _ _ us hl => match us, hl with | [_, _], _ => rfl
  obtain ⟨t21, u21, v21⟩ := initB_ok H21
  have F21 := fun_mk (st := topS 21) L21 u21 v21
  have m21 := PySem.W.mg_of X G A21
  have b21 := F21.binds (ps := ["item", "stop"]) fun _ _ _ _ _ _ us hl => match us, hl with | [_, _], _ => rfl
  obtain ⟨t22, u22, v22⟩ := initB_ok H22
  have F22 := fun_mk (st := topS 22) L22 u22 v22
  have m22 := PySem.W.mg_of X G A22
  have b22 := F22.binds (ps := ["program", "pairs"]) fun _ _ _ _ _ _ us hl => match us, hl with | [_, _], _ => rfl
  obtain ⟨t23, u23, v23⟩ := initB_ok H23
  have F23 := fun_mk (st := topS 23) L23 u23 v23
  have m23 := PySem.W.mg_of X G A23
  have b23 := F23.binds (ps := ["items", "name"]) fun _ _ _ _ _ _ us hl => match us, hl with | [_, _], _ => rfl
  obtain ⟨t24, u24, v24⟩ := initB_ok H24
  have F24 := fun_mk (st := topS 24) L24 u24 v24
  have m24 := PySem.W.mg_of X G A24
  have b24 := F24.binds (ps := ["items", "tick"]) fun _ _ _ _ _ _ us hl => match us, hl with | [_, _], _ => rfl
  obtain ⟨t25, u25, v25⟩ := initB_ok H25
  have F25 := fun_mk (st := topS 25) L25 u25 v25
  have m25 := PySem.W.mg_of X G A25
  have b25 := F25.binds (ps := ["items", "name", "number"]) fun _ _ _ _ _ _ us hl => match us, hl with | [_, _, _], _ => rfl
  obtain ⟨t26, u26, v26⟩ := initB_ok H26
  have F26 := fun_mk (st := topS 26) L26 u26 v26
  have m26 := PySem.W.mg_of X G A26
  have b26 := F26.binds (ps := ["items"]) fun _ _ _ _ _ _ us hl => match us, hl with | [_], _ => rfl
  obtain ⟨t28, u28, v28⟩ := initB_ok H28
  have F28 := fun_mk (st := topS 28) L28 u28 v28
  have m28 := PySem.W.mg_of X G A28
  have b28 := F28.binds (ps := ["_law_script", "_law_k"]) fun _ _ _ _ _ _ us hl => match us, hl with | [_, _], _ => rfl
  obtain ⟨t29, u29, v29⟩ := initB_ok H29
  have F29 := fun_mk (st := topS 29) L29 u29 v29
  have m29 := PySem.W.mg_of X G A29
  have b29 := F29.binds (ps := ["_law_pot_here", "_law_many"]) fun _ _ _ _ _ _ us hl => match us, hl with | [_, _], _ => rfl
  obtain ⟨t30, u30, v30⟩ := initB_ok H30
  have F30 := fun_mk (st := topS 30) L30 u30 v30
  have m30 := PySem.W.mg_of X G A30
  have b30 := F30.binds (ps := ["_law_pot_here", "_law_some"]) fun _ _ _ _ _ _ us hl => match us, hl with | [_, _], _ => rfl
  obtain ⟨t31, u31, v31⟩ := initB_ok H31
  have F31 := fun_mk (st := topS 31) L31 u31 v31
  have m31 := PySem.W.mg_of X G A31
  have b31 := F31.binds (ps := ["_law_pot_here", "_law_many"]) fun _ _ _ _ _ _ us hl => match us, hl with | [_, _], _ => rfl
  obtain ⟨t32, u32, v32⟩ := initB_ok H32
  have F32 := fun_mk (st := topS 32) L32 u32 v32
  have m32 := PySem.W.mg_of X G A32
  have b32 := F32.binds (ps := ["_law_pot_here", "_law_names_here", "_law_many", "_law_depth", "_law_most"]) fun _ _ _ _ _ _ us hl => match us, hl with | [_, _, _, _, _], _ => rfl
  obtain ⟨t33, u33, v33⟩ := initB_ok H33
  have F33 := fun_mk (st := topS 33) L33 u33 v33
  have m33 := PySem.W.mg_of X G A33
  have b33 := F33.binds (ps := ["_law_items_here"]) fun _ _ _ _ _ _ us hl => match us, hl with | [_], _ => rfl
  obtain ⟨t34, u34, v34⟩ := initB_ok H34
  have F34 := fun_mk (st := topS 34) L34 u34 v34
  have m34 := PySem.W.mg_of X G A34
  have b34 := F34.binds (ps := ["_law_pot_here", "_law_most"]) fun _ _ _ _ _ _ us hl => match us, hl with | [_, _], _ => rfl
  obtain ⟨t35, u35, v35⟩ := initB_ok H35
  have F35 := fun_mk (st := topS 35) L35 u35 v35
  have m35 := PySem.W.mg_of X G A35
  have b35 := F35.binds (ps := ["_law_word", "_law_names_here"]) fun _ _ _ _ _ _ us hl => match us, hl with | [_, _], _ => rfl
  obtain ⟨t36, u36, v36⟩ := initB_ok H36
  have F36 := fun_mk (st := topS 36) L36 u36 v36
  have m36 := PySem.W.mg_of X G A36
  have b36 := F36.binds (ps := ["_law_pot_here", "_law_program", "_law_word"]) fun _ _ _ _ _ _ us hl => match us, hl with | [_, _, _], _ => rfl
  obtain ⟨t37, u37, v37⟩ := initB_ok H37
  have F37 := fun_mk (st := topS 37) L37 u37 v37
  have m37 := PySem.W.mg_of X G A37
  have k_LONGEST := PySem.W.mg_of X G c_LONGEST
  have n_len := PySem.W.mg_none_of X G z_len
  have n_abs := PySem.W.mg_none_of X G z_abs
  have n_int := PySem.W.mg_none_of X G z_int
  have n_bool := PySem.W.mg_none_of X G z_bool
  have n_isinstance := PySem.W.mg_none_of X G z_isinstance
  have n_range := PySem.W.mg_none_of X G z_range
  have n_max := PySem.W.mg_none_of X G z_max
  have n_min := PySem.W.mg_none_of X G z_min
  have n_sum := PySem.W.mg_none_of X G z_sum
  have n_repr := PySem.W.mg_none_of X G z_repr
  have n_divmod := PySem.W.mg_none_of X G z_divmod
  have n_tuple := PySem.W.mg_none_of X G z_tuple
  have n_sorted := PySem.W.mg_none_of X G z_sorted
  have n_set := PySem.W.mg_none_of X G z_set
  have n_enumerate := PySem.W.mg_none_of X G z_enumerate
  refine ⟨PySem.W.fnOf "law" "law" (defArgs (topS 37)) (defBody (topS 37)) (defScope (topS 37)) .none kVe37 dce37 pme37 ane37 cde37 cte37, fun s u => .of_eq rfl, fun base _ _ hm => ?_⟩
  have hB : Room2 64 2 := ⟨by decide, by decide⟩
  have GS := ok_spent (P := P) (w := w) (base := base) (B := 64) F19 b19 m19 2
  have GLe := ok_len hB F10 GS b19 m19 v19 n_sum
  have GLi := ok_lines hB F11 GS b19 m19 v19 n_tuple n_sorted
  have GAd := ok_added F22 GLi b11 m11 v11 n_tuple
  have GTo := ok_tot hB F13 GS b19 m19 v19 GAd b22 m22 v22
  have GBe := ok_bef (M := 2) (by decide) (by decide) (by decide) F20 F21 GLe b10 m10 v10 GS b19 m19 v19 b20 m20 b21 m21 n_divmod 2 (by decide)
  have GBt := ok_btw (by decide) F14 GBe b20 m20 v20 (by decide) GAd b22 m22 v22
  have GTi := ok_tks hB F23 GS b19 m19 v19 n_sum
  have GWh := ok_wh (P := P) (w := w) (base := base) F6 n_isinstance n_int n_bool
  have GIn := ok_in F7 GWh b6 m6 v6
  have GIt := ok_itm F24 GLe b10 m10 v10
  have GLa := ok_lat F12 GLe b10 m10 v10 GIt b24 m24 v24 GIn b7 m7 v7
  have GAh := ok_ahd (M := 2) (by decide) (by decide) F25 GLe b10 m10 v10 GTi b23 m23 v23 b25 m25 n_divmod 2 (by decide)
  have GCk := ok_cln F17 GLi b11 m11 v11
  have GNt := ok_nth F15 GCk b17 m17 v17 GTi b23 m23 v23 GIn b7 m7 v7 GAh b25 m25 v25 (by decide)
  have GWr := ok_wr (P := P) (w := w) (base := base) (B := 64) F26 b26 m26 2
  have GCh := ok_chk F18 GLe b10 m10 v10 k_LONGEST
  have GEx := ok_exp F16 GCh b18 m18 v18 GWr b26 m26 v26 n_tuple
  have GT : FnOk P w K mg base CX0 1 _ _ ["_law_pot_here", "_law_many"] spTake := ok_take F29
  have GO := ok_of (P := P) (w := w) (base := base) F30 F29 b29 m29 n_len
  have GN := ok_names (P := P) (w := w) (base := base) F31 F29 b29 m29 n_len n_range
  have GI := ok_items F32 F29 b29 m29 GO b30 m30 v30 m32 b32 n_range n_tuple 2
  have GL := ok_lt (P := P) (w := w) (base := base) (B := 64) F33 b33 m33 2
  have GSm := ok_small F34 GT b29 m29 v29 GN b31 m31 v31 GI b32 m32 v32 GL b33 m33 v33 n_len
  have GCt := ok_ct (P := P) (w := w) (base := base) F35 n_len n_tuple
  have GRi := ok_ri (k := 11) (by decide) (by decide) hm F36 GLe b10 m10 v10 GLi b11 m11 v11 GTo b13 m13 v13 GEx b16 m16 v16 GLa b12 m12 v12 GBt b14 m14 v14 GNt b15 m15 v15 GT b29 m29 v29 GCt b35 m35 v35 n_repr n_len n_tuple n_sorted n_set n_range n_enumerate
  exact ok_law (by decide) F37 (ok_pot F28 n_len n_abs n_int) b28 m28 v28 GSm b34 m34 v34 GRi b36 m36 v36 n_range n_max n_min n_len
end Ev

open PySem PySem.W PyProof.Rows
set_option maxRecDepth 100000 in
set_option maxHeartbeats 0 in
theorem PySem.Challenge.cw_evensamples_k02_ticks_of_small_programs_holds : PySem.Challenge.rw_evensamples_k02_ticks_of_small_programs.Holds := by
  w_on; o_law; k_head; (case hw => w_witness2)
  k_fill
  refine Ev.walkG (l := PySem.Challenge.rw_evensamples_k02_ticks_of_small_programs) (n := 63) (k := 13) (x := "_law_script") (CX := L2.CX0) (sp := Ev.spLaw) ?noImports rfl (by decide) rfl ⟨rfl, by decide, by decide⟩ (fun w h Y => PySem.W.kIn_of Y) ?F
    (fun _ _ a ns _ _ hS => ⟨a, ns, rfl, hS, fun _ => rfl⟩) (fun _ _ _ _ h => h)
  case noImports => decide +kernel
  case F =>
    intro w mg fa h KX G hmg
    refine' Ev.all_mk KX G hmg ?A6 ?L6 ?H6 ?A7 ?L7 ?H7 ?A10 ?L10 ?H10 ?A11 ?L11 ?H11 ?A12 ?L12 ?H12 ?A13 ?L13 ?H13 ?A14 ?L14 ?H14 ?A15 ?L15 ?H15 ?A16 ?L16 ?H16 ?A17 ?L17 ?H17 ?A18 ?L18 ?H18 ?A19 ?L19 ?H19 ?A20 ?L20 ?H20 ?A21 ?L21 ?H21 ?A22 ?L22 ?H22 ?A23 ?L23 ?H23 ?A24 ?L24 ?H24 ?A25 ?L25 ?H25 ?A26 ?L26 ?H26 ?A28 ?L28 ?H28 ?A29 ?L29 ?H29 ?A30 ?L30 ?H30 ?A31 ?L31 ?H31 ?A32 ?L32 ?H32 ?A33 ?L33 ?H33 ?A34 ?L34 ?H34 ?A35 ?L35 ?H35 ?A36 ?L36 ?H36 ?A37 ?L37 ?H37 ?c_LONGEST ?z_len ?z_abs ?z_int ?z_bool ?z_isinstance ?z_range ?z_max ?z_min ?z_sum ?z_repr ?z_divmod ?z_tuple ?z_sorted ?z_set ?z_enumerate
    (case A6 => k_is)
    (case L6 => k_is)
    (case H6 => kernel_rfl)
    (case A7 => k_is)
    (case L7 => k_is)
    (case H7 => kernel_rfl)
    (case A10 => k_is)
    (case L10 => k_is)
    (case H10 => kernel_rfl)
    (case A11 => k_is)
    (case L11 => k_is)
    (case H11 => kernel_rfl)
    (case A12 => k_is)
    (case L12 => k_is)
    (case H12 => kernel_rfl)
    (case A13 => k_is)
    (case L13 => k_is)
    (case H13 => kernel_rfl)
    (case A14 => k_is)
    (case L14 => k_is)
    (case H14 => kernel_rfl)
    (case A15 => k_is)
    (case L15 => k_is)
    (case H15 => kernel_rfl)
    (case A16 => k_is)
    (case L16 => k_is)
    (case H16 => kernel_rfl)
    (case A17 => k_is)
    (case L17 => k_is)
    (case H17 => kernel_rfl)
    (case A18 => k_is)
    (case L18 => k_is)
    (case H18 => kernel_rfl)
    (case A19 => k_is)
    (case L19 => k_is)
    (case H19 => kernel_rfl)
    (case A20 => k_is)
    (case L20 => k_is)
    (case H20 => kernel_rfl)
    (case A21 => k_is)
    (case L21 => k_is)
    (case H21 => kernel_rfl)
    (case A22 => k_is)
    (case L22 => k_is)
    (case H22 => kernel_rfl)
    (case A23 => k_is)
    (case L23 => k_is)
    (case H23 => kernel_rfl)
    (case A24 => k_is)
    (case L24 => k_is)
    (case H24 => kernel_rfl)
    (case A25 => k_is)
    (case L25 => k_is)
    (case H25 => kernel_rfl)
    (case A26 => k_is)
    (case L26 => k_is)
    (case H26 => kernel_rfl)
    (case A28 => k_is)
    (case L28 => k_is)
    (case H28 => kernel_rfl)
    (case A29 => k_is)
    (case L29 => k_is)
    (case H29 => kernel_rfl)
    (case A30 => k_is)
    (case L30 => k_is)
    (case H30 => kernel_rfl)
    (case A31 => k_is)
    (case L31 => k_is)
    (case H31 => kernel_rfl)
    (case A32 => k_is)
    (case L32 => k_is)
    (case H32 => kernel_rfl)
    (case A33 => k_is)
    (case L33 => k_is)
    (case H33 => kernel_rfl)
    (case A34 => k_is)
    (case L34 => k_is)
    (case H34 => kernel_rfl)
    (case A35 => k_is)
    (case L35 => k_is)
    (case H35 => kernel_rfl)
    (case A36 => k_is)
    (case L36 => k_is)
    (case H36 => kernel_rfl)
    (case A37 => k_is)
    (case L37 => k_is)
    (case H37 => kernel_rfl)
    (case c_LONGEST => k_is)
    (case z_len => k_is)
    (case z_abs => k_is)
    (case z_int => k_is)
    (case z_bool => k_is)
    (case z_isinstance => k_is)
    (case z_range => k_is)
    (case z_max => k_is)
    (case z_min => k_is)
    (case z_sum => k_is)
    (case z_repr => k_is)
    (case z_divmod => k_is)
    (case z_tuple => k_is)
    (case z_sorted => k_is)
    (case z_set => k_is)
    (case z_enumerate => k_is)

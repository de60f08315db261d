import PyProof.Rows.All
import Wide.All
import OpenK.AllK
import Wide.FinOn
import PySem.Challenge.RW_evensamples_k05_errors_by_themselves
import HandS.ForMost
import HandS.Wide
import HandS.ExcInit
import HandS.IsInst
import HandS.ExcValue
import KE.KExcIs
set_option Elab.async false
set_option linter.all false
set_option maxRecDepth 100000
set_option maxHeartbeats 4000000
/-! ## Promises of defs that are called while no repr is under way -/
namespace Ev
open PySem PySem.Spec PyProof.Rows L2

/-- the promise of a def, for a stack without a repr that is under way -/
structure FnG (P : Program) (w : World) (K : PySem.W.Frag) (mg : Str → Option Value)
    (base : Heap) (CX : CXT) (k : Nat) (f : Addr) (fd : FuncData) (ps : List Str) (sp : Sp) : Prop where
  many : ∀ vs H Q E, sp vs H Q E → vs.length = ps.length
  go : ∀ (A : Around) (outer : List Env) (s : Shared) (H : Hp) (args : Args)
      (us : List Value) (vs : List V) (Q : VK) (E : XK),
    Room k A → A.guards = some [] → Env0 P w K mg base A outer s H → BindsTo s fd args (ps.zip us) →
      Vals vs us → sp vs H Q E → codeAny (model P w) A (.call (.ref f) args) (CR CX outer P w H s Q E) s

section
variable {P : Program} {w : World} {K : PySem.W.Frag} {mg : Str → Option Value} {base : Heap} {CX : CXT}
variable {k : Nat} {f : Addr} {fd : FuncData} {ps : List Str} {sp : Sp}
theorem FnG.of (F : FnOk P w K mg base CX k f fd ps sp) : FnG P w K mg base CX k f fd ps sp :=
  ⟨F.len, fun A o s H args us vs Q E hr _ => F.run A o s H args us vs Q E hr⟩
theorem FnG.up {j : Nat} (F : FnG P w K mg base CX j f fd ps sp) (h : j ≤ k) : FnG P w K mg base CX k f fd ps sp :=
  ⟨F.many, fun A o s H args us vs Q E hr => F.go A o s H args us vs Q E (hr.mono h)⟩
end

section
variable {X : Cx} {CX : CXT} {k : Nat} {f : Addr} {fd : FuncData} {ps : List Str} {sp : Sp}
variable {dvs : List V} {ds : List Value} {E : XK} {x : Str} {p pos : Pos} {e : Expr} {es : List Expr} {t : TA}
theorem runG {pins : List (Addr × Obj)} {σ : L2.St} {H : Hp} {s : Shared} {Q : VK} {us : List Value} {vs : List V}
    (F : FnG X.prog X.w X.K X.mg X.base CX k f fd ps sp) (hr : Room k X.A) (gd : X.A.guards = some [])
    (hb : Binds X.K fd ps ds) (hd : Vals dvs ds) (hx : Passes CX X E) (I : Inv X pins σ H s) (r : Vals vs us)
    (h : sp (vs ++ dvs) H Q E) : wpAny (model X.prog X.w) X.A (call (.ref f) us) (EP X pins σ Q) X.xe s := by
  have rr : Vals (vs ++ dvs) (us ++ ds) := r.append hd
  have hl : (us ++ ds).length = ps.length := rr.length.symm.trans (F.many _ _ _ _ h)
  have z := F.go X.A X.stack s H ⟨us, []⟩ (us ++ ds) (vs ++ dvs) Q E hr gd I.env0 (hb s us I.kIn hl) rr h
  refine wpAny_call (codeAny_mono z fun res s' hq => ?_)
  match res, hq with
  | .error e, hq => exact hx pins σ H s e s' I hq
  | .ok (.ret u), hq => exact I.after hq
  | .ok .next, hq => exact False.elim hq
  | .ok .brk, hq => exact False.elim hq
  | .ok .cont, hq => exact False.elim hq
theorem pe_callG (F : FnG X.prog X.w X.K X.mg X.base CX k f fd ps sp) (hr : Room k X.A) (gd : X.A.guards = some [])
    (hg : Gl X x) (hm : X.mg x = some (.ref f)) (hk : PySem.W.keepIn X.K (.ref f) = true) (hb : Binds X.K fd ps ds)
    (hd : Vals dvs ds) (hx : Passes CX X E) (ha : PA X (e :: es) t)
    (hdb : (x == ("__debug__" : Str)) = false := by decide)
    (he : starEach (e :: es) X.env = (false, eval e X.env) :: starEach es X.env := by rfl)
    (hpl : (backTo pos (starEach es X.env)).any (·.1) = false := by rfl) :
    PE X (.Call (.Name x p) (e :: es) [] pos) (tCall sp dvs E t) := by
  constructor
  intro pins s σ H Q I h
  refine wpAny_Call_Name_kw (ld_glob I hg hm ?_ hdb)
  have z := ha.run pos pins s σ H _ I h
  refine PySem.W.callWith_K (h₀ := X.base) I.ok.mod.kin hk (thn z ?_) he hpl
  rintro us s1 ⟨vs, H1, I1, r, q⟩
  exact ⟨I1.kIn, runG F hr gd hb hd hx I1 r q⟩
theorem pe_callG0 (F : FnG X.prog X.w X.K X.mg X.base CX k f fd ps sp) (hr : Room k X.A) (gd : X.A.guards = some [])
    (hg : Gl X x) (hm : X.mg x = some (.ref f)) (hk : PySem.W.keepIn X.K (.ref f) = true) (hb : Binds X.K fd ps ds)
    (hd : Vals dvs ds) (hx : Passes CX X E) (hdb : (x == ("__debug__" : Str)) = false := by decide) :
    PE X (.Call (.Name x p) [] [] pos) (tCall sp dvs E tNil) := by
  constructor
  intro pins s σ H Q I h
  refine wpAny_Call_Name_kw (ld_glob I hg hm ?_ hdb)
  have z := runG (us := []) F hr gd hb hd hx I .nil h
  exact PySem.W.callWith_K0 I.kIn hk z
end

/-- a def by its body -/
theorem fnG_of {CX : CXT} {P : Program} {w : World} {K : PySem.W.Frag} {mg : Str → Option Value} {base : Heap}
    {k : Nat} {f : Addr} {name qual : Str} {params : Arguments} {body : List Stmt} {scope : Scope}
    {dV kV doc pm cdv ct oc : Value} {an od : Option Addr} {osl : Array (Option Value)} {N ps : List Str} {sp : Sp}
    (lk : K.lookup f = some ⟨oc, od, .func (PySem.W.fnOf name qual params body scope dV kV doc pm an cdv ct), osl⟩)
    (hcd : PySem.W.codeIn K cdv qual = true) (S : FnScope N ps scope)
    (len : ∀ vs H Q E, sp vs H Q E → vs.length = ps.length)
    (hbody : ∀ (A : Around) (outer : List Env) (s : Shared) (H : Hp) (vs : List V) (Q : VK) (E : XK),
      Room k (A.deeper (envOfC qual scope s.heap.objs.size f cdv)) → A.guards = some [] → sp vs H Q E →
      ∃ t, PSs (cxOf CX P w K mg base N qual scope f cdv A outer s H E) body t ∧
        t { nx := fun _ H' => Q .non H', rt := Q } (start N vs) H) :
    FnG P w K mg base CX (k + 1) f (PySem.W.fnOf name qual params body scope dV kV doc pm an cdv ct) ps sp := by
  constructor
  · exact len
  intro A outer s H args us vs Q E hr gd e0 hb r hsp
  have old : ∀ b o, base.get? b = some o → s.heap.get? b = some o := fun b o e => (e0.bs b o e).1
  have KX : K.In s.heap := e0.mod.kin.keeps old
  have lim : s.heap.NoLimit := e0.mod.nolimit.keeps old
  have hkind : ∀ y ∈ ps.zip us, scope.names.lookup y.1 = some .local ∨
      (scope.names.lookup y.1 = some .cell ∧
        ((cellsFrom (s.heap.objs.size + 1) scope.names []).lookup y.1).isSome = true) := by
    rintro ⟨n, v⟩ hy
    have hn := (List.of_mem_zip hy).1
    rcases S.par n hn with q | q
    · exact Or.inl q
    · exact Or.inr ⟨q, PySem.W.cellsFrom_some _ _ _ (Or.inl q)⟩
  refine codeAny_call_function hr.depth (KX _ _ lk) rfl S.co S.gen rfl (PySem.W.codeRec_of KX hcd) (hb _ _ _ _ ?_)
  refine wpAny_newFunctionEnv_cells S.kind hkind ?_
  rintro env rfl s1 x
  refine ⟨lim.keeps x.toInCall.keep, codeAny_func ?_⟩
  obtain ⟨t, ht, hq⟩ := hbody A outer s H vs Q E (hr.deeper _) gd hsp
  have I := inv_start (CX := CX) (E := E) S hr.hd e0 (len _ _ _ _ hsp) r x
  refine wpAny_mono (ht.run [] s1 (start N vs) H _ I hq) ?_ (fun _ _ z => z)
  intro fl s' hs
  match fl, hs with
  | .ret u, ⟨v, σ', H', J, rv, q⟩ => exact ⟨v, H', J.os, J.bare, J.base, J.hok, rv, q⟩
  | .next, ⟨σ', H', J, q⟩ => exact ⟨V.non, H', J.os, J.bare, J.base, J.hok, rfl, q⟩
  | .brk, ⟨_, _, _, q⟩ => exact False.elim q
  | .cont, ⟨_, _, _, q⟩ => exact False.elim q

section
variable {P : Program} {w : World} {K : PySem.W.Frag} {mg : Str → Option Value} {base : Heap}
theorem okG {x qual : Str} {st : Stmt} {f : Addr} {fd : FuncData} {N ps : List Str} {k : Nat} {sp : Sp}
    (F : Fun K x qual st f fd) (S : FnScope N ps (defScope st))
    (len : ∀ vs H Q E, sp vs H Q E → vs.length = ps.length)
    (hbody : ∀ (cdv : Value) (A : Around) (outer : List Env) (s : Shared) (H : Hp) (vs : List V) (Q : VK) (E : XK),
      Room k (A.deeper (envOfC qual (defScope st) s.heap.objs.size f cdv)) → A.guards = some [] → sp vs H Q E →
      ∃ t, PSs (cxOf CX0 P w K mg base N qual (defScope st) f cdv A outer s H E).nox (defBody st) t ∧
        t { nx := fun _ H' => Q .non H', rt := Q } (start N vs) H) :
    FnG P w K mg base CX0 (k + 1) f fd ps sp := by
  obtain ⟨oc, od, kV, doc, pm, an, cdv, ct, osl, e, lk, hcd⟩ := F.ex
  subst e
  refine fnG_of lk hcd S len ?_
  intro A outer s H vs Q E hr gd hsp
  obtain ⟨t, h, q⟩ := hbody cdv A outer s H vs Q E hr gd hsp
  exact ⟨t, h.nox, q⟩
end

/-! ### the end of a law, by such a promise -/
theorem law_end {P : Program} {w : World} {K : PySem.W.Frag} {mg mb : Str → Option Value} {CX : CXT} {k : Nat}
    {fa a : Addr} {fd : FuncData} {x : Str} {sp : Sp} {s₁ : Shared} {vs : List Value} {ns : List Int}
    (KX : K.In s₁.heap) (hns : s₁.heap.Ns mainGlobals mg) (hb : s₁.heap.Ns builtinsNs mb)
    (hbb : ∀ x : Str, x ≠ "__name__" → mb x = bootBuiltins x) (hlim : s₁.heap.NoLimit) (hg : s₁.gens = #[])
    (ha : s₁.heap.get? a = some { cls := .type "list", data := .seq vs.toArray }) (hi : IntsAre vs ns)
    (hl : ns.length ≤ sizeLine) (hr : Room k callerA) (hsm : ∃ mm, s₁.heap.Ns sysModules mm)
    (F : ∀ base : Heap, K.In base → base.Ns mainGlobals mg → (∃ mm, base.Ns sysModules mm) → FnG P w K mg base CX k fa fd [x] sp)
    (hbind : ∀ (s : Shared) (u : Value), BindsTo s fd ⟨[u], []⟩ [(x, u)])
    (hsp : ∀ H : Hp, Only H → SqL K H a (ns.map V.int) → sp [.ref a] H (fun v _ => v = .bl true) fun _ _ _ => False)
    (hCX : ∀ H e s', CX [] H s₁ (fun _ _ _ => False) e s' → False) :
    codeAny (model P w) callerA (.call (.ref fa) ⟨[.ref a], []⟩)
      (fun r s' => r = .ok (.ret (.bool true)) ∧ OldK s₁.heap s'.heap ∧ s'.os = s₁.os ∧ AllBare s'.gens) s₁ := by
  have rv := vals_ints hi
  have lenV := hi.length
  have core : ∀ H : Hp, Only H → SqL K H a (ns.map V.int) → HOk P w H s₁.heap → (∀ b, H b ≠ none → b = a) →
      (H a ≠ none → K.lookup a = none) →
      codeAny (model P w) callerA (.call (.ref fa) ⟨[.ref a], []⟩)
        (fun r s' => r = .ok (.ret (.bool true)) ∧ OldK s₁.heap s'.heap ∧ s'.os = s₁.os ∧ AllBare s'.gens) s₁ := by
    intro H hO hS hok hA hK
    have at_a : ∀ {b : Addr} {u : HO}, H b = some u → b = a := fun {b u} q => hA b (by rw [q]; simp)
    have noA : ∀ {b : Addr} {o : Obj} {es : Array DictEntry} {ep : Nat}, s₁.heap.get? b = some o →
        o.data = .dict es ep → H b = none := by
      intro b o es ep e d
      cases q : H b with
      | none => rfl
      | some u =>
        rw [at_a q, ha] at e
        cases e
        exact nomatch d
    have nsK : ∀ {b : Addr} {m : Str → Option Value}, s₁.heap.Ns b m → (hidT s₁.heap H).Ns b m := by
      rintro b m ⟨o, es, ep, e, d, r⟩
      exact ⟨o, es, ep, hidT_get e (noA e d), d, r⟩
    have hKb : K.In (hidT s₁.heap H) := by
      intro b o e
      refine hidT_get (KX b o e) ?_
      cases q : H b with
      | none => rfl
      | some u =>
        have e' := at_a q
        subst e'
        rw [hK (by rw [q]; simp)] at e
        cases e
    have hM : Mod K mg (hidT s₁.heap H) := by
      obtain ⟨mc, h1, h2⟩ := hlim
      exact ⟨hKb, nsK hns, ⟨mb, nsK hb, hbb⟩, ⟨mc, nsK h1, h2⟩⟩
    have e0 : Env0 P w K mg (hidT s₁.heap H) callerA [] s₁ H := by
      refine ⟨rfl, hM, fun b o e => of_hidT e, Nat.le_of_eq (hidT_size _ _), trivial, ?_, hok, .of_eq hg⟩
      intro b hb
      exact absurd (show b ∈ ([] : List Addr) from hb) (by simp)
    have hmods : ∃ mm, (hidT s₁.heap H).Ns sysModules mm := by
      obtain ⟨mm, h1⟩ := hsm
      exact ⟨mm, nsK h1⟩
    have z := (F _ hKb (nsK hns) hmods).go callerA [] s₁ H ⟨[.ref a], []⟩ [.ref a] [.ref a] _ _ hr rfl e0
      (hbind s₁ (.ref a)) (.cons rfl .nil) (hsp H hO hS)
    refine codeAny_mono z fun r s' h => ?_
    match r, h with
    | .error e, h => exact (hCX H e s' h).elim
    | .ok .next, h => exact False.elim h
    | .ok .brk, h => exact False.elim h
    | .ok .cont, h => exact False.elim h
    | .ok (.ret u), ⟨v, H', os, bare, un, hok', r', q⟩ =>
      have q' : v = .bl true := q
      subst q'
      obtain rfl : u = Value.bool true := r'
      refine ⟨rfl, OldK.of_keep ?_, os, bare⟩
      intro b o e
      cases q : H b with
      | none =>
        refine un.keep b o e q ?_ (by simp)
        intro z
        exact absurd (show b ∈ ([] : List Addr) from z) (by simp)
      | some u =>
        rcases hO b with z | ⟨ob, xs, z⟩
        · rw [q] at z
          cases z
        · obtain ⟨e1, _⟩ := hok b _ z
          obtain ⟨e2, _⟩ := hok' b _ (un.frzs b ob _ z)
          rw [e] at e1
          cases e1
          exact e2
  cases hk : K.lookup a with
  | some o =>
    have e := KX a o hk
    rw [ha] at e
    cases e
    refine core (fun _ => none) (fun _ => Or.inl rfl) (Or.inr ⟨_, vs.toArray, _, hk, rfl, rfl, rfl, ?_, ?_⟩) ?_ ?_ ?_
    · rw [List.size_toArray, lenV]
      exact hl
    · simpa using rv
    · intro b u z
      cases (show (none : Option HO) = some u from z)
    · intro b z
      exact absurd rfl z
    · intro z
      exact absurd rfl z
  | none =>
    let o₁ : Obj := { cls := .type "list", data := .seq vs.toArray }
    let H₁ : Hp := fun b => if b = a then some (.frz o₁ (.lst (ns.map V.int))) else none
    have at1 : H₁ a = some (.frz o₁ (.lst (ns.map V.int))) := if_pos rfl
    have off : ∀ b, b ≠ a → H₁ b = none := fun b h => if_neg h
    refine core H₁ (fun b => ?_) (Or.inl (Or.inr ⟨o₁, at1⟩)) (fun b u z => ?_) (fun b z => ?_) fun _ => hk
    · by_cases hb : b = a
      · subst hb
        exact Or.inr ⟨_, _, at1⟩
      · exact Or.inl (off b hb)
    · by_cases hb : b = a
      · subst hb
        rw [at1] at z
        cases z
        refine ⟨ha, ?_, vs, _, rv, ha⟩
        rw [List.length_map]
        exact hl
      · rw [off b hb] at z
        cases z
    · by_cases hb : b = a
      · exact hb
      · exact absurd (off b hb) z

theorem walkG {l : PySem.W.OpenLaw} {n k : Nat} {q : Program} {loose : List Str} {XP : (Str → Option Value) → Heap → Prop}
    {YP : World → Heap → Prop} {d : DefRec} {K : Params → PySem.W.Frag} {CX : CXT} {sp : PySem.W.Frag → Sp} {x : Str}
    (hq : importsNone q = true) (hn : l.most = some n) (hn2 : n ≤ sizeLine) (hdf : d.params.defaults = []) (hr : Room k callerA)
    (hY : ∀ (w : World) (h : Heap), YP w h → (K w.params).In h)
    (F : ∀ (w : World) (mg : Str → Option Value) (fa : Addr) (h : Heap), (K w.params).In h → h.Ns mainGlobals mg →
      mg d.name = some (.ref fa) →
      ∃ fd : FuncData, (∀ (s : Shared) (u : Value), BindsTo s fd ⟨[u], []⟩ [(x, u)]) ∧
        ∀ base : Heap, (K w.params).In base → base.Ns mainGlobals mg → (∃ mm, base.Ns sysModules mm) →
          FnG l.prog w (K w.params) mg base CX k fa fd [x] (sp (K w.params)))
    (hsp : ∀ (K : PySem.W.Frag) (H : Hp) (a : Addr) (ns : List Int), ns.length ≤ n → Only H →
      SqL K H a (ns.map V.int) → sp K [.ref a] H (fun v _ => v = .bl true) fun _ _ _ => False)
    (hCX : ∀ (H : Hp) (s : Shared) (e : Value) (s' : Shared), CX [] H s (fun _ _ _ => False) e s' → False) :
    PySem.W.WalkO q loose XP YP l.row.toRowW d [] (fun f vs => PySem.call f vs) := by
  refine Att.attach_call hn hdf ?_
  intro w s₀ s₁ mg mb fa o pm cd doc a vs ns G Y ho hd hcd hmg hobj hints hlen hg
  have KX := hY w _ Y
  obtain ⟨fd, hb, hF⟩ := F w mg fa _ KX G.T.g hmg
  have hz := Nat.le_trans hlen hn2
  obtain ⟨mm, hmm, _⟩ := (G.T.seer hq).mods
  refine law_end KX G.T.g G.T.b G.T.builtins G.T.nolimit hg hobj hints hz hr ⟨mm, hmm⟩ hF hb ?_ ?_
  · exact fun H hO hS => hsp _ H a ns hlen hO hS
  · exact fun H e s' => hCX H s₁ e s'

/-! ### powers of great numbers -/
def CPowG (i j : Int) : Prop := 0 ≤ j ∧ (Builtin.Int.intBits i : Int) * j ≤ 2 ^ 27
theorem op_powG {X : Cx} : OpR X (binaryOp .Pow) (rI CPowG fun i j => .int (i ^ j.toNat)) :=
  opI fun _ _ _ _ _ _ _ hc q => pow_int hc.1 hc.2 q

/-! ### data at any depth, dicts among them -/
def kD : Key → PyData
  | .inl i => .int i
  | .inr x => .str x
mutual
inductive Da (K : PySem.W.Frag) (H : Hp) : V → PyData → Prop
  | non : Da K H .non .none
  | bl (b : Bool) : Da K H (.bl b) (.bool b)
  | int (i : Int) : Da K H (.int i) (.int i)
  | str (x : Str) : Da K H (.str x) (.str x)
  | lst {a : Addr} {xs : List V} {ds : List PyData} (h : SqL K H a xs) (t : DaAll K H xs ds) : Da K H (.ref a) (.list ds)
  | tup {a : Addr} {xs : List V} {ds : List PyData} (h : SqT K H a xs) (t : DaAll K H xs ds) : Da K H (.ref a) (.tuple ds)
  | dic {a : Addr} {kvs : List (Key × V)} {ds : List (PyData × PyData)} (h : H a = some (.dK kvs)) (t : DaKv K H kvs ds) : Da K H (.ref a) (.dict ds)
inductive DaAll (K : PySem.W.Frag) (H : Hp) : List V → List PyData → Prop
  | nil : DaAll K H [] []
  | cons {v : V} {vs : List V} {d : PyData} {ds : List PyData} (h : Da K H v d) (t : DaAll K H vs ds) : DaAll K H (v :: vs) (d :: ds)
inductive DaKv (K : PySem.W.Frag) (H : Hp) : List (Key × V) → List (PyData × PyData) → Prop
  | nil : DaKv K H [] []
  | cons {k : Key} {v : V} {kvs : List (Key × V)} {d : PyData} {ds : List (PyData × PyData)} (h : Da K H v d) (t : DaKv K H kvs ds) :
      DaKv K H ((k, v) :: kvs) ((kD k, d) :: ds)
end
section
variable {K : PySem.W.Frag} {H H' : Hp}
theorem seqT_mono (s : Same H H') {a : Addr} {xs : List V} (h : SqT K H a xs) : SqT K H' a xs := by
  rcases h with (e | ⟨o, e⟩) | e
  · exact .inl (.inl (s _ _ e))
  · exact .inl (.inr ⟨o, s _ _ e⟩)
  · exact .inr e
mutual
theorem Da.mono (s : Same H H') : ∀ {v : V} {d : PyData}, Da K H v d → Da K H' v d
  | _, _, .non => .non
  | _, _, .bl b => .bl b
  | _, _, .int i => .int i
  | _, _, .str x => .str x
  | _, _, .lst h t => .lst (s.seq h) (DaAll.mono s t)
  | _, _, .tup h t => .tup (seqT_mono s h) (DaAll.mono s t)
  | _, _, .dic h t => .dic (s _ _ h) (DaKv.mono s t)
theorem DaAll.mono (s : Same H H') : ∀ {vs : List V} {ds : List PyData}, DaAll K H vs ds → DaAll K H' vs ds
  | _, _, .nil => .nil
  | _, _, .cons h t => .cons (Da.mono s h) (DaAll.mono s t)
theorem DaKv.mono (s : Same H H') : ∀ {vs : List (Key × V)} {ds : List (PyData × PyData)}, DaKv K H vs ds → DaKv K H' vs ds
  | _, _, .nil => .nil
  | _, _, .cons h t => .cons (Da.mono s h) (DaKv.mono s t)
end
end
section
variable {X : Cx} {pins : List (Addr × Obj)} {σ : L2.St} {H : Hp} {s : Shared}
theorem key_reads {h : Heap} {k : Key} {u : Value} (e : keyIs k u = true) : Reads h u (kD k) [] := by
  rcases keyIs_shape e with ⟨i, t, rfl, rfl⟩ | ⟨x, t, rfl, rfl⟩
  · exact .int i t
  · exact .str x t
/-- a list does not stand where the modules' dict stands -/
theorem not_mods (hm : ∃ mm, X.base.Ns sysModules mm) (I : Inv X pins σ H s) {a : Addr} {o : Obj} {vs : Array Value} {n : Nat}
    (ho : s.heap.get? a = some o) (hd : o.data = .seq vs n) : sysModules ≠ a := by
  rintro rfl
  obtain ⟨mm, om, es, ep, e1, e2, _⟩ := hm
  have e3 := I.bk _ _ e1
  rw [ho] at e3
  cases e3
  rw [hd] at e2
  cases e2
mutual
theorem Da.reads (hm : ∃ mm, X.base.Ns sysModules mm) (I : Inv X pins σ H s) : ∀ (d : PyData) (v : V) (u : Value), Da X.K H v d → RelV v u → ∃ as, Reads s.heap u d as ∧ sysModules ∉ as
  | .none, _, _, h, r => by
    cases h
    cases r
    exact ⟨_, .none, by simp⟩
  | .bool b, _, _, h, r => by
    cases h
    cases r
    exact ⟨_, .bool b, by simp⟩
  | .int i, _, _, h, r => by
    cases h
    obtain ⟨t, rfl⟩ := r
    exact ⟨_, .int i t, by simp⟩
  | .str x, _, _, h, r => by
    cases h
    obtain ⟨t, rfl⟩ := r
    exact ⟨_, .str x t, by simp⟩
  | .list ds, _, _, h, r => by
    cases h with
    | lst hs ha =>
      cases r
      obtain ⟨its, rv, ⟨o, n, ho, hc, _, hd⟩, _⟩ := I.list hs
      obtain ⟨as, hr, no⟩ := Da.readsAll hm I ds _ its ha rv
      refine ⟨_, .list ho hc hd hr, ?_⟩
      rw [List.mem_cons, not_or]
      exact ⟨not_mods hm I ho hd, no⟩
  | .tuple ds, _, _, h, r => by
    cases h with
    | tup hs ha =>
      cases r
      obtain ⟨its, rv, ⟨o, ho, hc, n, hd⟩, _⟩ := I.tuple hs
      obtain ⟨as, hr, no⟩ := Da.readsAll hm I ds _ its ha rv
      exact ⟨_, .tuple ho hc hd hr, no⟩
  | .dict ds, _, _, h, r => by
    cases h with
    | @dic a kvs _ he hk =>
      cases r
      have ok : ObjOk X.prog X.w H s.heap a (.dK kvs) := I.hok a _ he
      obtain ⟨_, ns, vs, kv, o, es, ep, ho, ex, hd, _, ps, _⟩ := ok
      obtain ⟨as, bs, h1, h2, n1, n2⟩ := Da.readsKv hm I ds kvs vs es.toList hk kv ps
      refine ⟨_, .dict ho ex.1 hd h1 h2, ?_⟩
      rw [List.mem_append, List.mem_cons, not_or, not_or]
      refine ⟨⟨fun z => ?_, n1⟩, n2⟩
      rw [← z] at ns
      exact absurd ns (by decide)
theorem Da.readsAll (hm : ∃ mm, X.base.Ns sysModules mm) (I : Inv X pins σ H s) : ∀ (ds : List PyData) (vs : List V) (us : List Value), DaAll X.K H vs ds → Vals vs us → ∃ as, ReadsAll s.heap us ds as ∧ sysModules ∉ as
  | [], _, _, h, r => by
    cases h
    cases r
    exact ⟨_, .nil, by simp⟩
  | d :: ds, _, _, h, r => by
    cases h with
    | cons h1 h2 =>
      cases r with
      | cons r1 r2 =>
        obtain ⟨as, q1, n1⟩ := Da.reads hm I d _ _ h1 r1
        obtain ⟨bs, q2, n2⟩ := Da.readsAll hm I ds _ _ h2 r2
        refine ⟨_, .cons q1 q2, ?_⟩
        rw [List.mem_append, not_or]
        exact ⟨n1, n2⟩
theorem Da.readsKv (hm : ∃ mm, X.base.Ns sysModules mm) (I : Inv X pins σ H s) : ∀ (ds : List (PyData × PyData)) (kvs : List (Key × V)) (vs : List (Key × Value)) (es : List DictEntry), DaKv X.K H kvs ds → KV kvs vs →
    Pairs (mixKind X.prog X.w) es vs → ∃ as bs, ReadsAll s.heap (es.map (·.key)) (ds.map (·.1)) as ∧ ReadsAll s.heap (es.map (·.val)) (ds.map (·.2)) bs ∧ sysModules ∉ as ∧ sysModules ∉ bs
  | [], _, _, _, h, r, p => by
    cases h
    cases r
    cases p
    exact ⟨_, _, .nil, .nil, by simp, by simp⟩
  | d :: ds, _, _, _, h, r, p => by
    cases h with
    | cons h1 h2 =>
      cases r with
      | cons r1 r2 =>
        cases p with
        | cons p1 p2 p3 =>
          obtain ⟨e1, e2⟩ := r1
          obtain ⟨as, q1, n1⟩ := Da.reads hm I _ _ _ h1 e2
          obtain ⟨cs, bs, q2, q3, n2, n3⟩ := Da.readsKv hm I ds _ _ _ h2 r2 p3
          rw [← p2] at q1
          rw [← e1] at p1
          refine ⟨_, _, .cons (key_reads p1) q2, .cons q1 q3, by simpa using n2, ?_⟩
          rw [List.mem_append, not_or]
          exact ⟨n1, n3⟩
end
end
/-! ### repr of data -/
def rRepr (K : PySem.W.Frag) : List V → Hp → VK → Prop := fun xs H Q =>
  ∃ (a : Addr) (d : PyData), xs = [.ref a] ∧ Da K H (.ref a) d ∧ d.showable = true ∧ d.depth ≤ 64 ∧ d.shown.length ≤ sizeLine ∧ Q (.str d.shown) H
theorem call_repr {X : Cx} (hm : ∃ mm, X.base.Ns sysModules mm) (gd : X.A.guards = some []) (hu : X.A.units + 70 < cLine) :
    CallR X (.builtin "repr") (rRepr X.K) := by
  intro pins s σ H xs us Q I r h
  obtain ⟨a, d, rfl, hs, sh, dp, sz, q⟩ := h
  cases r with
  | cons r1 r2 =>
    cases r2
    obtain ⟨as, rd, sy⟩ := Da.reads hm I d _ _ hs r1
    obtain rfl := r1
    refine repr_of_reads' rd sh (fun _ => sy) gd (by omega) (fun _ _ e => e) (fun h' u tk k => ?_) sz
    exact ⟨.str d.shown, H, I.kept (h' := h') (t' := tk) k, ⟨u, rfl⟩, q⟩
end Ev

/-! ## Errors of the program's own that are held as values -/
namespace Ev
open PySem PySem.Spec PyProof.Rows L2

/-- what the written part says of an error class -/
structure ErrC (K : PySem.W.Frag) (C : Addr) : Prop where
  ox : OexC K C
  ga : PySem.W.findIn K (.ref C) "__getattribute__" = some (some (.builtin "BaseException.__getattribute__"))
  gt : PySem.W.findIn K (.ref C) "__getattr__" = some none
  ac : PySem.W.findIn K (.ref C) "__class__" = some (some (.builtin "object.__class__"))
  gs : PySem.W.specialIn K (.builtin "object.__class__") "__get__" = some (some (.builtin "getset_descriptor.__get__"))
  tk : PySem.W.takesIn K (.builtin "object.__class__") = some true
  mo : PySem.W.mroIn K C (.type "object") = some true
  cl : (PySem.W.clsIn K C).isSome = true
  hd : PySem.W.hasDictIn K C = true

section
variable {X : Cx} {o e : Expr} {es : List Expr} {to te : TE} {ta : TA} {f x : Str} {p p' p1 p2 pos : Pos}
/-- S.__init__(self, ..) of an own class S that has none itself -/
theorem pe_seInit {pl : Sem Bool} {S : Addr} (hg : Gl X x) (hm : X.mg x = some (.ref S))
    (sg : PySem.W.specialIn X.K (.ref S) "__getattribute__" = some (some (.builtin "type.__getattribute__")))
    (rd : PySem.W.readsIn X.K S (.type "type") = true)
    (vV : PySem.W.findCls X.K (.ref S) (.type "type") "__init__" = some (.val (.builtin "ValueError.__init__")))
    (ha : PA X (e :: es) ta) (hdb : (x == ("__debug__" : Str)) = false := by decide)
    (hc : eval (.Call (.Attribute (.Name x p1) "__init__" p2) (e :: es) [] pos) X.env = (eval (.Name x p1) X.env >>= fun ov =>
      standAt p2.atName >>= fun _ => holding [ov] (getMethod ov "__init__" pl) >>= fun fx =>
      callWith pos fx.1 fx.2 (backTo pos (starEach (e :: es) X.env)) (backToKw pos (keywordEach [] X.env))) := by rfl)
    (he : starEach (e :: es) X.env = (false, eval e X.env) :: starEach es X.env := by rfl)
    (hpl : (backTo pos (starEach es X.env)).any (·.1) = false := by rfl) :
    PE X (.Call (.Attribute (.Name x p1) "__init__" p2) (e :: es) [] pos) (tVeI X.K ta) := by
  constructor
  intro pins s σ H Q I h
  refine PySem.W.methodCall_KW (ld_glob I hg hm ?_ hdb) hc
  refine PySem.W.method_cls I.kIn sg (PySem.W.cls_value (mc := .type "type") I.kIn rd vV (by decide +kernel) ?_)
  have z := ha.run pos pins _ σ H _ (I.tok (s.toks + 1)) h
  refine PyProof.Rows.callWith_method1 (first := []) (thn z ?_) he hpl
  rintro us s1 ⟨vs, H1, I1, r1, a, C, ws, ev, hl, T, ea, q⟩
  subst ev
  cases r1 with
  | @cons _ u0 _ ur ra rt =>
    obtain rfl : u0 = Value.ref a := ra
    have hlen : ur.length ≤ sizeLine := by
      have z := Paired.length rt
      have y := sizeLine_eq
      omega
    exact oinit_ok T I1 ea hlen fun s' J => ⟨.non, H1, J, rfl, q⟩

/-- C(e, ..): a new error, held as a value -/
def tMkE (C : Addr) (sp : Sp) (ta : TA) : TE := fun σ H Q => ta σ H fun vs H1 => vs.length ≤ 1000 ∧
  ∀ a, H1 a = none → sp (.ref a :: vs) (upd H1 a (exo a C none)) (fun v H2 => v = .non ∧ Q (.ref a) H2) E0
theorem run_mkE {CX : CXT} {C fI : Addr} {k : Nat} {fd : FuncData} {ps : List Str} {sp : Sp} {pins : List (Addr × Obj)} {σ : L2.St} {H1 : Hp}
    {s1 : Shared} {Q : VK} {us : List Value} {vs : List V} (T : OexC X.K C) (iC : PySem.W.findIn X.K (.ref C) "__init__" = some (some (.ref fI)))
    (tI : PySem.W.typeIn X.K (.ref fI) = some (.type "function")) (F1 : FnOk X.prog X.w X.K X.mg X.base CX k fI fd ps sp) (hr : Room (k + 1) X.A)
    (hb : Binds X.K fd ps []) (hx : Passes CX X E0) (I1 : Inv X pins σ H1 s1) (r1 : Vals vs us) (hz : vs.length ≤ 1000)
    (q1 : ∀ a, H1 a = none → sp (.ref a :: vs) (upd H1 a (exo a C none)) (fun v H2 => v = .non ∧ Q (.ref a) H2) E0) :
    wpAny (model X.prog X.w) X.A (call (.ref C) us) (EP X pins σ Q) X.xe s1 := by
  obtain ⟨nm, qn, N, bs, bm, sn, sub, ab, col, dd, k0, k1, k2, k3, k5, hC, hbm⟩ := T.cls
  obtain ⟨hp, g, dr, tk, os⟩ := s1
  let a : Addr := hp.objs.size + 1
  have hsz : hp.objs.size ≤ a := Nat.le_succ _
  have hn : H1 a = none := I1.hok.fresh hsz
  have hq := q1 a hn
  let hp2 : Heap := (hp.push (PySem.W.kdv_tup us)).push (PySem.HandSPX.excO C hp.objs.size)
  have kk : ∀ b o, hp.get? b = some o → hp2.get? b = some o := fun b o e =>
    Heap.get?_push_of_some _ (Heap.get?_push_of_some _ e)
  have hget : hp2.get? a = some (PySem.HandSPX.excO C hp.objs.size) := by
    show ((hp.push (PySem.W.kdv_tup us)).push (PySem.HandSPX.excO C hp.objs.size)).get? (hp.objs.size + 1) = _
    heap_get
  have I2 : Inv X pins σ (upd H1 a (exo a C none)) ⟨hp2, g, dr, tk, os⟩ := I1.laid (t' := tk) kk hsz (exo_ok hget)
  have r2 : Vals (V.ref a :: vs) (Value.ref a :: us) := .cons rfl r1
  have hl : ((Value.ref a :: us) ++ []).length = ps.length := by
    rw [List.append_nil, ← F1.len _ _ _ _ hq]
    exact r2.length.symm
  have hus : us.length ≤ sizeLine := by
    have z := Paired.length r1
    have y := sizeLine_eq
    omega
  have bt := hb ⟨hp2, g, dr, tk, os⟩ (Value.ref a :: us) I2.kIn hl
  rw [List.append_nil] at bt
  have run := F1.run _ X.stack _ _ ⟨Value.ref a :: us, []⟩ (Value.ref a :: us) _ _ E0 (hr.make C us []) (I2.env0.make C us []) bt r2 hq
  refine wpAny_call (PySem.HandSPX.call_own F.excBase_ValueError (fun Y => PySem.HandSPX.refsVE_contains Y bm hbm) (I1.kIn _ _ hC)
    (PySem.W.looks_findIn I1.kIn iC) (fun self => PySem.W.bind_fn I1.kIn self tI) hus (codeAny_mono run fun r s' z => ?_))
  match r, z with
  | .error er, z => exact hx pins σ _ _ er s' I2 z
  | .ok .next, z => exact False.elim z
  | .ok .brk, z => exact False.elim z
  | .ok .cont, z => exact False.elim z
  | .ok (.ret u), z =>
    obtain ⟨v, H2, J, rv, ev, q2⟩ := (I2.after z : EP X pins σ _ u s')
    subst ev
    obtain rfl : u = Value.none := rv
    exact ⟨rfl, .ref a, H2, J, rfl, q2⟩
theorem pe_mkE {CX : CXT} {C fI : Addr} {k : Nat} {fd : FuncData} {ps : List Str} {sp : Sp} (T : OexC X.K C)
    (iC : PySem.W.findIn X.K (.ref C) "__init__" = some (some (.ref fI))) (tI : PySem.W.typeIn X.K (.ref fI) = some (.type "function"))
    (F1 : FnOk X.prog X.w X.K X.mg X.base CX k fI fd ps sp) (hr : Room (k + 1) X.A) (hb : Binds X.K fd ps []) (hx : Passes CX X E0)
    (hg : Gl X x) (hm : X.mg x = some (.ref C)) (ha : PA X (e :: es) ta) (hdb : (x == ("__debug__" : Str)) = false := by decide)
    (he : starEach (e :: es) X.env = (false, eval e X.env) :: starEach es X.env := by rfl)
    (hpl : (backTo pos (starEach es X.env)).any (·.1) = false := by rfl) :
    PE X (.Call (.Name x p) (e :: es) [] pos) (tMkE C sp ta) := by
  constructor
  intro pins s σ H Q I h
  refine wpAny_Call_Name_kw (ld_glob I hg hm ?_ hdb)
  have z := ha.run pos pins s σ H _ I h
  refine PySem.W.callWith_K (h₀ := X.base) I.ok.mod.kin T.kC (thn z ?_) he hpl
  rintro us s1 ⟨vs, H1, I1, r1, hz, q1⟩
  exact ⟨I1.kIn, run_mkE T iC tI F1 hr hb hx I1 r1 hz q1⟩
theorem pe_mkE0 {CX : CXT} {C fI : Addr} {k : Nat} {fd : FuncData} {ps : List Str} {sp : Sp} (T : OexC X.K C)
    (iC : PySem.W.findIn X.K (.ref C) "__init__" = some (some (.ref fI))) (tI : PySem.W.typeIn X.K (.ref fI) = some (.type "function"))
    (F1 : FnOk X.prog X.w X.K X.mg X.base CX k fI fd ps sp) (hr : Room (k + 1) X.A) (hb : Binds X.K fd ps []) (hx : Passes CX X E0)
    (hg : Gl X x) (hm : X.mg x = some (.ref C)) (hdb : (x == ("__debug__" : Str)) = false := by decide) :
    PE X (.Call (.Name x p) [] [] pos) (tMkE C sp tNil) := by
  constructor
  intro pins s σ H Q I h
  refine wpAny_Call_Name_kw (ld_glob I hg hm ?_ hdb)
  obtain ⟨hz, q1⟩ := h
  exact PySem.W.callWith_K0 I.kIn T.kC (run_mkE (us := []) T iC tI F1 hr hb hx I .nil hz q1)

/-- err.f -/
def tAtE (K : PySem.W.Frag) (f : Str) (te : TE) : TE := fun σ H Q => te σ H fun x H1 => ∃ (a C d : Addr) (fs : List (Str × V)) (v : V),
  x = .ref a ∧ ErrC K C ∧ PySem.W.findIn K (.ref C) f = some none ∧ H1 a = some (exo a C (some d)) ∧ H1 d = some (exd d fs) ∧ fs.lookup f = some v ∧ Q v H1
theorem pe_atE (he : PE X e te) (hb : attributeBase e f X.env (eval e X.env) = eval e X.env := by rfl) :
    PE X (.Attribute e f pos) (tAtE X.K f te) := by
  constructor
  intro pins s σ H Q I h
  refine attr_of hb (thn (he.run pins s σ H _ I h) ?_)
  rintro u s1 ⟨x, H1, I1, rx, a, C, d, fs, v, rfl, T, no, ea, ed, lf, q⟩
  obtain rfl : u = Value.ref a := rx
  obtain ⟨t1, ho⟩ := exo_at I1.hok ea
  obtain ⟨mA, hns, rel⟩ := exd_at I1.hok ed
  obtain ⟨od, hod, hl⟩ := lookIn_ns hns
  have rr := rel f
  rw [lf] at rr
  obtain ⟨w, hw, rw'⟩ := RelO.some_of (v := v) (o := mA f) rr
  have J : PySem.W.InstAt s1.heap a _ C (some od) := ⟨ho, rfl, rfl, hod⟩
  refine HandSPX.exc_get I1.kIn J T.ga T.gt T.ox.exC (PySem.W.findObj_own T.hd no rfl (by rw [hl, hw])) (handed_of rw') ?_
  exact ⟨v, H1, I1.tok _, rw', q⟩

/-- isinstance(err, c) -/
def rIsX (K : PySem.W.Frag) : List V → Hp → VK → Prop := fun xs H Q => ∃ (a C : Addr) (od : Option Addr) (c : V) (u : Value) (b : Bool),
  xs = [.ref a, c] ∧ H a = some (exo a C od) ∧ (∀ d, od = some d → ∃ fs, H d = some (exd d fs)) ∧ ErrC K C ∧ ClsV c u ∧ PySem.W.kitOne K (.ref C) u = some b ∧ Q (.bl b) H
theorem kitE {pins : List (Addr × Obj)} {σ : L2.St} {H : Hp} {s : Shared} {a C : Addr} {od : Option Addr} (I : Inv X pins σ H s)
    (ea : H a = some (exo a C od)) (ed : ∀ d, od = some d → ∃ fs, H d = some (exd d fs)) (T : ErrC X.K C) :
    ∃ P : Heap → Prop, PySem.W.KitX X.K (.ref a) (.ref C) P ∧ P s.heap := by
  obtain ⟨t1, ho⟩ := exo_at I.hok ea
  cases od with
  | none => exact ⟨_, PySem.W.kitx_exc (od := none) T.cl T.ga T.gt T.ox.exC T.ac T.gs T.tk T.mo, ⟨ho, rfl, rfl, trivial⟩⟩
  | some d =>
    obtain ⟨fs, e⟩ := ed d rfl
    obtain ⟨mA, hns, rel⟩ := exd_at I.hok e
    obtain ⟨oo, hod, hl⟩ := lookIn_ns hns
    exact ⟨_, PySem.W.kitx_exc (od := some oo) T.cl T.ga T.gt T.ox.exC T.ac T.gs T.tk T.mo, ⟨ho, rfl, rfl, hod⟩⟩
theorem call_isX : CallR X (.builtin "isinstance") (rIsX X.K) := by
  intro pins s σ H xs us Q I r h
  obtain ⟨a, C, od, c, u, b, rfl, ea, ed, T, k, e, q⟩ := h
  obtain ⟨u1, u2, rfl, r1, r2⟩ := vals2 r
  obtain rfl : u1 = Value.ref a := r1
  have e2 := k.eq r2
  subst e2
  obtain ⟨P, Z, p⟩ := kitE I ea ed T
  exact PySem.W.kia_one Z I.kIn p e (fun z => nomatch z) fun tk => ⟨.bl b, H, I.tok tk, rfl, q⟩
/-- isinstance(err, (c1, ..)) -/
def rIsXT (K : PySem.W.Frag) : List V → Hp → VK → Prop := fun xs H Q => ∃ (a C : Addr) (od : Option Addr) (tp : Addr) (cs : List V) (ws : List Value) (b : Bool),
  xs = [.ref a, .ref tp] ∧ H a = some (exo a C od) ∧ (∀ d, od = some d → ∃ fs, H d = some (exd d fs)) ∧ ErrC K C ∧ H tp = some (.tup cs) ∧ Paired ClsV cs ws ∧
    PySem.W.kitAny K (.ref C) ws = some b ∧ Q (.bl b) H
theorem call_isXT : CallR X (.builtin "isinstance") (rIsXT X.K) := by
  intro pins s σ H xs us Q I r h
  obtain ⟨a, C, od, tp, cs, ws, b, rfl, ea, ed, T, hT, k, e, q⟩ := h
  obtain ⟨u1, u2, rfl, r1, r2⟩ := vals2 r
  obtain rfl : u1 = Value.ref a := r1
  obtain rfl : u2 = Value.ref tp := r2
  obtain ⟨P, Z, p⟩ := kitE I ea ed T
  have ok : ObjOk X.prog X.w H s.heap tp (.tup cs) := I.hok tp _ hT
  obtain ⟨_, its, rv, o, h1, h2, n, h3⟩ := ok
  have e3 := ClsV.all k rv
  subst e3
  obtain ⟨oc, odd, dt, sl⟩ := o
  simp only at h2 h3
  subst h2 h3
  exact PySem.W.kia_tup Z I.kIn p h1 e (fun z => nomatch z) fun tk => ⟨.bl b, H, I.tok tk, rfl, q⟩
end
end Ev

/-! ## An error of an own class, made by keyword -/
namespace PySem
namespace EvK
open HandSPX Builtin Builtin.ObjectAttr
section
variable {M : Model} {A : Around} {E : Value → Shared → Prop} {h : Heap} {gs : Array GenState} {dr : Drawn} {tk : Nat} {os : OsState}
variable {nm qn : Str} {C N : Addr} {bs bm bmB : List Value} {hdct : Bool} {sn : List Str} {sub : List Value} {ab : Bool} {col : Option Bool}
variable {dd : Option Addr} {k0 k1 k2 k3 k5 : Option Value} {B newId initId : String} {kw : List (Str × Value)}
theorem newK_checked (F : ExcBaseFacts B newId initId bmB) (hT : ∀ Y : String, bm.contains (.type Y) = bmB.contains (.type Y)) {Q : Unit → Shared → Prop}
    (hC : h.get? C = some (excClassObj nm qn C N bs bm hdct sn sub ab col dd k0 k1 k2 k3 k5 newId)) (hq : Q () ⟨h, gs, dr, tk, os⟩) :
    wpAny M A (checkBuiltinCall newId ⟨[.ref C], kw⟩) Q E ⟨h, gs, dr, tk, os⟩ := by
  have hin : (Value.ref C :: bm).contains (.type B) = true := by
    rw [List.contains_cons, hT, F.hasB, Bool.or_true]
  have hst := F.noStar
  simp only [checkBuiltinCall, F.newKind, F.newSplit, F.newRow]
  repeat (first
    | refine wpAny_loadPart_at hC ?_
    | (refine wpAny_isSubtype_exc hC ?_; rw [hin])
    | refine wpAny_staticBase_exc hC ?_
    | refine wpAny_madeBy_exc hC ?_
    | simp only [bne_self_eq_false, Bool.false_eq_true, if_false]
    | wp_step)
  exact hq
end
section
variable {prog : Program} {w : World} {A : Around} {E : Value → Shared → Prop} {R : Result → Shared → Prop} {h : Heap} {gs : Array GenState} {dr : Drawn} {tk : Nat} {os : OsState}
variable {nm qn : Str} {C N : Addr} {bs bm bmB : List Value} {hdct : Bool} {sn : List Str} {sub : List Value} {ab : Bool} {col : Option Bool}
variable {dd : Option Addr} {k0 k1 k2 k3 k5 : Option Value} {B newId initId : String} {kw : List (Str × Value)}
theorem newK_made (F : ExcBaseFacts B newId initId bmB) (hT : ∀ Y : String, bm.contains (.type Y) = bmB.contains (.type Y))
    (hC : h.get? C = some (excClassObj nm qn C N bs bm hdct sn sub ab col dd k0 k1 k2 k3 k5 newId))
    (hq : R (.ok (.ret (.ref (h.objs.size + 1)))) ⟨(h.push (W.kdv_tup [])).push (excO C h.objs.size), gs, dr, tk, os⟩) :
    codeAny (model prog w) A (.builtin newId ⟨[.ref C], kw⟩) R ⟨h, gs, dr, tk, os⟩ := by
  have hends := F.ends
  have hcB : (Value.ref C :: bm).contains (.type B) = true := by
    rw [List.contains_cons, hT, F.hasB, Bool.or_true]
  have hcA : (Value.ref C :: bm).contains (.type "AttributeError") = false := by
    rw [List.contains_cons, hT, F.noAttr]
    rfl
  have hcN : (Value.ref C :: bm).contains (.type "NameError") = false := by
    rw [List.contains_cons, hT, F.noName]
    rfl
  refine codeAny_builtinAt F.entry ?_
  unfold Builtin.«BaseException.__new__»
  refine wpAt_bind ?_
  show wpAt _ _ _ (stack >>= _) _ _ _
  refine wpAt_bind (wpAt_stack fun p below => wpAt_of_wpAny ?_)
  wp_walk
  refine wpAt_of_wpAny ?_
  rw [F.owner]
  repeat (first
    | with_reducible refine wpAny_madeHere_exc F.canon hC ?_
    | with_reducible refine wpAny_loadPart_at hC ?_
    | (with_reducible refine wpAny_isSubtype_exc hC ?_
       first | rw [hcB] | rw [hcA] | rw [hcN])
    | wp_step)
  show R _ _
  rw [Heap.size_push]
  exact hq
end

section
variable {prog : Program} {w : World} {A : Around} {E : Value → Shared → Prop} {R : Result → Shared → Prop} {h : Heap} {gs : Array GenState} {dr : Drawn} {tk : Nat} {os : OsState}
variable {nm qn : Str} {C N : Addr} {bs bm bmB : List Value} {hdct : Bool} {sn : List Str} {sub : List Value} {ab : Bool} {col : Option Bool}
variable {dd : Option Addr} {k0 k1 k2 k3 k5 : Option Value} {B newId initId : String} {kw : List (Str × Value)}
theorem typeK_called (F : ExcBaseFacts B newId initId bmB) (hT : ∀ Y : String, bm.contains (.type Y) = bmB.contains (.type Y)) {fI : Addr} {Q : Fin → Shared → Prop}
    (hC : h.get? C = some (excClassObj nm qn C N bs bm hdct sn sub ab col dd k0 k1 k2 k3 k5 newId))
    (hi : W.Looks (model prog w) h (typeLookup (.ref C) "__init__") (some (.ref fI)))
    (hb : ∀ self, W.Looks (model prog w) h (bindSpecial (.ref fI) self) (.ref fI, [self]))
    (hq : codeAny (model prog w) A (.call (.ref fI) ⟨[.ref (h.objs.size + 1)], kw⟩)
      (fun r s' => match r with
        | .ok (.ret v) => v = .none ∧ Q (.done (.ret (.ref (h.objs.size + 1)))) s'
        | .ok _ => False
        | .error e => E e s')
      ⟨(h.push (W.kdv_tup [])).push (excO C h.objs.size), gs, dr, tk, os⟩) :
    wpAny (model prog w) A (Builtin.«type.__call__» ⟨[.ref C], kw⟩) Q E ⟨h, gs, dr, tk, os⟩ := by
  repeat (first
    | with_reducible refine wpAny_loadPart_at hC ?_
    | with_reducible refine wpAny_madeBy_exc hC ?_
    | wp_step)
  refine codeAny_call_builtin_code (Code.quiet_builtin _ F.quiet) (newK_checked F hT hC ?_)
  refine newK_made F hT hC ?_
  show wpAny _ _ _ _ _ _
  have kp : ∀ b o, h.get? b = some o →
      ((h.push (W.kdv_tup [])).push (excO C h.objs.size)).get? b = some o := fun b o e =>
    Heap.get?_push_of_some _ (Heap.get?_push_of_some _ e)
  have hC₁ := kp _ _ hC
  have hget : ((h.push (W.kdv_tup [])).push (excO C h.objs.size)).get? (h.objs.size + 1) =
      some (excO C h.objs.size) := by heap_get
  have hcC : (Value.ref C :: bm).contains (.ref C) = true := by simp
  have i1 := hi.keeps kp
  have b1 := (hb (.ref (h.objs.size + 1))).keeps kp
  unfold isInstance
  repeat (first
    | with_reducible refine wpAny_loadPart_at hget ?_
    | (with_reducible refine wpAny_isSubtype_exc hC₁ ?_
       rw [hcC])
    | wp_step)
  show wpAny _ _ (typeLookup (.ref C) _) _ _ _
  refine i1.at ?_
  refine wpAny_holding (wpAny_bind (b1.at ?_))
  refine wpAny_bind (wpAny_call (codeAny_mono hq fun r s' z => ?_))
  rcases r with e | (v | _ | _ | _) <;> first | exact z | exact z.elim | skip
  obtain ⟨rfl, z⟩ := z
  first
    | exact wpAny_pure (wpAny_pure z)
    | (wp_walk; exact z)
theorem callK_own (F : ExcBaseFacts B newId initId bmB) (hT : ∀ Y : String, bm.contains (.type Y) = bmB.contains (.type Y)) {fI : Addr}
    (hC : h.get? C = some (excClassObj nm qn C N bs bm hdct sn sub ab col dd k0 k1 k2 k3 k5 newId))
    (hi : W.Looks (model prog w) h (typeLookup (.ref C) "__init__") (some (.ref fI)))
    (hb : ∀ self, W.Looks (model prog w) h (bindSpecial (.ref fI) self) (.ref fI, [self]))
    (hq : codeAny (model prog w) (A.under (.builtin "type.__call__" ⟨[.ref C], kw⟩)) (.call (.ref fI) ⟨[.ref (h.objs.size + 1)], kw⟩)
      (W.InitBack (h.objs.size + 1) R) ⟨(h.push (W.kdv_tup [])).push (excO C h.objs.size), gs, dr, tk, os⟩) :
    codeAny (model prog w) A (.call (.ref C) ⟨[], kw⟩) R ⟨h, gs, dr, tk, os⟩ := by
  have f1 := tc_lookup
  have f2 := tc_bind (.ref C)
  have hTy : (⟨h, gs, dr, tk, os⟩ : Shared).TypeIs (.ref C) "type" := ⟨_, hC, rfl⟩
  refine codeAny_of_tree ?_
  show wpAny _ _ (callAny (.ref C) _) _ _ _
  repeat (any_goals (first
    | assumption
    | with_reducible refine wpAny_loadPart_at hC ?_
    | wp_step))
  refine ⟨rfl, ?_⟩
  show codeAny _ _ (.call (.builtin "type.__call__") ⟨[.ref C], kw⟩) _ _
  refine codeAny_call_builtin_at (Code.quiet_builtin _ (by decide +kernel)) entry_typeCall ?_
  refine wpAny_check_type_call_sub hC ?_
  refine typeK_called F hT hC hi hb ?_
  refine codeAny_mono hq fun r s' z => ?_
  rcases r with e | (v | _ | _ | _) <;> exact z
end
end EvK
end PySem
namespace Ev
open PySem PySem.Spec PyProof.Rows L2
section
variable {X : Cx} {e : Expr} {te : TE} {f x : Str} {p p' pos : Pos}
/-- C(f=e): a new error, made by keyword -/
theorem pe_mkEk {CX : CXT} {C fI : Addr} {k : Nat} {fd : FuncData} {ps : List Str} {sp : Sp} (T : OexC X.K C)
    (iC : PySem.W.findIn X.K (.ref C) "__init__" = some (some (.ref fI))) (tI : PySem.W.typeIn X.K (.ref fI) = some (.type "function"))
    (F1 : FnOk X.prog X.w X.K X.mg X.base CX k fI fd ps sp) (hr : Room (k + 1) X.A)
    (hb : ∀ (s : Shared) (u v : Value), BindsTo s fd ⟨[u], [(f, v)]⟩ (ps.zip [u, v])) (hx : Passes CX X E0)
    (h2 : ps.length = 2) (hg : Gl X x) (hm : X.mg x = some (.ref C)) (ha : PE X e te) (hdb : (x == ("__debug__" : Str)) = false := by decide)
    (hall : (backToKw pos (keywordEach [⟨some f, e, p'⟩] X.env)).all (·.1.isSome) = true := by rfl)
    (hks : (backToKw pos (keywordEach [⟨some f, e, p'⟩] X.env)).filterMap (·.1) = [f] := by rfl)
    (hpl : ((backTo pos (starEach [] X.env)).any (·.1) || (backToKw pos (keywordEach [⟨some f, e, p'⟩] X.env)).any (·.1.isNone)) = false := by rfl) :
    PE X (.Call (.Name x p) [] [⟨some f, e, p'⟩] pos) (tMkE C sp (tCons te tNil)) := by
  constructor
  intro pins s σ H Q I h
  refine wpAny_Call_Name_kw (ld_glob I hg hm ?_ hdb)
  refine PySem.W.callWith_KW0 (h₀ := X.base) I.ok.mod.kin T.kC hall ?_ hpl
  have z := (pk_cons (nm := some f) (kpos := p') ha pk_nil).run pos pins s σ H _ I h
  refine thn z ?_
  rintro us s1 ⟨vs, H1, I1, r1, hz, q1⟩
  refine ⟨I1.kIn, ?_⟩
  rw [hks]
  obtain ⟨nm, qn, N, bs, bm, sn, sub, ab, col, dd, k0, k1, k2, k3, k5, hC, hbm⟩ := T.cls
  obtain ⟨hp, g, dr, tk, os⟩ := s1
  let a : Addr := hp.objs.size + 1
  have hsz : hp.objs.size ≤ a := Nat.le_succ _
  have hq := q1 a (I1.hok.fresh hsz)
  let hp2 : Heap := (hp.push (PySem.W.kdv_tup [])).push (PySem.HandSPX.excO C hp.objs.size)
  have kk : ∀ b o, hp.get? b = some o → hp2.get? b = some o := fun b o e =>
    Heap.get?_push_of_some _ (Heap.get?_push_of_some _ e)
  have hget : hp2.get? a = some (PySem.HandSPX.excO C hp.objs.size) := by
    show ((hp.push (PySem.W.kdv_tup [])).push (PySem.HandSPX.excO C hp.objs.size)).get? (hp.objs.size + 1) = _
    heap_get
  have I2 : Inv X pins σ (upd H1 a (exo a C none)) ⟨hp2, g, dr, tk, os⟩ := I1.laid (t' := tk) kk hsz (exo_ok hget)
  have r2 : Vals (V.ref a :: vs) (Value.ref a :: us) := .cons rfl r1
  have hl := F1.len _ _ _ _ hq
  show wpAny _ _ (call (.ref C) [] ([f].zip us)) _ _ _
  have l1 : us.length = 1 := by
    have y := Paired.length r1
    rw [List.length_cons] at hl
    omega
  match us, r1, l1 with
  | [u], r1, _ =>
    have run := F1.run _ X.stack _ _ ⟨[Value.ref a], [(f, u)]⟩ [Value.ref a, u] _ _ E0 (hr.make C [] [(f, u)]) (I2.env0.make C [] [(f, u)]) (hb _ _ _) r2 hq
    refine wpAny_call (PySem.EvK.callK_own F.excBase_ValueError (fun Y => PySem.HandSPX.refsVE_contains Y bm hbm) (I1.kIn _ _ hC)
      (PySem.W.looks_findIn I1.kIn iC) (fun self => PySem.W.bind_fn I1.kIn self tI) (codeAny_mono run fun r s' z => ?_))
    match r, z with
    | .error er, z => exact hx pins σ _ _ er s' I2 z
    | .ok .next, z => exact False.elim z
    | .ok .brk, z => exact False.elim z
    | .ok .cont, z => exact False.elim z
    | .ok (.ret u), z =>
      obtain ⟨v, H2, J, rv, ev, q2⟩ := (I2.after z : EP X pins σ _ u s')
      subst ev
      obtain rfl : u = Value.none := rv
      exact ⟨rfl, .ref a, H2, J, rfl, q2⟩
end
end Ev

/-! ## What the script is drawn from -/
namespace Ev
open PySem PySem.Spec PyProof.Rows L2
def topS (i : Nat) : Stmt := PySem.Challenge.pw_evensamples_k05_errors_by_themselves.main.body.getD i (.Pass ⟨0, 0, 0, 0⟩)
abbrev sPot : Stmt := topS 16
abbrev sTake : Stmt := topS 17
abbrev sOf : Stmt := topS 18
theorem scPot : FnScope ["_law_script", "_law_k", "_law_cell", "_law_own"] ["_law_script", "_law_k"] (defScope sPot) :=
  ⟨rfl, rfl, rfl, by decide +kernel, rfl, by decide +kernel, by decide +kernel⟩
theorem scTake : FnScope ["_law_pot_here", "_law_many", "_law_digit", "_law_prime", "_law_mixed"] ["_law_pot_here", "_law_many"] (defScope sTake) :=
  ⟨rfl, rfl, rfl, by decide +kernel, rfl, by decide +kernel, by decide +kernel⟩
theorem scOf : FnScope ["_law_pot_here", "_law_some"] ["_law_pot_here", "_law_some"] (defScope sOf) :=
  ⟨rfl, rfl, rfl, by decide +kernel, rfl, by decide +kernel, by decide +kernel⟩

/-- the numbers of a pot out of which at most n draws came by reckoning -/
def PotL (n : Nat) (xs : List V) : Prop := ∃ x y c : Int, xs = [.int x, .int y, .int c] ∧ 0 ≤ x ∧ 0 ≤ y ∧ y < 2305843009213693921 ∧ 0 ≤ c ∧ c ≤ n
def spPot (K : PySem.W.Frag) : Sp := fun vs H Q _ => ∃ (a : Addr) (ns : List Int) (k : Int), vs = [.ref a, .int k] ∧ SqL K H a (ns.map V.int) ∧
  0 ≤ k ∧ k ≤ 1000 ∧ ∀ p xs, H p = none → PotL 0 xs → Q (.ref p) (upd H p (.lst xs))
/-- all but p stands as it stood -/
def Bu (p : Addr) (H H' : Hp) : Prop := ∀ b o, b ≠ p → H b = some o → H' b = some o
theorem Bu.refl {p : Addr} {H : Hp} : Bu p H H := fun _ _ _ e => e
theorem Bu.trans {p : Addr} {H H1 H2 : Hp} (h : Bu p H H1) (k : Bu p H1 H2) : Bu p H H2 := fun b o n e => k b o n (h b o n e)
theorem Bu.put {p : Addr} {H : Hp} {o : HO} : Bu p H (upd H p o) := fun b _ n e => by
  rw [upd_ne n]
  exact e
theorem Bu.new {p q : Addr} {H : Hp} {o : HO} (h : H q = none) : Bu p H (upd H q o) := fun b _ _ e => by
  rw [upd_ne (ne_of_none e h)]
  exact e
theorem Bu.of {p : Addr} {H H' : Hp} (h : Same H H') : Bu p H H' := fun b o _ e => h b o e
def spTake : Sp := fun vs H Q _ => ∃ (p : Addr) (xs : List V) (m : Int) (n : Nat), vs = [.ref p, .int m] ∧ H p = some (.lst xs) ∧ PotL n xs ∧ n ≤ 1000000 ∧
  0 < m ∧ m.natAbs.log2 < 9000 ∧ ∀ H' ys d, Bu p H H' → H' p = some (.lst ys) → PotL (n + 1) ys → 0 ≤ d → d < m → Q (.int d) H'
def spOf (K : PySem.W.Frag) : Sp := fun vs H Q _ => ∃ (p q : Addr) (xs zs : List V) (n : Nat), vs = [.ref p, .ref q] ∧ H p = some (.lst xs) ∧ PotL n xs ∧ n ≤ 1000000 ∧
  p ≠ q ∧ SqL K H q zs ∧ zs ≠ [] ∧ zs.length ≤ 1000000 ∧ ∀ H' ys v, Bu p H H' → H' p = some (.lst ys) → PotL (n + 1) ys → v ∈ zs → Q v H'
theorem bigPos : (0 : Int) < (10 ^ (50 : Int).toNat) ^ (8 : Int).toNat := by decide +kernel
theorem own_nn (z m : Int) (b : Bool) (h : 0 < m) : 0 ≤ z % m * (if b = true then 1 else 0) := by
  refine Int.mul_nonneg (Int.emod_nonneg _ (by omega)) ?_
  cases b <;> decide
theorem flag_in (b : Bool) : -(2 ^ 64) < (if b = true then 1 else 0 : Int) ∧ (if b = true then 1 else 0 : Int) < 2 ^ 64 := by
  cases b <;> decide
section
variable {P : Program} {w : World} {K : PySem.W.Frag} {mg : Str → Option Value} {base : Heap}
theorem ok_pot {f : Addr} {fd : FuncData} {k : Nat} (F : Fun K "_law_pot" "_law_pot" sPot f fd) (ml : mg "len" = none) (ma : mg "abs" = none) (mi : mg "int" = none) :
    FnOk P w K mg base CX0 (k + 1) f fd ["_law_script", "_law_k"] (spPot K) := by
  refine F.ok scPot (fun vs H Q E h => ?_) (fun cdv A outer s H vs Q E hr h => ?_)
  · obtain ⟨a, ns, k, rfl, _⟩ := h
    rfl
  · obtain ⟨a, ns, k, rfl, hS, k0, k1, q⟩ := h
    refine ⟨_, pss_cons (ps_set (i := 2) scPot.nd rfl (.inl rfl) (pe_op op_add (pe_op op_mul pe_int (pv 1)) pe_int))
      (pss_cons (ps_if (pt_cmpR op_lt (pv 1) (pe_callB call_len_seq (by rfl) ml PySem.boot_len (pa_cons (pv 0) pa_nil)) (nomark _))
        (pss_one (ps_set (i := 2) scPot.nd rfl (.inl rfl) (pe_ix ix_list (pv 0) (pv 1) (fun _ _ => rfl)))) pss_nil)
      (pss_cons (ps_set (i := 3) scPot.nd rfl (.inl rfl) (pe_op op_mul
        (pe_op op_mod (pe_callB call_abs (by rfl) ma (by decide +kernel) (pa_cons (pv 2) pa_nil)) (pe_op op_powG (pe_op op_pow pe_int pe_int) pe_int))
        (pe_callTy call_int1 (by rfl) mi (by decide +kernel) (pa_cons (pe_cmpR op_ge (pe_callB call_abs (by rfl) ma (by decide +kernel) (pa_cons (pv 2) pa_nil)) (pe_op op_pow pe_int pe_int) (nomark _)) pa_nil))))
      (pss_one (ps_ret (pe_lst (pa_cons (pv 3) (pa_cons
        (pe_op op_mod (pe_op op_add (pe_op op_add (pe_op op_mul (pe_op op_mod (pv 2) pe_int) pe_int) (pe_op op_mul (pe_op op_mul pe_int (pv 1)) (pv 1))) pe_int) pe_int)
        (pa_cons pe_int pa_nil)))))))), ?_⟩
    refine ⟨_, rfl, 29, k, rfl, rfl, .inl ⟨by decide, by decide⟩, _, _, rfl, rfl, ?_⟩
    refine ⟨_, rfl, _, rfl, a, _, rfl, .inl hS, k, _, rfl, rfl, _, rfl, ite2 (fun e => ?_) (fun e => ?_)⟩
    · have hk : k < ((ns.map V.int).length : Int) := of_decide_eq_true e
      rw [List.length_map] at hk
      have hk' : k.toNat < ns.length := by omega
      have g : atI (ns.map V.int) k = some (.int ns[k.toNat]) := by
        have z : (ns.map V.int)[k.toNat]? = some (.int ns[k.toNat]) := by
          rw [List.getElem?_map, List.getElem?_eq_getElem hk']
          rfl
        have y := atI_nat z
        rw [Int.toNat_of_nonneg k0] at y
        exact y
      refine ⟨_, rfl, _, rfl, a, _, k, _, rfl, rfl, hS, g, ?_⟩
      refine ⟨_, rfl, _, rfl, 10, 50, rfl, rfl, ⟨by decide, by decide, by decide⟩, _, 8, rfl, rfl, ⟨by decide, by decide +kernel⟩, _, _, rfl, rfl, bigPos, ?_⟩
      refine ⟨_, rfl, _, rfl, 10, 18, rfl, rfl, ⟨by decide, by decide, by decide⟩, _, _, rfl, rfl, .inr ⟨_, rfl, _, _, rfl, rfl, .inr (flag_in _), ?_⟩⟩
      refine ⟨_, rfl, _, rfl, _, _, rfl, rfl, (show (0 : Int) < 2305843009213693951 by decide), _, _, rfl, rfl, .inr ⟨by decide, by decide⟩, _, rfl, _, _, rfl, rfl, .inl ⟨by decide, by decide⟩, _, rfl, _, _, rfl, rfl, .inr ⟨by omega, by omega⟩, ?_⟩
      refine ⟨_, _, rfl, rfl, _, _, rfl, rfl, _, _, rfl, rfl, (show (0 : Int) < 2305843009213693921 by decide), (by show 3 ≤ sizeLine; decide), fun p np => q p _ np ?_⟩
      exact ⟨_, _, 0, rfl, own_nn _ _ _ bigPos, Int.emod_nonneg _ (by decide), Int.emod_lt_of_pos _ (by decide), Int.le_refl 0, by decide⟩
    · refine ⟨_, rfl, _, rfl, 10, 50, rfl, rfl, ⟨by decide, by decide, by decide⟩, _, 8, rfl, rfl, ⟨by decide, by decide +kernel⟩, _, _, rfl, rfl, bigPos, ?_⟩
      refine ⟨_, rfl, _, rfl, 10, 18, rfl, rfl, ⟨by decide, by decide, by decide⟩, _, _, rfl, rfl, .inr ⟨_, rfl, _, _, rfl, rfl, .inr (flag_in _), ?_⟩⟩
      refine ⟨_, rfl, _, rfl, _, _, rfl, rfl, (show (0 : Int) < 2305843009213693951 by decide), _, _, rfl, rfl, .inr ⟨by decide, by decide⟩, _, rfl, _, _, rfl, rfl, .inl ⟨by decide, by decide⟩, _, rfl, _, _, rfl, rfl, .inr ⟨by omega, by omega⟩, ?_⟩
      refine ⟨_, _, rfl, rfl, _, _, rfl, rfl, _, _, rfl, rfl, (show (0 : Int) < 2305843009213693921 by decide), (by show 3 ≤ sizeLine; decide), fun p np => q p _ np ?_⟩
      exact ⟨_, _, 0, rfl, own_nn _ _ _ bigPos, Int.emod_nonneg _ (by decide), Int.emod_lt_of_pos _ (by decide), Int.le_refl 0, by decide⟩
/-- a pot's third number is bounded -/
theorem ok_take {f : Addr} {fd : FuncData} {k : Nat} (F : Fun K "_law_take" "_law_take" sTake f fd) :
    FnOk P w K mg base CX0 (k + 1) f fd ["_law_pot_here", "_law_many"] spTake := by
  refine F.ok scTake (fun vs H Q E h => ?_) (fun cdv A outer s H vs Q E hr h => ?_)
  · obtain ⟨p, xs, m, n, rfl, _⟩ := h
    rfl
  · obtain ⟨p, xs, m, n, rfl, hp, ⟨x, y, c, rfl, x0, y0, y1, c0, c1⟩, hn, m0, m1, q⟩ := h
    have hL : SqL K H p [.int x, .int y, .int c] := .inl (.inl hp)
    refine ⟨_, pss_cons (ps_if (pt_cmpR op_gt (pe_ix ix_list (pv 0) pe_int (fun _ _ => rfl)) pe_int (nomark _))
        (pss_cons (ps_set (i := 2) scTake.nd rfl (.inl rfl) (pe_op op_mod (pe_ix ix_list (pv 0) pe_int (fun _ _ => rfl)) (pv 1)))
        (pss_cons (ps_asg (pe_op op_fdivW (pe_ix ix_list (pv 0) pe_int (fun _ _ => rfl)) (pv 1)) (pg_sub (pv 0) pe_int set_list))
        (pss_one (ps_ret (pv 2))))) pss_nil)
      (pss_cons (ps_asg (pe_op op_add (pe_ix ix_list (pv 0) pe_int (fun _ _ => rfl)) pe_int) (pg_sub (pv 0) pe_int set_list))
      (pss_cons (ps_set (i := 3) scTake.nd rfl (.inl rfl) (pe_ix ix_list (pe_lst (pa_cons pe_int (pa_cons pe_int (pa_cons pe_int (pa_cons pe_int (pa_cons pe_int pa_nil))))))
        (pe_op op_mod (pe_ix ix_list (pv 0) pe_int (fun _ _ => rfl)) pe_int) (fun _ _ => rfl)))
      (pss_cons (ps_set (i := 4) scTake.nd rfl (.inl rfl) (pe_op op_mod (pe_op op_pow (pe_op op_add (pe_op op_add (pe_ix ix_list (pv 0) pe_int (fun _ _ => rfl))
          (pe_op op_mul (pe_op op_mul pe_int (pe_ix ix_list (pv 0) pe_int (fun _ _ => rfl))) (pe_ix ix_list (pv 0) pe_int (fun _ _ => rfl)))) pe_int) pe_int) (pv 3)))
      (pss_one (ps_ret (pe_op op_mod (pe_op op_fdivW (pe_op op_mod (pe_op op_mulW (pv 4) (pe_op op_add (pe_op op_mod (pv 4) pe_int) (pe_op op_mul pe_int (pe_ix ix_list (pv 0) pe_int (fun _ _ => rfl))))) pe_int) pe_int) (pv 1))))))), ?_⟩
    refine ⟨_, rfl, p, _, 0, .int x, rfl, rfl, hL, rfl, _, _, rfl, rfl, _, rfl, ite2 (fun e => ?_) (fun e => ?_)⟩
    · have hx : 0 < x := of_decide_eq_true e
      refine ⟨_, rfl, p, _, 0, .int x, rfl, rfl, hL, rfl, _, rfl, _, _, rfl, rfl, m0, ?_⟩
      refine ⟨_, rfl, p, _, 0, .int x, rfl, rfl, hL, rfl, _, rfl, _, _, rfl, rfl, ⟨m0, m1⟩, _, rfl, p, _, 0, 0, rfl, rfl, hp, rfl, _, rfl, ?_⟩
      exact q _ _ _ Bu.put upd_same ⟨_, _, _, rfl, Int.ediv_nonneg x0 (Int.le_of_lt m0), y0, y1, c0, by omega⟩ (Int.emod_nonneg _ (by omega)) (Int.emod_lt_of_pos _ m0)
    · refine ⟨_, rfl, p, _, 2, .int c, rfl, rfl, hL, rfl, _, _, rfl, rfl, _, rfl, p, _, 2, 2, rfl, rfl, hp, rfl, ?_⟩
      have c0' : 0 ≤ c + 1 := by omega
      have c1' : c + 1 ≤ 1000001 := by omega
      refine ⟨(by show 5 ≤ sizeLine; decide), fun t nt => ?_⟩
      have npt : p ≠ t := fun z => by
        rw [← z, upd_same] at nt
        cases nt
      let H2 : Hp := upd (upd H p (.lst [.int x, .int y, .int (c + 1)])) t (.lst [.int 2147483647, .int 2147483629, .int 2147483587, .int 2147483579, .int 2147483563])
      have h2 : H2 p = some (.lst [.int x, .int y, .int (c + 1)]) := by
        show upd _ t _ p = _
        rw [upd_ne npt, upd_same]
      have hL2 : SqL K H2 p [.int x, .int y, .int (c + 1)] := .inl (.inl h2)
      have hb : Bu p H H2 := Bu.trans Bu.put (Bu.new nt)
      have hT : SqL K H2 t [.int 2147483647, .int 2147483629, .int 2147483587, .int 2147483579, .int 2147483563] := .inl (.inl upd_same)
      obtain ⟨pr, hpr, p1, p2⟩ : ∃ pr : Int, atI [V.int 2147483647, .int 2147483629, .int 2147483587, .int 2147483579, .int 2147483563] ((c + 1) % 5) = some (.int pr) ∧ 0 < pr ∧ pr < 2147483648 := by
        have r0 : 0 ≤ (c + 1) % 5 := Int.emod_nonneg _ (by decide)
        have r1 : (c + 1) % 5 < 5 := Int.emod_lt_of_pos _ (by decide)
        generalize (c + 1) % 5 = r at r0 r1
        have : r = 0 ∨ r = 1 ∨ r = 2 ∨ r = 3 ∨ r = 4 := by omega
        rcases this with rfl | rfl | rfl | rfl | rfl
        · exact ⟨_, rfl, by decide, by decide⟩
        · exact ⟨_, rfl, by decide, by decide⟩
        · exact ⟨_, rfl, by decide, by decide⟩
        · exact ⟨_, rfl, by decide, by decide⟩
        · exact ⟨_, rfl, by decide, by decide⟩
      refine ⟨_, rfl, p, _, 2, .int (c + 1), rfl, rfl, hL2, rfl, _, _, rfl, rfl, (show (0 : Int) < 5 by decide), t, _, _, _, rfl, rfl, hT, hpr, ?_⟩
      -- mixed
      have m3 : 0 ≤ 98299 * (c + 1) := by omega
      have m4 : 98299 * (c + 1) * (c + 1) ≤ 98299 * 1000001 * 1000001 :=
        Int.mul_le_mul (Int.mul_le_mul_of_nonneg_left c1' (by decide)) c1' c0' (by decide)
      have m5 : 0 ≤ 98299 * (c + 1) * (c + 1) := Int.mul_nonneg m3 c0'
      refine ⟨_, rfl, p, _, 1, .int y, rfl, rfl, hL2, rfl, _, rfl, p, _, 2, .int (c + 1), rfl, rfl, hL2, rfl, _, _, rfl, rfl, .inl ⟨by decide, by decide⟩, _, rfl, p, _, 2, .int (c + 1), rfl, rfl, hL2, rfl, _, _, rfl, rfl, .inr ⟨by omega, by omega⟩, ?_⟩
      have pb : CPow (y + 98299 * (c + 1) * (c + 1) + 29) 3 := ⟨by decide, by decide, by omega⟩
      refine ⟨_, _, rfl, rfl, _, _, rfl, rfl, _, _, rfl, rfl, pb, _, rfl, _, _, rfl, rfl, p1, ?_⟩
      have u0 : 0 ≤ (y + 98299 * (c + 1) * (c + 1) + 29) ^ (3 : Int).toNat % pr := Int.emod_nonneg _ (by omega)
      have u1 : (y + 98299 * (c + 1) * (c + 1) + 29) ^ (3 : Int).toNat % pr < pr := Int.emod_lt_of_pos _ p1
      have fin := fun d => q H2 _ d hb h2 ⟨x, y, c + 1, rfl, x0, y0, y1, c0', by omega⟩
      show gName 4 (V.int ((y + 98299 * (c + 1) * (c + 1) + 29) ^ (3 : Int).toNat % pr)) _ _ _
      generalize (y + 98299 * (c + 1) * (c + 1) + 29) ^ (3 : Int).toNat % pr = u at u0 u1 ⊢
      have v0 : 0 ≤ u % 10007 := Int.emod_nonneg _ (by decide)
      have v1 : u % 10007 < 10007 := Int.emod_lt_of_pos _ (by decide)
      refine ⟨_, rfl, _, rfl, _, _, rfl, rfl, (show (0 : Int) < 10007 by decide), _, rfl, p, _, 2, .int (c + 1), rfl, rfl, hL2, rfl, _, _, rfl, rfl, .inl ⟨by decide, by decide⟩, _, _, rfl, rfl, ?_⟩
      refine ⟨_, _, rfl, rfl, wide_mul (a := 40) (b := 40) (by omega) (by omega) (by decide) (by decide) (by decide), _, _, rfl, rfl, (show (0 : Int) < 2305843009213693907 by decide), _, _, rfl, rfl, ⟨by decide, by decide +kernel⟩, _, rfl, _, _, rfl, rfl, m0, ?_⟩
      exact fin _ (Int.emod_nonneg _ (by omega)) (Int.emod_lt_of_pos _ m0)
theorem ok_of {f fT : Addr} {fd fdT : FuncData} (F : Fun K "_law_of" "_law_of" sOf f fd) (FT : Fun K "_law_take" "_law_take" sTake fT fdT) (bT : Binds K fdT ["_law_pot_here", "_law_many"] [])
    (gT : mg "_law_take" = some (.ref fT)) (ml : mg "len" = none) :
    FnOk P w K mg base CX0 2 f fd ["_law_pot_here", "_law_some"] (spOf K) := by
  have GT : FnOk P w K mg base CX0 1 fT fdT ["_law_pot_here", "_law_many"] spTake := ok_take FT
  refine F.ok scOf (fun vs H Q E h => ?_) (fun cdv A outer s H vs Q E hr h => ?_)
  · obtain ⟨p, r, xs, zs, n, rfl, _⟩ := h
    rfl
  · obtain ⟨p, r, xs, zs, n, rfl, hp, hx, hn, ne, hS, z0, z1, q⟩ := h
    refine ⟨_, pss_one (ps_ret (pe_ix ix_list (pv 1) (pe_call GT hr (by rfl) gT FT.kp bT .nil pass0 (pa_cons (pv 0) (pa_cons (pe_callB call_len_seq (by rfl) ml PySem.boot_len (pa_cons (pv 1) pa_nil)) pa_nil))) (fun _ _ => rfl))), ?_⟩
    have hz : 0 < zs.length := by
      cases zs with
      | nil => exact absurd rfl z0
      | cons _ _ => exact Nat.succ_pos _
    have hlog : ((zs.length : Nat) : Int).natAbs.log2 < 9000 := by
      rw [Int.natAbs_natCast]
      exact Nat.lt_of_lt_of_le (PySem.Flt.log2_lt_of (show 0 < 20 by decide) (show zs.length < 2 ^ 20 by omega)) (by decide)
    refine ⟨_, rfl, _, rfl, _, rfl, r, zs, rfl, .inl hS, p, xs, _, n, rfl, hp, hx, hn, by omega, hlog, fun H' ys d hb hy hY d0 d1 => ?_⟩
    have hd : d.toNat < zs.length := by omega
    have hS' : SqL K H' r zs := by
      rcases hS with (e | ⟨o, e⟩) | e
      · exact .inl (.inl (hb _ _ (Ne.symm ne) e))
      · exact .inl (.inr ⟨o, hb _ _ (Ne.symm ne) e⟩)
      · exact .inr e
    have g : atI zs d = some zs[d.toNat] := by
      have y := atI_nat (List.getElem?_eq_getElem hd)
      rw [Int.toNat_of_nonneg d0] at y
      exact y
    exact ⟨r, zs, d, _, rfl, rfl, hS', g, q H' ys _ hb hy hY (List.getElem_mem hd)⟩
end
end Ev

/-! ## The thirteen errors -/
namespace Ev
open PySem PySem.Spec PyProof.Rows L2
theorem PE.imp {X : Cx} {e : Expr} {t t' : TE} (h : PE X e t) (i : ∀ σ H Q, t' σ H Q → t σ H Q) : PE X e t' :=
  ⟨fun pins s σ H Q I z => h.run pins s σ H Q I (i σ H Q z)⟩
theorem Same.rfl' {H : Hp} : Same H H := fun _ _ e => e
theorem same_put {H : Hp} {p : Addr} {o : HO} (h : H p = none) : Same H (upd H p o) := fun b x e => by
  rw [upd_ne (ne_of_none e h)]
  exact e
/-- what the class over all errors is -/
structure BaseT (K : PySem.W.Frag) (mg : Str → Option Value) (S : Addr) : Prop where
  g : mg "SampleError" = some (.ref S)
  sg : PySem.W.specialIn K (.ref S) "__getattribute__" = some (some (.builtin "type.__getattribute__"))
  rd : PySem.W.readsIn K S (.type "type") = true
  vV : PySem.W.findCls K (.ref S) (.type "type") "__init__" = some (.val (.builtin "ValueError.__init__"))
def spInit1 (C : Addr) (f : Str) : Sp := fun vs H Q _ => ∃ (a : Addr) (v : V), vs = [.ref a, v] ∧ H a = some (exo a C none) ∧
  ∀ dx, H dx = none → dx ≠ a → Q .non (upd (upd H dx (exd dx [(f, v)])) a (exo a C (some dx)))
def spInit0 (C : Addr) : Sp := fun vs H Q _ => ∃ a : Addr, vs = [.ref a] ∧ H a = some (exo a C none) ∧ Q .non H
section
variable {P : Program} {w : World} {K : PySem.W.Frag} {mg : Str → Option Value} {base : Heap} {S C f : Addr} {fd : FuncData}
theorem scBadProgram : FnScope ["self", "value"] ["self", "value"] (defScope (inClass (topS 2) 0)) :=
  ⟨rfl, rfl, rfl, by decide +kernel, rfl, by decide +kernel, by decide +kernel⟩
theorem initBadProgram (F : Fun K "__init__" "BadProgram.__init__" (inClass (topS 2) 0) f fd) (B : BaseT K mg S) (T : ErrC K C)
    (no : PySem.W.findIn K (.ref C) "value" = some none) : FnOk P w K mg base CX0 1 f fd ["self", "value"] (spInit1 C "value") := by
  refine F.ok scBadProgram (fun vs H Q E h => ?_) (fun cdv A outer s H vs Q E hr h => ?_)
  · obtain ⟨a, v, rfl, _⟩ := h
    rfl
  · obtain ⟨a, v, rfl, ha, q⟩ := h
    refine ⟨_, pss_cons (ps_expr (pe_seInit (by rfl) B.g B.sg B.rd B.vV (pa_cons (pv 0) (pa_cons pe_str pa_nil)))) (pss_one (ps_ost (pv 0) (pv 1))), ?_⟩
    exact ⟨_, rfl, a, C, [_], rfl, (by show 1 ≤ 1000; decide), T.ox, ha, _, rfl, _, rfl, a, C, rfl, T.ox, no, .inl ⟨ha, q⟩⟩
theorem scNoTick : FnScope ["self", "value"] ["self", "value"] (defScope (inClass (topS 3) 0)) :=
  ⟨rfl, rfl, rfl, by decide +kernel, rfl, by decide +kernel, by decide +kernel⟩
theorem initNoTick (F : Fun K "__init__" "NoTick.__init__" (inClass (topS 3) 0) f fd) (B : BaseT K mg S) (T : ErrC K C)
    (no : PySem.W.findIn K (.ref C) "value" = some none) : FnOk P w K mg base CX0 1 f fd ["self", "value"] (spInit1 C "value") := by
  refine F.ok scNoTick (fun vs H Q E h => ?_) (fun cdv A outer s H vs Q E hr h => ?_)
  · obtain ⟨a, v, rfl, _⟩ := h
    rfl
  · obtain ⟨a, v, rfl, ha, q⟩ := h
    refine ⟨_, pss_cons (ps_expr (pe_seInit (by rfl) B.g B.sg B.rd B.vV (pa_cons (pv 0) (pa_cons pe_str pa_nil)))) (pss_one (ps_ost (pv 0) (pv 1))), ?_⟩
    exact ⟨_, rfl, a, C, [_], rfl, (by show 1 ≤ 1000; decide), T.ox, ha, _, rfl, _, rfl, a, C, rfl, T.ox, no, .inl ⟨ha, q⟩⟩
theorem scNoLine : FnScope ["self", "value"] ["self", "value"] (defScope (inClass (topS 4) 0)) :=
  ⟨rfl, rfl, rfl, by decide +kernel, rfl, by decide +kernel, by decide +kernel⟩
theorem initNoLine (F : Fun K "__init__" "NoLine.__init__" (inClass (topS 4) 0) f fd) (B : BaseT K mg S) (T : ErrC K C)
    (no : PySem.W.findIn K (.ref C) "value" = some none) : FnOk P w K mg base CX0 1 f fd ["self", "value"] (spInit1 C "value") := by
  refine F.ok scNoLine (fun vs H Q E h => ?_) (fun cdv A outer s H vs Q E hr h => ?_)
  · obtain ⟨a, v, rfl, _⟩ := h
    rfl
  · obtain ⟨a, v, rfl, ha, q⟩ := h
    refine ⟨_, pss_cons (ps_expr (pe_seInit (by rfl) B.g B.sg B.rd B.vV (pa_cons (pv 0) (pa_cons pe_str pa_nil)))) (pss_one (ps_ost (pv 0) (pv 1))), ?_⟩
    exact ⟨_, rfl, a, C, [_], rfl, (by show 1 ≤ 1000; decide), T.ox, ha, _, rfl, _, rfl, a, C, rfl, T.ox, no, .inl ⟨ha, q⟩⟩
theorem scTooLong : FnScope ["self", "size"] ["self", "size"] (defScope (inClass (topS 5) 0)) :=
  ⟨rfl, rfl, rfl, by decide +kernel, rfl, by decide +kernel, by decide +kernel⟩
theorem initTooLong (F : Fun K "__init__" "TooLong.__init__" (inClass (topS 5) 0) f fd) (B : BaseT K mg S) (T : ErrC K C)
    (no : PySem.W.findIn K (.ref C) "size" = some none) : FnOk P w K mg base CX0 1 f fd ["self", "size"] (spInit1 C "size") := by
  refine F.ok scTooLong (fun vs H Q E h => ?_) (fun cdv A outer s H vs Q E hr h => ?_)
  · obtain ⟨a, v, rfl, _⟩ := h
    rfl
  · obtain ⟨a, v, rfl, ha, q⟩ := h
    refine ⟨_, pss_cons (ps_expr (pe_seInit (by rfl) B.g B.sg B.rd B.vV (pa_cons (pv 0) (pa_cons pe_str pa_nil)))) (pss_one (ps_ost (pv 0) (pv 1))), ?_⟩
    exact ⟨_, rfl, a, C, [_], rfl, (by show 1 ≤ 1000; decide), T.ox, ha, _, rfl, _, rfl, a, C, rfl, T.ox, no, .inl ⟨ha, q⟩⟩
theorem scTooLarge : FnScope ["self", "divisor"] ["self", "divisor"] (defScope (inClass (topS 7) 0)) :=
  ⟨rfl, rfl, rfl, by decide +kernel, rfl, by decide +kernel, by decide +kernel⟩
theorem initTooLarge (F : Fun K "__init__" "TooLarge.__init__" (inClass (topS 7) 0) f fd) (B : BaseT K mg S) (T : ErrC K C)
    (no : PySem.W.findIn K (.ref C) "divisor" = some none) : FnOk P w K mg base CX0 1 f fd ["self", "divisor"] (spInit1 C "divisor") := by
  refine F.ok scTooLarge (fun vs H Q E h => ?_) (fun cdv A outer s H vs Q E hr h => ?_)
  · obtain ⟨a, v, rfl, _⟩ := h
    rfl
  · obtain ⟨a, v, rfl, ha, q⟩ := h
    refine ⟨_, pss_cons (ps_expr (pe_seInit (by rfl) B.g B.sg B.rd B.vV (pa_cons (pv 0) (pa_cons pe_str pa_nil)))) (pss_one (ps_ost (pv 0) (pv 1))), ?_⟩
    exact ⟨_, rfl, a, C, [_], rfl, (by show 1 ≤ 1000; decide), T.ox, ha, _, rfl, _, rfl, a, C, rfl, T.ox, no, .inl ⟨ha, q⟩⟩
theorem scOtherLength : FnScope ["self", "size"] ["self", "size"] (defScope (inClass (topS 8) 0)) :=
  ⟨rfl, rfl, rfl, by decide +kernel, rfl, by decide +kernel, by decide +kernel⟩
theorem initOtherLength (F : Fun K "__init__" "OtherLength.__init__" (inClass (topS 8) 0) f fd) (B : BaseT K mg S) (T : ErrC K C)
    (no : PySem.W.findIn K (.ref C) "size" = some none) : FnOk P w K mg base CX0 1 f fd ["self", "size"] (spInit1 C "size") := by
  refine F.ok scOtherLength (fun vs H Q E h => ?_) (fun cdv A outer s H vs Q E hr h => ?_)
  · obtain ⟨a, v, rfl, _⟩ := h
    rfl
  · obtain ⟨a, v, rfl, ha, q⟩ := h
    refine ⟨_, pss_cons (ps_expr (pe_seInit (by rfl) B.g B.sg B.rd B.vV (pa_cons (pv 0) (pa_cons pe_str pa_nil)))) (pss_one (ps_ost (pv 0) (pv 1))), ?_⟩
    exact ⟨_, rfl, a, C, [_], rfl, (by show 1 ≤ 1000; decide), T.ox, ha, _, rfl, _, rfl, a, C, rfl, T.ox, no, .inl ⟨ha, q⟩⟩
theorem scBadIndex : FnScope ["self", "value"] ["self", "value"] (defScope (inClass (topS 9) 0)) :=
  ⟨rfl, rfl, rfl, by decide +kernel, rfl, by decide +kernel, by decide +kernel⟩
theorem initBadIndex (F : Fun K "__init__" "BadIndex.__init__" (inClass (topS 9) 0) f fd) (B : BaseT K mg S) (T : ErrC K C)
    (no : PySem.W.findIn K (.ref C) "value" = some none) : FnOk P w K mg base CX0 1 f fd ["self", "value"] (spInit1 C "value") := by
  refine F.ok scBadIndex (fun vs H Q E h => ?_) (fun cdv A outer s H vs Q E hr h => ?_)
  · obtain ⟨a, v, rfl, _⟩ := h
    rfl
  · obtain ⟨a, v, rfl, ha, q⟩ := h
    refine ⟨_, pss_cons (ps_expr (pe_seInit (by rfl) B.g B.sg B.rd B.vV (pa_cons (pv 0) (pa_cons pe_str pa_nil)))) (pss_one (ps_ost (pv 0) (pv 1))), ?_⟩
    exact ⟨_, rfl, a, C, [_], rfl, (by show 1 ≤ 1000; decide), T.ox, ha, _, rfl, _, rfl, a, C, rfl, T.ox, no, .inl ⟨ha, q⟩⟩
theorem scBadItem : FnScope ["self", "value"] ["self", "value"] (defScope (inClass (topS 10) 0)) :=
  ⟨rfl, rfl, rfl, by decide +kernel, rfl, by decide +kernel, by decide +kernel⟩
theorem initBadItem (F : Fun K "__init__" "BadItem.__init__" (inClass (topS 10) 0) f fd) (B : BaseT K mg S) (T : ErrC K C)
    (no : PySem.W.findIn K (.ref C) "value" = some none) : FnOk P w K mg base CX0 1 f fd ["self", "value"] (spInit1 C "value") := by
  refine F.ok scBadItem (fun vs H Q E h => ?_) (fun cdv A outer s H vs Q E hr h => ?_)
  · obtain ⟨a, v, rfl, _⟩ := h
    rfl
  · obtain ⟨a, v, rfl, ha, q⟩ := h
    refine ⟨_, pss_cons (ps_expr (pe_seInit (by rfl) B.g B.sg B.rd B.vV (pa_cons (pv 0) (pa_cons pe_str pa_nil)))) (pss_one (ps_ost (pv 0) (pv 1))), ?_⟩
    exact ⟨_, rfl, a, C, [_], rfl, (by show 1 ≤ 1000; decide), T.ox, ha, _, rfl, _, rfl, a, C, rfl, T.ox, no, .inl ⟨ha, q⟩⟩
theorem scBadText : FnScope ["self", "position"] ["self", "position"] (defScope (inClass (topS 13) 0)) :=
  ⟨rfl, rfl, rfl, by decide +kernel, rfl, by decide +kernel, by decide +kernel⟩
theorem initBadText (F : Fun K "__init__" "BadText.__init__" (inClass (topS 13) 0) f fd) (B : BaseT K mg S) (T : ErrC K C)
    (no : PySem.W.findIn K (.ref C) "position" = some none) : FnOk P w K mg base CX0 1 f fd ["self", "position"] (spInit1 C "position") := by
  refine F.ok scBadText (fun vs H Q E h => ?_) (fun cdv A outer s H vs Q E hr h => ?_)
  · obtain ⟨a, v, rfl, _⟩ := h
    rfl
  · obtain ⟨a, v, rfl, ha, q⟩ := h
    refine ⟨_, pss_cons (ps_expr (pe_seInit (by rfl) B.g B.sg B.rd B.vV (pa_cons (pv 0) (pa_cons pe_str pa_nil)))) (pss_one (ps_ost (pv 0) (pv 1))), ?_⟩
    exact ⟨_, rfl, a, C, [_], rfl, (by show 1 ≤ 1000; decide), T.ox, ha, _, rfl, _, rfl, a, C, rfl, T.ox, no, .inl ⟨ha, q⟩⟩
theorem scBadCommand : FnScope ["self", "line"] ["self", "line"] (defScope (inClass (topS 14) 0)) :=
  ⟨rfl, rfl, rfl, by decide +kernel, rfl, by decide +kernel, by decide +kernel⟩
theorem initBadCommand (F : Fun K "__init__" "BadCommand.__init__" (inClass (topS 14) 0) f fd) (B : BaseT K mg S) (T : ErrC K C)
    (no : PySem.W.findIn K (.ref C) "line" = some none) : FnOk P w K mg base CX0 1 f fd ["self", "line"] (spInit1 C "line") := by
  refine F.ok scBadCommand (fun vs H Q E h => ?_) (fun cdv A outer s H vs Q E hr h => ?_)
  · obtain ⟨a, v, rfl, _⟩ := h
    rfl
  · obtain ⟨a, v, rfl, ha, q⟩ := h
    refine ⟨_, pss_cons (ps_expr (pe_seInit (by rfl) B.g B.sg B.rd B.vV (pa_cons (pv 0) (pa_cons pe_str pa_nil)))) (pss_one (ps_ost (pv 0) (pv 1))), ?_⟩
    exact ⟨_, rfl, a, C, [_], rfl, (by show 1 ≤ 1000; decide), T.ox, ha, _, rfl, _, rfl, a, C, rfl, T.ox, no, .inl ⟨ha, q⟩⟩
theorem scNotFlat : FnScope ["self"] ["self"] (defScope (inClass (topS 6) 0)) :=
  ⟨rfl, rfl, rfl, by decide +kernel, rfl, by decide +kernel, by decide +kernel⟩
theorem initNotFlat (F : Fun K "__init__" "NotFlat.__init__" (inClass (topS 6) 0) f fd) (B : BaseT K mg S) (T : ErrC K C) :
    FnOk P w K mg base CX0 1 f fd ["self"] (spInit0 C) := by
  refine F.ok scNotFlat (fun vs H Q E h => ?_) (fun cdv A outer s H vs Q E hr h => ?_)
  · obtain ⟨a, rfl, _⟩ := h
    rfl
  · obtain ⟨a, rfl, ha, q⟩ := h
    refine ⟨_, pss_one (ps_expr (pe_seInit (by rfl) B.g B.sg B.rd B.vV (pa_cons (pv 0) pa_nil))), ?_⟩
    exact ⟨_, rfl, a, C, [], rfl, (by show 0 ≤ 1000; decide), T.ox, ha, q⟩
theorem scLastItem : FnScope ["self"] ["self"] (defScope (inClass (topS 11) 0)) :=
  ⟨rfl, rfl, rfl, by decide +kernel, rfl, by decide +kernel, by decide +kernel⟩
theorem initLastItem (F : Fun K "__init__" "LastItem.__init__" (inClass (topS 11) 0) f fd) (B : BaseT K mg S) (T : ErrC K C) :
    FnOk P w K mg base CX0 1 f fd ["self"] (spInit0 C) := by
  refine F.ok scLastItem (fun vs H Q E h => ?_) (fun cdv A outer s H vs Q E hr h => ?_)
  · obtain ⟨a, rfl, _⟩ := h
    rfl
  · obtain ⟨a, rfl, ha, q⟩ := h
    refine ⟨_, pss_one (ps_expr (pe_seInit (by rfl) B.g B.sg B.rd B.vV (pa_cons (pv 0) pa_nil))), ?_⟩
    exact ⟨_, rfl, a, C, [], rfl, (by show 0 ≤ 1000; decide), T.ox, ha, q⟩
theorem scNothingToUndo : FnScope ["self"] ["self"] (defScope (inClass (topS 12) 0)) :=
  ⟨rfl, rfl, rfl, by decide +kernel, rfl, by decide +kernel, by decide +kernel⟩
theorem initNothingToUndo (F : Fun K "__init__" "NothingToUndo.__init__" (inClass (topS 12) 0) f fd) (B : BaseT K mg S) (T : ErrC K C) :
    FnOk P w K mg base CX0 1 f fd ["self"] (spInit0 C) := by
  refine F.ok scNothingToUndo (fun vs H Q E h => ?_) (fun cdv A outer s H vs Q E hr h => ?_)
  · obtain ⟨a, rfl, _⟩ := h
    rfl
  · obtain ⟨a, rfl, ha, q⟩ := h
    refine ⟨_, pss_one (ps_expr (pe_seInit (by rfl) B.g B.sg B.rd B.vV (pa_cons (pv 0) pa_nil))), ?_⟩
    exact ⟨_, rfl, a, C, [], rfl, (by show 0 ≤ 1000; decide), T.ox, ha, q⟩
end
/-- an error class with one argument, as it stands behind the top -/
structure E1 (P : Program) (w : World) (K : PySem.W.Frag) (mg : Str → Option Value) (base : Heap) (x f : Str) (C fI : Addr) (fd : FuncData) : Prop where
  g : mg x = some (.ref C)
  T : ErrC K C
  iC : PySem.W.findIn K (.ref C) "__init__" = some (some (.ref fI))
  tI : PySem.W.typeIn K (.ref fI) = some (.type "function")
  no : PySem.W.findIn K (.ref C) f = some none
  b : Binds K fd ["self", f] []
  bk : ∀ (s : Shared) (u v : Value), BindsTo s fd ⟨[u], [(f, v)]⟩ ((["self", f] : List Str).zip [u, v])
  ok : FnOk P w K mg base CX0 1 fI fd ["self", f] (spInit1 C f)
structure E0C (P : Program) (w : World) (K : PySem.W.Frag) (mg : Str → Option Value) (base : Heap) (x : Str) (C fI : Addr) (fd : FuncData) : Prop where
  g : mg x = some (.ref C)
  T : ErrC K C
  iC : PySem.W.findIn K (.ref C) "__init__" = some (some (.ref fI))
  tI : PySem.W.typeIn K (.ref fI) = some (.type "function")
  b : Binds K fd ["self"] []
  ok : FnOk P w K mg base CX0 1 fI fd ["self"] (spInit0 C)
/-- an error at e -/
def ErrAt (H : Hp) (C e : Addr) : Prop := ∃ od : Option Addr, H e = some (exo e C od) ∧ ∀ d, od = some d → ∃ fs, H d = some (exd d fs)
theorem ErrAt.mono {H H' : Hp} {C e : Addr} (s : Same H H') (h : ErrAt H C e) : ErrAt H' C e := by
  obtain ⟨od, h1, h2⟩ := h
  refine ⟨od, s _ _ h1, fun d ed => ?_⟩
  obtain ⟨fs, h3⟩ := h2 d ed
  exact ⟨fs, s _ _ h3⟩
/-- u: a pair of an error of the class at C, and v -/
def MadeAt (H : Hp) (v : V) (C : Addr) (u : V) : Prop := ∃ t e : Addr, u = .ref t ∧ H t = some (.tup [.ref e, v]) ∧ ErrAt H C e
theorem MadeAt.mono {H H' : Hp} {v u : V} {C : Addr} (s : Same H H') (h : MadeAt H v C u) : MadeAt H' v C u := by
  obtain ⟨t, e, h1, h2, h3⟩ := h
  exact ⟨t, e, h1, s _ _ h2, h3.mono s⟩
theorem Mades.mono {H H' : Hp} {v : V} (s : Same H H') : ∀ {Cs : List Addr} {us : List V}, Paired (MadeAt H v) Cs us → Paired (MadeAt H' v) Cs us
  | _, _, .nil => .nil
  | _, _, .cons h t => .cons (h.mono s) (Mades.mono s t)
theorem mk1_of {H1 : Hp} {C : Addr} {f : Str} {v : V} {Q : VK}
    (q : ∀ a d H2, Same H1 H2 → H2 a = some (exo a C (some d)) → H2 d = some (exd d [(f, v)]) → Q (.ref a) H2) :
    [v].length ≤ 1000 ∧ ∀ a, H1 a = none → spInit1 C f (.ref a :: [v]) (upd H1 a (exo a C none)) (fun u H2 => u = .non ∧ Q (.ref a) H2) E0 := by
  refine ⟨by show 1 ≤ 1000; decide, fun a na => ⟨a, v, rfl, upd_same, fun d nd ne => ⟨rfl, q a d _ ?_ upd_same ?_⟩⟩⟩
  · intro b o e
    have nb : b ≠ a := ne_of_none e na
    have nbd : b ≠ d := fun z => by
      rw [z] at e
      rw [upd_ne (by rw [← z]; exact nb), e] at nd
      cases nd
    rw [upd_ne nb, upd_ne nbd, upd_ne nb]
    exact e
  · rw [upd_ne ne, upd_same]
theorem rd_mk1 {σ : L2.St} {i : Nat} {H1 : Hp} {C : Addr} {f : Str} {v : V} {Q : VK} (hv : σ[i]? = some (some v))
    (q : ∀ a d H2, Same H1 H2 → H2 a = some (exo a C (some d)) → H2 d = some (exd d [(f, v)]) → Q (.ref a) H2) :
    tMkE C (spInit1 C f) (tCons (tVar i) tNil) σ H1 Q := ⟨v, hv, mk1_of q⟩
theorem mk0_of {H1 : Hp} {C : Addr} {Q : VK} (q : ∀ a H2, Same H1 H2 → H2 a = some (exo a C none) → Q (.ref a) H2) :
    ([] : List V).length ≤ 1000 ∧ ∀ a, H1 a = none → spInit0 C (.ref a :: []) (upd H1 a (exo a C none)) (fun u H2 => u = .non ∧ Q (.ref a) H2) E0 :=
  ⟨by show 0 ≤ 1000; decide, fun a na => ⟨a, rfl, upd_same, rfl, q a _ (same_put na) upd_same⟩⟩
theorem look1 (f : Str) (v : V) : List.lookup f [(f, v)] = some v := by simp [List.lookup]
section
variable {X : Cx} {x y f : Str} {C fI : Addr} {fd : FuncData} {i kt : Nat} {p1 p2 p3 p4 p5 p6 p7 q1 q2 : Pos}
/-- (C(y), C(f=y).f) -/
def tPair (i : Nat) (C : Addr) : TE := fun σ H Q => ∃ v, σ[i]? = some (some v) ∧ ∀ H' u, Same H H' → MadeAt H' v C u → Q u H'
theorem pe_pair (Z : E1 X.prog X.w X.K X.mg X.base x f C fI fd) (hr : Room 2 X.A) (hv : ∀ pos, PE X (.Name y pos) (tVar i)) (hg : Gl X x := by rfl)
    (hdb : (x == ("__debug__" : Str)) = false := by decide) :
    PE X (.Tuple [.Call (.Name x p1) [.Name y q1] [] p2, .Attribute (.Call (.Name x p3) [] [⟨some f, .Name y q2, p4⟩] p5) f p6] kt p7) (tPair i C) := by
  refine PE.imp (pe_tup (pa_cons (pe_mkE Z.T.ox Z.iC Z.tI Z.ok hr Z.b pass0 hg Z.g (pa_cons (hv q1) pa_nil) hdb)
    (pa_cons (pe_atE (pe_mkEk Z.T.ox Z.iC Z.tI Z.ok hr Z.bk pass0 rfl hg Z.g (hv q2) hdb)) pa_nil))) ?_
  rintro σ H Q ⟨v, hv, q⟩
  refine rd_mk1 (Q := fun x H1 => tCons (tAtE X.K f (tMkE C (spInit1 C f) (tCons (tVar i) tNil))) tNil σ H1 fun xs H2 =>
    (x :: xs).length ≤ sizeLine ∧ ∀ p, H2 p = none → Q (.ref p) (upd H2 p (.tup (x :: xs)))) hv fun a d H2 s2 ea ed => ?_
  refine rd_mk1 (Q := fun x H1 => ∃ (a' C d : Addr) (fs : List (Str × V)) (v : V), x = .ref a' ∧ ErrC X.K C ∧ PySem.W.findIn X.K (.ref C) f = some none ∧
    H1 a' = some (exo a' C (some d)) ∧ H1 d = some (exd d fs) ∧ fs.lookup f = some v ∧ ([.ref a, v] : List V).length ≤ sizeLine ∧
    ∀ p, H1 p = none → Q (.ref p) (upd H1 p (.tup [.ref a, v]))) hv fun a' d' H3 s3 ea' ed' => ?_
  refine ⟨a', C, d', _, v, rfl, Z.T, Z.no, ea', ed', look1 f v, (by show 2 ≤ sizeLine; decide), fun t nt => ?_⟩
  have s4 := same_put (o := .tup [.ref a, v]) nt
  have s24 : Same H2 _ := s3.trans s4
  refine q _ _ ((s2.trans s3).trans s4) ⟨t, a, rfl, upd_same, some d, s24 _ _ ea, fun d1 e1 => ?_⟩
  cases e1
  exact ⟨_, s24 _ _ ed⟩
/-- C(y).f -/
def tHeld (i : Nat) : TE := fun σ H Q => ∃ v, σ[i]? = some (some v) ∧ ∀ H', Same H H' → Q v H'
theorem pe_held (Z : E1 X.prog X.w X.K X.mg X.base x f C fI fd) (hr : Room 2 X.A) (hv : ∀ pos, PE X (.Name y pos) (tVar i)) (hg : Gl X x := by rfl)
    (hdb : (x == ("__debug__" : Str)) = false := by decide) :
    PE X (.Attribute (.Call (.Name x p1) [.Name y q1] [] p2) f p6) (tHeld i) := by
  refine PE.imp (pe_atE (pe_mkE Z.T.ox Z.iC Z.tI Z.ok hr Z.b pass0 hg Z.g (pa_cons (hv q1) pa_nil) hdb)) ?_
  rintro σ H Q ⟨v, hv, q⟩
  show tMkE C (spInit1 C f) (tCons (tVar i) tNil) σ H _
  refine rd_mk1 hv fun a d H2 s2 ea ed => ?_
  exact ⟨a, C, d, _, v, rfl, Z.T, Z.no, ea, ed, look1 f v, q _ s2⟩
/-- C() -/
def tNone0 (C : Addr) : TE := fun σ H Q => ∀ a H', Same H H' → ErrAt H' C a → Q (.ref a) H'
theorem pe_none0 (Z : E0C X.prog X.w X.K X.mg X.base x C fI fd) (hr : Room 2 X.A) (hg : Gl X x := by rfl)
    (hdb : (x == ("__debug__" : Str)) = false := by decide) : PE X (.Call (.Name x p1) [] [] p2) (tNone0 C) := by
  refine PE.imp (pe_mkE0 Z.T.ox Z.iC Z.tI Z.ok hr Z.b pass0 hg Z.g hdb) ?_
  intro σ H Q q
  exact mk0_of fun a H2 s2 ea => q a H2 s2 ⟨none, ea, fun d z => nomatch z⟩
/-- isinstance(y, D) -/
def tIs (K : PySem.W.Frag) (i : Nat) (D : Value) : TE := fun σ H Q => ∃ (e C : Addr) (b : Bool), σ[i]? = some (some (.ref e)) ∧ ErrAt H C e ∧ ErrC K C ∧ PySem.W.kitOne K (.ref C) D = some b ∧ Q (.bl b) H
theorem pe_is {D : V} {u : Value} (m : X.mg "isinstance" = none) (hv : ∀ pos, PE X (.Name y pos) (tVar i)) (hx : ∀ pos, PE X (.Name x pos) (tC D)) (hD : ClsV D u) (hg : Gl X "isinstance" := by rfl) :
    PE X (.Call (.Name "isinstance" p1) [.Name y q1, .Name x q2] [] p2) (tIs X.K i u) := by
  refine PE.imp (pe_callB call_isX hg m (by decide +kernel) (pa_cons (hv q1) (pa_cons (hx q2) pa_nil))) ?_
  rintro σ H Q ⟨e, C, b, hv, ⟨od, h1, h2⟩, T, k, q⟩
  exact ⟨_, hv, e, C, od, D, u, b, rfl, h1, h2, T, hD, k, q⟩
end
end Ev

/-! ## What an expression gives, while all that is tracked stands -/
namespace Ev
open PySem PySem.Spec PyProof.Rows L2
structure GP where
  p : Hp → V → Prop
  mono : ∀ {H H' : Hp} {u : V}, Same H H' → p H u → p H' u
def AllG (Gs : List GP) (H : Hp) (us : List V) : Prop := Paired (fun (G : GP) u => G.p H u) Gs us
theorem AllG.mono {H H' : Hp} (s : Same H H') : ∀ {Gs : List GP} {us : List V}, AllG Gs H us → AllG Gs H' us
  | _, _, .nil => .nil
  | G :: _, _, .cons h t => .cons (G.mono s h) (AllG.mono s t)
theorem AllG.append {H : Hp} : ∀ {Gs Gs' : List GP} {us us' : List V}, AllG Gs H us → AllG Gs' H us' → AllG (Gs ++ Gs') H (us ++ us')
  | _, _, _, _, .nil, k => k
  | _ :: _, _, _, _, .cons h t, k => .cons h (AllG.append t k)
def gEq (v : V) : GP := ⟨fun _ u => u = v, fun _ h => h⟩
def gMade (v : V) (C : Addr) : GP := ⟨fun H u => MadeAt H v C u, fun s h => h.mono s⟩
def gErr (C : Addr) : GP := ⟨fun H u => ∃ e, u = .ref e ∧ ErrAt H C e, fun s ⟨e, h1, h2⟩ => ⟨e, h1, h2.mono s⟩⟩
def gLst (Gs : List GP) : GP := ⟨fun H u => ∃ p us, u = .ref p ∧ H p = some (.lst us) ∧ AllG Gs H us, fun s ⟨p, us, h1, h2, h3⟩ => ⟨p, us, h1, s _ _ h2, h3.mono s⟩⟩
def Gives (H0 : Hp) (te : TE) (G : GP) (σ : L2.St) : Prop := ∀ (H : Hp) (Q : VK), Same H0 H → (∀ H' u, Same H H' → G.p H' u → Q u H') → te σ H Q
def GivesL (H0 : Hp) (ta : TA) (Gs : List GP) (σ : L2.St) : Prop := ∀ (H : Hp) (Q : List V → Hp → Prop), Same H0 H → (∀ H' us, Same H H' → AllG Gs H' us → Q us H') → ta σ H Q
section
variable {H0 : Hp} {σ : L2.St} {te te' : TE} {ta : TA} {G : GP} {Gs Gs' : List GP} {i : Nat} {v : V} {C : Addr} {D : Ends} {rest : TS}
theorem g_nil : GivesL H0 tNil [] σ := fun H Q _ q => q H [] Same.rfl' .nil
theorem g_cons (h : Gives H0 te G σ) (t : GivesL H0 ta Gs σ) : GivesL H0 (tCons te ta) (G :: Gs) σ := fun H Q s q =>
  h H _ s fun H1 u s1 g1 => t H1 _ (s.trans s1) fun H2 us s2 g2 => q H2 (u :: us) (s1.trans s2) (.cons (G.mono s2 g1) g2)
theorem g_lst (h : GivesL H0 ta Gs σ) (hz : Gs.length ≤ 1000 := by simp) : Gives H0 (tLst ta) (gLst Gs) σ := fun H Q s q =>
  h H _ s fun H1 us s1 g1 => by
    have hl : us.length = Gs.length := (Paired.length g1).symm
    refine ⟨?_, fun p np => ?_⟩
    · have y := sizeLine_eq
      omega
    · have s2 := same_put (o := .lst us) np
      exact q _ _ (s1.trans s2) ⟨p, us, rfl, upd_same, g1.mono s2⟩
theorem g_cat (h : Gives H0 te (gLst Gs) σ) (h' : Gives H0 te' (gLst Gs') σ) (hz : Gs.length + Gs'.length ≤ 1000 := by simp) :
    Gives H0 (tOp rCat te te') (gLst (Gs ++ Gs')) σ := fun H Q s q =>
  h H _ s fun H1 u s1 ⟨p, us, e1, h1, g1⟩ => h' H1 _ (s.trans s1) fun H2 u' s2 ⟨p', us', e2, h2, g2⟩ => by
    have l1 : us.length = Gs.length := (Paired.length g1).symm
    have l2 : us'.length = Gs'.length := (Paired.length g2).symm
    refine ⟨p, p', us, us', e1, e2, s2 _ _ h1, h2, ?_, fun r nr => ?_⟩
    · have y := sizeLine_eq
      omega
    · have s3 := same_put (o := .lst (us ++ us')) nr
      exact q _ _ ((s1.trans s2).trans s3) ⟨r, us ++ us', rfl, upd_same, AllG.append (g1.mono (s2.trans s3)) (g2.mono s3)⟩
theorem g_var (hv : σ[i]? = some (some v)) (g : G.p H0 v) : Gives H0 (tVar i) G σ := fun H Q s q => ⟨v, hv, q H v Same.rfl' (G.mono s g)⟩
theorem g_eq (hv : σ[i]? = some (some v)) : Gives H0 (tVar i) (gEq v) σ := g_var hv rfl
theorem g_pair (hv : σ[i]? = some (some v)) : Gives H0 (tPair i C) (gMade v C) σ := fun H Q _ q => ⟨v, hv, fun H' u s m => q H' u s m⟩
theorem g_held (hv : σ[i]? = some (some v)) : Gives H0 (tHeld i) (gEq v) σ := fun H Q _ q => ⟨v, hv, fun H' s => q H' v s rfl⟩
theorem g_none0 : Gives H0 (tNone0 C) (gErr C) σ := fun H Q _ q a H' s e => q H' _ s ⟨a, rfl, e⟩
theorem g_is {K : PySem.W.Frag} {e : Addr} {D : Value} {b : Bool} (hv : σ[i]? = some (some (.ref e))) (he : ErrAt H0 C e) (T : ErrC K C) (k : PySem.W.kitOne K (.ref C) D = some b) :
    Gives H0 (tIs K i D) (gEq (.bl b)) σ := fun H Q s q => ⟨e, C, b, hv, he.mono s, T, k, q H _ Same.rfl' rfl⟩
theorem s_set (h : Gives H0 te G σ) (k : ∀ H' u, Same H0 H' → G.p H' u → rest D (σ.set i (some u)) H') : tSeq (tAsg te (gName i)) rest D σ H0 :=
  h H0 _ Same.rfl' fun H' u s g => k H' u s g
theorem s_ret (h : Gives H0 te G σ) (k : ∀ H' u, Same H0 H' → G.p H' u → D.rt u H') : tRet te D σ H0 :=
  h H0 _ Same.rfl' fun H' u s g => k H' u s g
end
/-! ### the errors together -/
def E1x (P : Program) (w : World) (K : PySem.W.Frag) (mg : Str → Option Value) (base : Heap) (x f : Str) (C : Addr) : Prop := ∃ fI fd, E1 P w K mg base x f C fI fd
def E0x (P : Program) (w : World) (K : PySem.W.Frag) (mg : Str → Option Value) (base : Heap) (x : Str) (C : Addr) : Prop := ∃ fI fd, E0C P w K mg base x C fI fd
structure Errs (P : Program) (w : World) (K : PySem.W.Frag) (mg : Str → Option Value) (base : Heap) (c2 c3 c4 c5 c7 c8 c9 c10 c13 c14 c6 c11 c12 : Addr) : Prop where
  e2 : E1x P w K mg base "BadProgram" "value" c2
  e3 : E1x P w K mg base "NoTick" "value" c3
  e4 : E1x P w K mg base "NoLine" "value" c4
  e5 : E1x P w K mg base "TooLong" "size" c5
  e7 : E1x P w K mg base "TooLarge" "divisor" c7
  e8 : E1x P w K mg base "OtherLength" "size" c8
  e9 : E1x P w K mg base "BadIndex" "value" c9
  e10 : E1x P w K mg base "BadItem" "value" c10
  e13 : E1x P w K mg base "BadText" "position" c13
  e14 : E1x P w K mg base "BadCommand" "line" c14
  e6 : E0x P w K mg base "NotFlat" c6
  e11 : E0x P w K mg base "LastItem" c11
  e12 : E0x P w K mg base "NothingToUndo" c12
section
variable {P : Program} {w : World} {K : PySem.W.Frag} {mg : Str → Option Value} {base : Heap} {c2 c3 c4 c5 c7 c8 c9 c10 c13 c14 c6 c11 c12 : Addr} {f : Addr} {fd : FuncData}
theorem scMade : FnScope ["_law_thing", "_law_found"] ["_law_thing"] (defScope (topS 19)) :=
  ⟨rfl, rfl, rfl, by decide +kernel, rfl, by decide +kernel, by decide +kernel⟩
theorem scHeld : FnScope ["_law_thing", "_law_found"] ["_law_thing"] (defScope (topS 20)) :=
  ⟨rfl, rfl, rfl, by decide +kernel, rfl, by decide +kernel, by decide +kernel⟩
theorem scMarks : FnScope ["_law_error", "_law_found"] ["_law_error"] (defScope (topS 21)) :=
  ⟨rfl, rfl, rfl, by decide +kernel, rfl, by decide +kernel, by decide +kernel⟩
def spMade (Cs : List Addr) : Sp := fun vs H Q _ => ∃ v, vs = [v] ∧ ∀ H' u, Same H H' → (gLst (Cs.map (gMade v))).p H' u → Q u H'
def spHeld : Sp := fun vs H Q _ => ∃ v, vs = [v] ∧ ∀ H' u, Same H H' → (gLst (List.replicate 10 (gEq v))).p H' u → Q u H'

theorem ok_made (F : Fun K "_law_made" "_law_made" (topS 19) f fd) (R : Errs P w K mg base c2 c3 c4 c5 c7 c8 c9 c10 c13 c14 c6 c11 c12) :
    FnOk P w K mg base CX0 3 f fd ["_law_thing"] (spMade [c2, c3, c4, c5, c7, c8, c9, c10, c13, c14]) := by
  have sc := scMade
  refine F.ok scMade (fun vs H Q E h => ?_) (fun cdv A outer s H vs Q E hr h => ?_)
  · obtain ⟨v, rfl, _⟩ := h
    rfl
  · obtain ⟨v, rfl, q⟩ := h
    obtain ⟨fI2, fd2, Z2⟩ := R.e2
    obtain ⟨fI3, fd3, Z3⟩ := R.e3
    obtain ⟨fI4, fd4, Z4⟩ := R.e4
    obtain ⟨fI5, fd5, Z5⟩ := R.e5
    obtain ⟨fI7, fd7, Z7⟩ := R.e7
    obtain ⟨fI8, fd8, Z8⟩ := R.e8
    obtain ⟨fI9, fd9, Z9⟩ := R.e9
    obtain ⟨fI10, fd10, Z10⟩ := R.e10
    obtain ⟨fI13, fd13, Z13⟩ := R.e13
    obtain ⟨fI14, fd14, Z14⟩ := R.e14
    obtain ⟨fI6, fd6, Z6⟩ := R.e6
    obtain ⟨fI11, fd11, Z11⟩ := R.e11
    obtain ⟨fI12, fd12, Z12⟩ := R.e12
    refine ⟨_, (pss_cons (ps_set (i := 1) sc.nd rfl (.inl rfl) (pe_lst (pa_cons (pe_pair Z2 hr (fun _ => pv 0)) (pa_cons (pe_pair Z3 hr (fun _ => pv 0)) pa_nil))))
      (pss_cons (ps_set (i := 1) sc.nd rfl (.inl rfl) (pe_op op_cat (pv 1) (pe_lst (pa_cons (pe_pair Z4 hr (fun _ => pv 0)) (pa_cons (pe_pair Z5 hr (fun _ => pv 0)) pa_nil)))))
      (pss_cons (ps_set (i := 1) sc.nd rfl (.inl rfl) (pe_op op_cat (pv 1) (pe_lst (pa_cons (pe_pair Z7 hr (fun _ => pv 0)) pa_nil))))
      (pss_cons (ps_set (i := 1) sc.nd rfl (.inl rfl) (pe_op op_cat (pv 1) (pe_lst (pa_cons (pe_pair Z8 hr (fun _ => pv 0)) pa_nil))))
      (pss_cons (ps_set (i := 1) sc.nd rfl (.inl rfl) (pe_op op_cat (pv 1) (pe_lst (pa_cons (pe_pair Z9 hr (fun _ => pv 0)) (pa_cons (pe_pair Z10 hr (fun _ => pv 0)) pa_nil)))))
      (pss_cons (ps_set (i := 1) sc.nd rfl (.inl rfl) (pe_op op_cat (pv 1) (pe_lst (pa_cons (pe_pair Z13 hr (fun _ => pv 0)) pa_nil))))
      (pss_one (ps_ret (pe_op op_cat (pv 1) (pe_lst (pa_cons (pe_pair Z14 hr (fun _ => pv 0)) pa_nil))))))))))), ?_⟩
    refine s_set (g_lst (g_cons (g_pair rfl) (g_cons (g_pair rfl) g_nil))) fun H1 u1 s1 g1 => ?_
    refine s_set (g_cat (g_var rfl g1) (g_lst (g_cons (g_pair rfl) (g_cons (g_pair rfl) g_nil)))) fun H2 u2 s2 g2 => ?_
    refine s_set (g_cat (g_var rfl g2) (g_lst (g_cons (g_pair rfl) g_nil))) fun H3 u3 s3 g3 => ?_
    refine s_set (g_cat (g_var rfl g3) (g_lst (g_cons (g_pair rfl) g_nil))) fun H4 u4 s4 g4 => ?_
    refine s_set (g_cat (g_var rfl g4) (g_lst (g_cons (g_pair rfl) (g_cons (g_pair rfl) g_nil)))) fun H5 u5 s5 g5 => ?_
    refine s_set (g_cat (g_var rfl g5) (g_lst (g_cons (g_pair rfl) g_nil))) fun H6 u6 s6 g6 => ?_
    refine s_ret (g_cat (g_var rfl g6) (g_lst (g_cons (g_pair rfl) g_nil))) fun H7 u7 s7 g7 => ?_
    exact q _ _ ((((((s1.trans s2).trans s3).trans s4).trans s5).trans s6).trans s7) g7
theorem ok_held (F : Fun K "_law_held" "_law_held" (topS 20) f fd) (R : Errs P w K mg base c2 c3 c4 c5 c7 c8 c9 c10 c13 c14 c6 c11 c12) :
    FnOk P w K mg base CX0 3 f fd ["_law_thing"] spHeld := by
  have sc := scHeld
  refine F.ok scHeld (fun vs H Q E h => ?_) (fun cdv A outer s H vs Q E hr h => ?_)
  · obtain ⟨v, rfl, _⟩ := h
    rfl
  · obtain ⟨v, rfl, q⟩ := h
    obtain ⟨fI2, fd2, Z2⟩ := R.e2
    obtain ⟨fI3, fd3, Z3⟩ := R.e3
    obtain ⟨fI4, fd4, Z4⟩ := R.e4
    obtain ⟨fI5, fd5, Z5⟩ := R.e5
    obtain ⟨fI7, fd7, Z7⟩ := R.e7
    obtain ⟨fI8, fd8, Z8⟩ := R.e8
    obtain ⟨fI9, fd9, Z9⟩ := R.e9
    obtain ⟨fI10, fd10, Z10⟩ := R.e10
    obtain ⟨fI13, fd13, Z13⟩ := R.e13
    obtain ⟨fI14, fd14, Z14⟩ := R.e14
    obtain ⟨fI6, fd6, Z6⟩ := R.e6
    obtain ⟨fI11, fd11, Z11⟩ := R.e11
    obtain ⟨fI12, fd12, Z12⟩ := R.e12
    refine ⟨_, (pss_cons (ps_set (i := 1) sc.nd rfl (.inl rfl) (pe_lst (pa_cons (pe_held Z2 hr (fun _ => pv 0)) (pa_cons (pe_held Z3 hr (fun _ => pv 0)) (pa_cons (pe_held Z4 hr (fun _ => pv 0)) (pa_cons (pe_held Z5 hr (fun _ => pv 0)) pa_nil))))))
      (pss_cons (ps_set (i := 1) sc.nd rfl (.inl rfl) (pe_op op_cat (pv 1) (pe_lst (pa_cons (pe_held Z7 hr (fun _ => pv 0)) (pa_cons (pe_held Z8 hr (fun _ => pv 0)) (pa_cons (pe_held Z9 hr (fun _ => pv 0)) (pa_cons (pe_held Z10 hr (fun _ => pv 0)) pa_nil)))))))
      (pss_one (ps_ret (pe_op op_cat (pv 1) (pe_lst (pa_cons (pe_held Z13 hr (fun _ => pv 0)) (pa_cons (pe_held Z14 hr (fun _ => pv 0)) pa_nil)))))))), ?_⟩
    refine s_set (g_lst (g_cons (g_held rfl) (g_cons (g_held rfl) (g_cons (g_held rfl) (g_cons (g_held rfl) g_nil))))) fun H1 u1 s1 g1 => ?_
    refine s_set (g_cat (g_var rfl g1) (g_lst (g_cons (g_held rfl) (g_cons (g_held rfl) (g_cons (g_held rfl) (g_cons (g_held rfl) g_nil)))))) fun H2 u2 s2 g2 => ?_
    refine s_ret (g_cat (g_var rfl g2) (g_lst (g_cons (g_held rfl) (g_cons (g_held rfl) g_nil)))) fun H3 u3 s3 g3 => ?_
    exact q _ _ ((s1.trans s2).trans s3) g3
/-- which class the error at the place n has, told by all thirteen -/
def spMarks (K : PySem.W.Frag) (Cs : List Addr) : Sp := fun vs H Q _ => ∃ (e C : Addr) (bs : List Bool), vs = [.ref e] ∧ ErrAt H C e ∧ ErrC K C ∧
  bs.length = 13 ∧ (∀ (n : Nat) (D : Addr) (b : Bool), Cs[n]? = some D → bs[n]? = some b → PySem.W.kitOne K (.ref C) (.ref D) = some b) ∧
  ∀ H' u, Same H H' → (gLst (bs.map fun b => gEq (.bl b))).p H' u → Q u H'
theorem ok_marks (F : Fun K "_law_marks" "_law_marks" (topS 21) f fd) (R : Errs P w K mg base c2 c3 c4 c5 c7 c8 c9 c10 c13 c14 c6 c11 c12) (m : mg "isinstance" = none) :
    FnOk P w K mg base CX0 1 f fd ["_law_error"] (spMarks K [c2, c3, c4, c5, c7, c8, c9, c10, c13, c14, c6, c11, c12]) := by
  have sc := scMarks
  refine F.ok scMarks (fun vs H Q E h => ?_) (fun cdv A outer s H vs Q E hr h => ?_)
  · obtain ⟨e, C, bs, rfl, _⟩ := h
    rfl
  · obtain ⟨e, C, bs, rfl, he, T, hl, hk, q⟩ := h
    obtain ⟨fI2, fd2, Z2⟩ := R.e2
    obtain ⟨fI3, fd3, Z3⟩ := R.e3
    obtain ⟨fI4, fd4, Z4⟩ := R.e4
    obtain ⟨fI5, fd5, Z5⟩ := R.e5
    obtain ⟨fI7, fd7, Z7⟩ := R.e7
    obtain ⟨fI8, fd8, Z8⟩ := R.e8
    obtain ⟨fI9, fd9, Z9⟩ := R.e9
    obtain ⟨fI10, fd10, Z10⟩ := R.e10
    obtain ⟨fI13, fd13, Z13⟩ := R.e13
    obtain ⟨fI14, fd14, Z14⟩ := R.e14
    obtain ⟨fI6, fd6, Z6⟩ := R.e6
    obtain ⟨fI11, fd11, Z11⟩ := R.e11
    obtain ⟨fI12, fd12, Z12⟩ := R.e12
    match bs, hl, hk with
    | [b0, b1, b2, b3, b4, b5, b6, b7, b8, b9, b10, b11, b12], _, hk =>
    refine ⟨_, (pss_cons (ps_set (i := 1) sc.nd rfl (.inl rfl) (pe_lst (pa_cons (pe_is m (fun _ => pv 0) (fun _ => pe_glob (v := .ref c2) rfl Z2.g (show RelV (.ref c2) (.ref c2) from rfl)) (.own c2)) (pa_cons (pe_is m (fun _ => pv 0) (fun _ => pe_glob (v := .ref c3) rfl Z3.g (show RelV (.ref c3) (.ref c3) from rfl)) (.own c3)) (pa_cons (pe_is m (fun _ => pv 0) (fun _ => pe_glob (v := .ref c4) rfl Z4.g (show RelV (.ref c4) (.ref c4) from rfl)) (.own c4)) pa_nil)))))
      (pss_cons (ps_set (i := 1) sc.nd rfl (.inl rfl) (pe_op op_cat (pv 1) (pe_lst (pa_cons (pe_is m (fun _ => pv 0) (fun _ => pe_glob (v := .ref c5) rfl Z5.g (show RelV (.ref c5) (.ref c5) from rfl)) (.own c5)) (pa_cons (pe_is m (fun _ => pv 0) (fun _ => pe_glob (v := .ref c7) rfl Z7.g (show RelV (.ref c7) (.ref c7) from rfl)) (.own c7)) (pa_cons (pe_is m (fun _ => pv 0) (fun _ => pe_glob (v := .ref c8) rfl Z8.g (show RelV (.ref c8) (.ref c8) from rfl)) (.own c8)) pa_nil))))))
      (pss_cons (ps_set (i := 1) sc.nd rfl (.inl rfl) (pe_op op_cat (pv 1) (pe_lst (pa_cons (pe_is m (fun _ => pv 0) (fun _ => pe_glob (v := .ref c9) rfl Z9.g (show RelV (.ref c9) (.ref c9) from rfl)) (.own c9)) (pa_cons (pe_is m (fun _ => pv 0) (fun _ => pe_glob (v := .ref c10) rfl Z10.g (show RelV (.ref c10) (.ref c10) from rfl)) (.own c10)) (pa_cons (pe_is m (fun _ => pv 0) (fun _ => pe_glob (v := .ref c13) rfl Z13.g (show RelV (.ref c13) (.ref c13) from rfl)) (.own c13)) pa_nil))))))
      (pss_cons (ps_set (i := 1) sc.nd rfl (.inl rfl) (pe_op op_cat (pv 1) (pe_lst (pa_cons (pe_is m (fun _ => pv 0) (fun _ => pe_glob (v := .ref c14) rfl Z14.g (show RelV (.ref c14) (.ref c14) from rfl)) (.own c14)) (pa_cons (pe_is m (fun _ => pv 0) (fun _ => pe_glob (v := .ref c6) rfl Z6.g (show RelV (.ref c6) (.ref c6) from rfl)) (.own c6)) (pa_cons (pe_is m (fun _ => pv 0) (fun _ => pe_glob (v := .ref c11) rfl Z11.g (show RelV (.ref c11) (.ref c11) from rfl)) (.own c11)) pa_nil))))))
      (pss_one (ps_ret (pe_op op_cat (pv 1) (pe_lst (pa_cons (pe_is m (fun _ => pv 0) (fun _ => pe_glob (v := .ref c12) rfl Z12.g (show RelV (.ref c12) (.ref c12) from rfl)) (.own c12)) pa_nil))))))))), ?_⟩
    refine s_set (g_lst (g_cons (g_is rfl he T (hk 0 _ _ rfl rfl)) (g_cons (g_is rfl he T (hk 1 _ _ rfl rfl)) (g_cons (g_is rfl he T (hk 2 _ _ rfl rfl)) g_nil)))) fun H1 u1 s1 g1 => ?_
    refine s_set (g_cat (g_var rfl g1) (g_lst (g_cons (g_is rfl (he.mono s1) T (hk 3 _ _ rfl rfl)) (g_cons (g_is rfl (he.mono s1) T (hk 4 _ _ rfl rfl)) (g_cons (g_is rfl (he.mono s1) T (hk 5 _ _ rfl rfl)) g_nil))))) fun H2 u2 s2 g2 => ?_
    refine s_set (g_cat (g_var rfl g2) (g_lst (g_cons (g_is rfl (he.mono (s1.trans s2)) T (hk 6 _ _ rfl rfl)) (g_cons (g_is rfl (he.mono (s1.trans s2)) T (hk 7 _ _ rfl rfl)) (g_cons (g_is rfl (he.mono (s1.trans s2)) T (hk 8 _ _ rfl rfl)) g_nil))))) fun H3 u3 s3 g3 => ?_
    refine s_set (g_cat (g_var rfl g3) (g_lst (g_cons (g_is rfl (he.mono ((s1.trans s2).trans s3)) T (hk 9 _ _ rfl rfl)) (g_cons (g_is rfl (he.mono ((s1.trans s2).trans s3)) T (hk 10 _ _ rfl rfl)) (g_cons (g_is rfl (he.mono ((s1.trans s2).trans s3)) T (hk 11 _ _ rfl rfl)) g_nil))))) fun H4 u4 s4 g4 => ?_
    refine s_ret (g_cat (g_var rfl g4) (g_lst (g_cons (g_is rfl (he.mono (((s1.trans s2).trans s3).trans s4)) T (hk 12 _ _ rfl rfl)) g_nil))) fun H5 u5 s5 g5 => ?_
    exact q _ _ ((((s1.trans s2).trans s3).trans s4).trans s5) g5
end
end Ev

/-! ## Data that are written, comprehensions of plain elements, SampleError() -/
namespace Ev
open PySem PySem.Spec PyProof.Rows L2
/-- the abstract heap without p -/
def but (H : Hp) (p : Addr) : Hp := fun b => if b = p then none else H b
theorem but_ne {H : Hp} {p b : Addr} (h : b ≠ p) : but H p b = H b := if_neg h
theorem but_same {H H' : Hp} {p : Addr} (s : Same H H') : Same (but H p) (but H' p) := fun b o e => by
  by_cases h : b = p
  · rw [h] at e
    have z : but H p p = none := if_pos rfl
    rw [z] at e
    cases e
  · rw [but_ne h] at e ⊢
    exact s _ _ e
theorem but_le {H H' : Hp} {p : Addr} (s : Bu p H H') : Same (but H p) H' := fun b o e => by
  by_cases h : b = p
  · rw [h] at e
    have z : but H p p = none := if_pos rfl
    rw [z] at e
    cases e
  · rw [but_ne h] at e
    exact s _ _ h e
/-- data that do not hold p -/
def gDa (K : PySem.W.Frag) (p : Addr) (d : PyData) : GP := ⟨fun H u => Da K (but H p) u d, fun s h => h.mono (but_same s)⟩
section
variable {K : PySem.W.Frag} {p : Addr} {op : HO} {H0 : Hp} {σ : L2.St} {te : TE} {ta : TA} {G : GP} {Gs : List GP} {v : V} {d : PyData} {ds : List PyData}
theorem ne_new {H : Hp} {q : Addr} (hp : H0 p = some op) (s : Same H0 H) (nq : H q = none) : q ≠ p := fun z => by
  rw [z, s _ _ hp] at nq
  cases nq
theorem g_c (h : ∀ H, G.p H v) : Gives H0 (tC v) G σ := fun H Q _ q => q H v Same.rfl' (h H)
theorem g_neg {i : Int} : Gives H0 (tUn (rU fun i => .int (-i)) (tC (.int i))) (gDa K p (.int (-i))) σ := fun H Q _ q => ⟨i, rfl, q H _ Same.rfl' (.int _)⟩
theorem g_pow {i j : Int} (h : CPow i j) : Gives H0 (tOp (rI CPow fun i j => .int (i ^ j.toNat)) (tC (.int i)) (tC (.int j))) (gDa K p (.int (i ^ j.toNat))) σ :=
  fun H Q _ q => ⟨i, j, rfl, rfl, h, q H _ Same.rfl' (.int _)⟩
theorem allDa {H : Hp} : ∀ {ds : List PyData} {us : List V}, AllG (ds.map (gDa K p)) H us → DaAll K (but H p) us ds
  | [], _, .nil => .nil
  | _ :: _, _, .cons h t => .cons h (allDa t)
theorem g_lstD (hp : H0 p = some op) (h : GivesL H0 ta (ds.map (gDa K p)) σ) (hz : ds.length ≤ 1000 := by simp) : Gives H0 (tLst ta) (gDa K p (.list ds)) σ := fun H Q s q =>
  h H _ s fun H1 us s1 g1 => by
    have hl : us.length = ds.length := by rw [← Paired.length g1, List.length_map]
    refine ⟨?_, fun r nr => ?_⟩
    · have y := sizeLine_eq
      omega
    · have s2 := same_put (o := .lst us) nr
      have ne := ne_new hp (s.trans s1) nr
      refine q _ _ (s1.trans s2) (.lst (.inl (.inl ?_)) ((allDa g1).mono (but_same s2)))
      rw [but_ne ne, upd_same]
theorem g_tupD (hp : H0 p = some op) (h : GivesL H0 ta (ds.map (gDa K p)) σ) (hz : ds.length ≤ 1000 := by simp) : Gives H0 (tTup ta) (gDa K p (.tuple ds)) σ := fun H Q s q =>
  h H _ s fun H1 us s1 g1 => by
    have hl : us.length = ds.length := by rw [← Paired.length g1, List.length_map]
    refine ⟨?_, fun r nr => ?_⟩
    · have y := sizeLine_eq
      omega
    · have s2 := same_put (o := .tup us) nr
      have ne := ne_new hp (s.trans s1) nr
      refine q _ _ (s1.trans s2) (.tup (.inl (.inl ?_)) ((allDa g1).mono (but_same s2)))
      rw [but_ne ne, upd_same]
theorem g_dnew (hp : H0 p = some op) : Gives H0 tDNewK (gDa K p (.dict [])) σ := fun H Q s q r nr => by
  refine q _ _ (same_put nr) (.dic ?_ .nil)
  rw [but_ne (ne_new hp s nr), upd_same]
theorem g_disp {x : Str} (hp : H0 p = some op) : Gives H0 (tDisp [(tC (.str x), tTup (tCons (tC .non) tNil))]) (gDa K p (.dict [(.str x, .tuple [.none])])) σ := fun H Q s q r nr => by
  refine ⟨(by show 1 ≤ sizeLine; decide), fun t nt => ?_⟩
  have ne : t ≠ r := fun z => by
    rw [z, upd_same] at nt
    cases nt
  have n1 := ne_new hp s nr
  have n2 := ne_new hp (s.trans (same_put nr)) nt
  refine ⟨by rw [upd_ne ne.symm, upd_same], [(.inr x, .ref t)], rfl, (by show 1 ≤ 15; decide), q _ _ ?_ (.dic (kvs := [(.inr x, .ref t)]) ?_ (.cons (.tup (xs := [.non]) (.inl (.inl ?_)) (.cons .non .nil)) .nil))⟩
  · intro b o e
    have nb : b ≠ r := ne_of_none e nr
    have nbt : b ≠ t := fun z => by
      rw [z] at e
      rw [upd_ne ne, e] at nt
      cases nt
    rw [upd_ne nb, upd_ne nbt, upd_ne nb]
    exact e
  · rw [but_ne n1]
    exact upd_same
  · rw [but_ne n2, upd_ne ne, upd_same]
theorem allEq {H : Hp} : ∀ {ys : List V}, AllG (ys.map gEq) H ys
  | [] => .nil
  | _ :: _ => .cons rfl allEq
/-- [elt for .. in xs], the elements plain values -/
theorem g_lcP {a : Addr} {xs ys : List V} {i : Nat} {g : TG} {vs : List Nat} (hi : σ[i]? = some (some (.ref a))) (hx : SqL K H0 a xs) (hz : xs.length ≤ 1000) (hl : ys.length = xs.length)
    (he : ∀ (j : Nat) (x y : V), xs[j]? = some x → ys[j]? = some y → ∀ (H : Hp) (R : VK), Same H0 H → R y H →
      g x (wipe σ vs) H fun σ2 H2 => wipe σ2 vs = wipe σ vs ∧ te σ2 H2 R) :
    Gives H0 (tLc (iList K (tVar i)) g tYes te vs) (gLst (ys.map gEq)) σ := fun H Q s q => by
  refine ⟨_, hi, a, rfl, ⟨xs, s.seq hx⟩, fun D nD => ?_⟩
  have sD : Same H (upd H D (.lst [])) := same_put nD
  have y := sizeLine_eq
  refine lc_list (K := K) (a := a) (xs := xs) (fun k H' => Same H H' ∧ H' D = some (.lst (ys.take k))) ⟨sD, upd_same⟩ (fun k H' _ ⟨s', _⟩ => s'.seq (s.seq hx)) ?_ ?_
  · rintro k x H' hk ⟨s', eD⟩
    have hk' : k < ys.length := by
      obtain ⟨h, _⟩ := List.getElem?_eq_some_iff.mp hk
      omega
    have hy := List.getElem?_eq_getElem hk'
    refine cast ?_ (he k x ys[k] hk hy H' (fun y H4 => ∃ acc, H4 D = some (.lst acc) ∧ acc.length < sizeLine ∧ Same H (upd H4 D (.lst (acc ++ [y]))) ∧ upd H4 D (.lst (acc ++ [y])) D = some (.lst (ys.take (k + 1)))) (s.trans s') ⟨_, eD, ?_, ?_, ?_⟩)
    · rfl
    · rw [List.length_take]
      omega
    · intro b o e
      rw [upd_ne (ne_of_none e nD)]
      exact s' _ _ e
    · rw [upd_same, List.take_add_one, hy]
      rfl
  · rintro H' ⟨s', eD⟩
    rw [← hl, List.take_length] at eD
    exact q H' _ s' ⟨D, ys, rfl, eD, allEq⟩
/-- [elt for i in range(m)], the elements plain values -/
theorem g_lcR {ys : List V} {m : Int} {g : TG} {vs : List Nat} (hm : -(2 ^ 62) ≤ m ∧ m < 2 ^ 62) (hl : ys.length = m.toNat) (hz : ys.length ≤ 1000)
    (he : ∀ (j : Nat) (y : V), ys[j]? = some y → ∀ (H : Hp) (R : VK), Same H0 H → R y H →
      g (.int (0 + j)) (wipe σ vs) H fun σ2 H2 => wipe σ2 vs = wipe σ vs ∧ te σ2 H2 R) :
    Gives H0 (tLc (iRng1 (tCons (tC (.int m)) tNil)) g tYes te vs) (gLst (ys.map gEq)) σ := fun H Q s q => by
  refine ⟨m, rfl, hm.1, hm.2, fun D nD => ?_⟩
  have sD : Same H (upd H D (.lst [])) := same_put nD
  have y := sizeLine_eq
  refine lc_range (lo := 0) (n := m.toNat) (fun k H' => Same H H' ∧ H' D = some (.lst (ys.take k))) ⟨sD, upd_same⟩ ?_ ?_
  · rintro k H' hk ⟨s', eD⟩
    have hk' : k < ys.length := by omega
    have hy := List.getElem?_eq_getElem hk'
    refine cast ?_ (he k ys[k] hy H' (fun y H4 => ∃ acc, H4 D = some (.lst acc) ∧ acc.length < sizeLine ∧ Same H (upd H4 D (.lst (acc ++ [y]))) ∧ upd H4 D (.lst (acc ++ [y])) D = some (.lst (ys.take (k + 1)))) (s.trans s') ⟨_, eD, ?_, ?_, ?_⟩)
    · rfl
    · rw [List.length_take]
      omega
    · intro b o e
      rw [upd_ne (ne_of_none e nD)]
      exact s' _ _ e
    · rw [upd_same, List.take_add_one, hy]
      rfl
  · rintro H' ⟨s', eD⟩
    rw [← hl, List.take_length] at eD
    exact q H' _ s' ⟨D, ys, rfl, eD, allEq⟩
/-! ### tests whose answer is known -/
def GivesT (H0 : Hp) (tt : TT) (b : Bool) (σ : L2.St) : Prop := ∀ (H : Hp) (Q : Bool → Hp → Prop), Same H0 H → (∀ H', Same H H' → Q b H') → tt σ H Q
theorem s_skip {tt : TT} {t rest : TS} {D : Ends} (h : GivesT H0 tt false σ) (k : ∀ H', Same H0 H' → rest D σ H') : tSeq (tIfS tt t tNext) rest D σ H0 :=
  h H0 _ Same.rfl' fun H' s => iteF (k H' s)
theorem s_skip1 {tt : TT} {t : TS} {D : Ends} (h : GivesT H0 tt false σ) (k : ∀ H', Same H0 H' → D.nx σ H') : tIfS tt t tNext D σ H0 :=
  h H0 _ Same.rfl' fun H' s => iteF (k H' s)
theorem g_repr (h : Gives H0 te G σ) (hd : ∀ H u, Same H0 H → G.p H u → ∃ a, u = .ref a ∧ Da K H u d) (h1 : d.showable = true) (h2 : d.depth ≤ 64) (h3 : d.shown.length ≤ sizeLine) :
    Gives H0 (tCB (rRepr K) (tCons te tNil)) (gEq (.str d.shown)) σ := fun H Q s q =>
  h H _ s fun H1 u s1 g1 => by
    obtain ⟨a, rfl, da⟩ := hd H1 u (s.trans s1) g1
    exact ⟨a, d, rfl, da, h1, h2, h3, q H1 _ s1 rfl⟩
theorem t_neS {te' : TE} {x : Str} (h : Gives H0 te (gEq (.str x)) σ) (h' : Gives H0 te' (gEq (.str x)) σ) : GivesT H0 (tTest (tOp rNe te te')) false σ := fun H Q s q =>
  h H _ s fun H1 u s1 e1 => h' H1 _ (s.trans s1) fun H2 u' s2 e2 => by
    have e1 : u = .str x := e1
    have e2 : u' = .str x := e2
    subst e1
    subst e2
    refine ⟨rfl, _, rfl, ?_⟩
    rw [decide_eq_true rfl]
    exact q H2 (s1.trans s2)
theorem dp_bools {H : Hp} : ∀ bs : List Bool, DpAll K H (bs.map V.bl) (bs.map PyData.bool)
  | [] => .nil
  | b :: bs => .cons (.bl b) (dp_bools bs)
theorem eqv_bools : ∀ bs : List Bool, PyData.eqvAll (bs.map PyData.bool) (bs.map PyData.bool) = true
  | [] => by simp [PyData.eqvAll]
  | b :: bs => by simp [PyData.eqvAll, PyData.eqv, eqv_bools bs]
theorem lay_bools : ∀ bs : List Bool, PyData.canLayAll0 (bs.map PyData.bool) = true
  | [] => by simp [PyData.canLayAll0]
  | b :: bs => by simp [PyData.canLayAll0, PyData.canLay0, lay_bools bs]
theorem depth_bools : ∀ bs : List Bool, PyData.depthAll (bs.map PyData.bool) = 0
  | [] => by simp [PyData.depthAll]
  | b :: bs => by simp [PyData.depthAll, PyData.depth, depth_bools bs]
theorem shaped_bools (bs : List Bool) : SeqAt.shaped (.list (bs.map PyData.bool)) = true := by
  show (PyData.canLay0 (.list (bs.map .bool)) && decide (PyData.depth (.list (bs.map .bool)) ≤ 64)) = true
  simp [PyData.canLay0, PyData.depth, lay_bools, depth_bools]
theorem all_bl {H : Hp} : ∀ {bs : List Bool} {us : List V}, AllG (bs.map fun b => gEq (.bl b)) H us → us = bs.map V.bl
  | [], _, .nil => rfl
  | _ :: _, _, .cons h t => by
    have h : _ = V.bl _ := h
    rw [h, all_bl t]
    rfl
theorem t_neB {te' : TE} {bs : List Bool} (h : Gives H0 te (gLst (bs.map fun b => gEq (.bl b))) σ) (h' : Gives H0 te' (gLst (bs.map fun b => gEq (.bl b))) σ) :
    GivesT H0 (tTest (tOp (rNeD K) te te')) false σ := fun H Q s q =>
  h H _ s fun H1 u s1 ⟨p1, us1, e1, l1, g1⟩ => h' H1 _ (s.trans s1) fun H2 u' s2 ⟨p2, us2, e2, l2, g2⟩ => by
    subst e1
    subst e2
    rw [all_bl g1] at l1
    rw [all_bl g2] at l2
    refine ⟨_, _, .lst (.inl (.inl (s2 _ _ l1))) (dp_bools bs), .lst (.inl (.inl l2)) (dp_bools bs), shaped_bools bs, shaped_bools bs, _, rfl, ?_⟩
    have z : PyData.eqv (.list (bs.map .bool)) (.list (bs.map .bool)) = true := by
      simp only [PyData.eqv]
      exact eqv_bools bs
    rw [z]
    exact q H2 (s1.trans s2)
theorem t_isB {i : Nat} {e C : Addr} {D : Value} {b : Bool} (hv : σ[i]? = some (some (.ref e))) (he : ErrAt H0 C e) (T : ErrC K C) (k : PySem.W.kitOne K (.ref C) D = some b) :
    GivesT H0 (tB (tIs K i D)) b σ := fun H Q s q => ⟨e, C, b, hv, he.mono s, T, k, b, rfl, q H Same.rfl'⟩
theorem t_not {tt : TT} {b : Bool} (h : GivesT H0 tt b σ) : GivesT H0 (tNot tt) (!b) σ := fun H Q s q => h H _ s q
theorem t_orF {tt uu : TT} (h : GivesT H0 tt false σ) (k : GivesT H0 uu false σ) : GivesT H0 (tOr tt uu) false σ := fun H Q s q =>
  h H _ s fun H1 s1 => iteF (k H1 Q (s.trans s1) fun H2 s2 => q H2 (s1.trans s2))
end
section
variable {X : Cx} {x : Str} {S : Addr} {p pos : Pos}
/-- S() of an own class of errors without an __init__ of its own -/
def tMk0 (S : Addr) : TE := fun _ H Q => ∀ a, H a = none → Q (.ref a) (upd H a (exo a S none))
theorem pe_se0 (q : PySem.W.excIn X.K S [.type "ValueError", .type "Exception", .type "BaseException", .type "object"] "ValueError.__new__" = true)
    (gC : X.mg x = some (.ref S)) (kC : PySem.W.keepIn X.K (.ref S) = true) (hg : Gl X x := by rfl) (hdb : (x == ("__debug__" : Str)) = false := by decide) :
    PE X (.Call (.Name x p) [] [] pos) (tMk0 S) := by
  constructor
  intro pins s σ H Q I h
  refine wpAny_Call_Name_kw (ld_glob I hg gC ?_ hdb)
  refine PySem.W.callWith_K0 I.kIn kC ?_
  obtain ⟨bm, N, nm, qn, bs, hdct, sn, sub, ab, col, dd, k0, k1, k2, k3, k5, mN, hC, hN, hni, T⟩ := exc_obj I.kIn q
  obtain ⟨hp, g, dr, tk, os⟩ := s
  refine wpAny_call_exc_subT F.excBase_ValueError T hC hN hni (fun h' a hm => ?_) (by show 0 ≤ sizeLine; exact Nat.zero_le _)
  have hn : H a = none := I.hok.gone hm.new
  obtain ⟨t, ht, _, _⟩ := hm.there
  exact ⟨.ref a, upd H a (exo a S none), I.laidN (t' := tk) hm.keeps hm.new hn (exo_ok ht), rfl, h a hn⟩
theorem g_se0 {H0 : Hp} {σ : L2.St} : Gives H0 (tMk0 S) (gErr S) σ := fun H Q _ q a na =>
  q _ _ (same_put na) ⟨a, rfl, none, upd_same, fun d z => nomatch z⟩
end
end Ev

/-! ## The law's own def -/
namespace Ev
open PySem PySem.Spec PyProof.Rows L2
abbrev NL : List Str := ["_law_script", "_law_pot_here", "_law_some", "_law_thing", "_law_made_here", "_law_error", "_law_errors", "_law_at", "_law_turn", "_law_held_here", "_law_spot"]
theorem scLaw : FnScope NL ["_law_script"] (defScope (topS 22)) := ⟨rfl, rfl, rfl, by decide +kernel, rfl, by decide +kernel, by decide +kernel⟩
section
variable {K : PySem.W.Frag} {p : Addr} {H0 : Hp} {σ : L2.St}
theorem g_nonD : Gives H0 (tC .non) (gDa K p .none) σ := g_c fun _ => Da.non
theorem g_blD {b : Bool} : Gives H0 (tC (.bl b)) (gDa K p (.bool b)) σ := g_c fun _ => Da.bl b
theorem g_intD {i : Int} : Gives H0 (tC (.int i)) (gDa K p (.int i)) σ := g_c fun _ => Da.int i
theorem g_strD {x : Str} : Gives H0 (tC (.str x)) (gDa K p (.str x)) σ := g_c fun _ => Da.str x
end
def ds14 : List PyData := [.none, .bool true, .bool false, .int 0, .int (-1), .int (10 ^ (40 : Int).toNat), .str "", .str "text", .tuple [], .list [], .dict [],
  .tuple [.str "line", .str "a", .int 1], .list [.int 1, .list [.int 2]], .dict [(.str "a", .tuple [.none])]]
theorem ok14B : (ds14.all fun d => d.showable && (decide (d.depth ≤ 4) && decide (d.shown.length ≤ 100))) = true := by decide +kernel
theorem ok14 {d : PyData} (h : d ∈ ds14) : d.showable = true ∧ d.depth ≤ 4 ∧ d.shown.length ≤ 100 := by
  have z := List.all_eq_true.mp ok14B d h
  simpa using z
theorem sum_le_all (m : Nat) : ∀ l : List Nat, (∀ n ∈ l, n ≤ m) → l.sum ≤ m * l.length
  | [], _ => by simp
  | n :: l, h => by
    have h1 := h n (List.mem_cons_self ..)
    have h2 := sum_le_all m l fun k hk => h k (List.mem_cons_of_mem _ hk)
    rw [List.sum_cons, List.length_cons, Nat.mul_succ]
    omega
theorem shownAll_rep (d : PyData) : ∀ n : Nat, PyData.shownAll (List.replicate n d) = List.replicate n d.shown
  | 0 => by simp [PyData.shownAll]
  | n + 1 => by rw [List.replicate_succ, List.replicate_succ, PyData.shownAll, shownAll_rep d n]
theorem showable_rep {d : PyData} (h : d.showable = true) : ∀ n : Nat, PyData.showableAll (List.replicate n d) = true
  | 0 => by simp [PyData.showableAll]
  | n + 1 => by rw [List.replicate_succ, PyData.showableAll, h, showable_rep h n]; rfl
theorem depth_rep (d : PyData) : ∀ n : Nat, PyData.depthAll (List.replicate n d) ≤ d.depth
  | 0 => by simp [PyData.depthAll]
  | n + 1 => by
    rw [List.replicate_succ, PyData.depthAll]
    have z := depth_rep d n
    omega
theorem rep20 {d : PyData} (h : d ∈ ds14) : (PyData.list (List.replicate 20 d)).showable = true ∧ (PyData.list (List.replicate 20 d)).depth ≤ 64 ∧ (PyData.list (List.replicate 20 d)).shown.length ≤ sizeLine := by
  obtain ⟨h1, h2, h3⟩ := ok14 h
  refine ⟨by rw [PyData.showable]; exact showable_rep h1 20, ?_, ?_⟩
  · rw [PyData.depth]
    have z := depth_rep d 20
    omega
  · rw [PyData.shown, shownAll_rep]
    have z := listText_len_le (List.replicate 20 d.shown)
    have y : ((List.replicate 20 d.shown).map (·.length)).sum ≤ 100 * ((List.replicate 20 d.shown).map (·.length)).length := by
      refine sum_le_all 100 _ fun n hn => ?_
      rw [List.map_replicate] at hn
      rw [List.eq_of_mem_replicate hn]
      exact h3
    rw [List.length_map, List.length_replicate] at y
    rw [List.length_replicate] at z
    have w := sizeLine_eq
    omega
theorem da_rep {K : PySem.W.Frag} {H : Hp} {v : V} {d : PyData} (h : Da K H v d) : ∀ n : Nat, DaAll K H (List.replicate n v) (List.replicate n d)
  | 0 => .nil
  | n + 1 => .cons h (da_rep h n)
theorem mem_all {H : Hp} : ∀ {Gs : List GP} {us : List V}, AllG Gs H us → ∀ v ∈ us, ∃ G ∈ Gs, G.p H v
  | _, _, .nil, _, h => nomatch h
  | G :: _, _, .cons h t, v, hv => by
    rcases List.mem_cons.mp hv with rfl | hv
    · exact ⟨G, List.mem_cons_self .., h⟩
    · obtain ⟨G', h1, h2⟩ := mem_all t v hv
      exact ⟨G', List.mem_cons_of_mem _ h1, h2⟩
/-- the pairs that _law_made gives: the errors' places -/
theorem mades_split {H : Hp} {v : V} : ∀ {Cs : List Addr} {us : List V}, AllG (Cs.map (gMade v)) H us → ∃ es : List Addr, es.length = us.length ∧
    (∀ (j : Nat) (u : V) (e : Addr), us[j]? = some u → es[j]? = some e → ∃ t, u = .ref t ∧ H t = some (.tup [.ref e, v])) ∧ AllG (Cs.map gErr) H (es.map V.ref)
  | [], _, .nil => ⟨[], rfl, fun j u e h => by simp at h, .nil⟩
  | C :: Cs, u0 :: us, .cons h t => by
    obtain ⟨es, h1, h2, h3⟩ := mades_split t
    obtain ⟨t0, e0, rfl, ht, he⟩ := h
    refine ⟨e0 :: es, by simp [h1], fun j u e a b => ?_, .cons ⟨e0, rfl, he⟩ h3⟩
    cases j with
    | zero =>
      simp at a b
      subst a
      subst b
      exact ⟨t0, rfl, ht⟩
    | succ j => exact h2 j u e (by simpa using a) (by simpa using b)
theorem all_eq {H : Hp} : ∀ {ys us : List V}, AllG (ys.map gEq) H us → us = ys
  | [], _, .nil => rfl
  | _ :: _, _, .cons h t => by
    have h : _ = _ := h
    rw [h, all_eq t]
theorem errs_at {H : Hp} : ∀ {Cs : List Addr} {us : List V}, AllG (Cs.map gErr) H us → us.length = Cs.length ∧ ∀ (k : Nat) (u : V), us[k]? = some u → ∃ C e, Cs[k]? = some C ∧ u = .ref e ∧ ErrAt H C e
  | [], _, .nil => ⟨rfl, fun k u h => by simp at h⟩
  | C :: Cs, u0 :: us, .cons h t => by
    obtain ⟨h1, h2⟩ := errs_at t
    refine ⟨by simp [h1], fun k u a => ?_⟩
    cases k with
    | zero =>
      simp at a
      subst a
      obtain ⟨e, h3, h4⟩ := h
      exact ⟨C, e, rfl, h3, h4⟩
    | succ k => exact h2 k u (by simpa using a)
/-- what isinstance answers, for all the thirteen -/
def kits (K : PySem.W.Frag) (S : Addr) (Ds : List Addr) : Bool :=
  ((List.range 13).all fun k => ((List.range 13).all fun n => PySem.W.kitOne K (.ref (Ds.getD k 0)) (.ref (Ds.getD n 0)) == some (decide (n = k))) &&
    (PySem.W.kitOne K (.ref (Ds.getD k 0)) (.ref S) == some true && PySem.W.kitOne K (.ref (Ds.getD k 0)) (.type "ValueError") == some true)) &&
  PySem.W.kitAny K (.ref S) [.ref (Ds.getD 1 0), .ref (Ds.getD 7 0), .ref (Ds.getD 10 0), .ref (Ds.getD 12 0)] == some false
theorem kits_use {K : PySem.W.Frag} {S : Addr} {Ds : List Addr} (h : kits K S Ds = true) :
    (∀ k n, k < 13 → n < 13 → PySem.W.kitOne K (.ref (Ds.getD k 0)) (.ref (Ds.getD n 0)) = some (decide (n = k))) ∧
    (∀ k, k < 13 → PySem.W.kitOne K (.ref (Ds.getD k 0)) (.ref S) = some true ∧ PySem.W.kitOne K (.ref (Ds.getD k 0)) (.type "ValueError") = some true) ∧
    PySem.W.kitAny K (.ref S) [.ref (Ds.getD 1 0), .ref (Ds.getD 7 0), .ref (Ds.getD 10 0), .ref (Ds.getD 12 0)] = some false := by
  unfold kits at h
  rw [Bool.and_eq_true, List.all_eq_true] at h
  obtain ⟨h1, h2⟩ := h
  refine ⟨fun k n hk hn => ?_, fun k hk => ?_, beq_iff_eq.mp h2⟩
  · have z := h1 k (List.mem_range.mpr hk)
    rw [Bool.and_eq_true, List.all_eq_true] at z
    exact beq_iff_eq.mp (z.1 n (List.mem_range.mpr hn))
  · have z := h1 k (List.mem_range.mpr hk)
    rw [Bool.and_eq_true, Bool.and_eq_true] at z
    exact ⟨beq_iff_eq.mp z.2.1, beq_iff_eq.mp z.2.2⟩
structure LawT (K : PySem.W.Frag) (mg : Str → Option Value) (S c2 c3 c4 c5 c7 c8 c9 c10 c13 c14 c6 c11 c12 : Addr) : Prop where
  B : BaseT K mg S
  TS : ErrC K S
  qS : PySem.W.excIn K S [.type "ValueError", .type "Exception", .type "BaseException", .type "object"] "ValueError.__new__" = true
  kt : kits K S [c2, c3, c4, c5, c7, c8, c9, c10, c13, c14, c6, c11, c12] = true
  ts : ∀ C ∈ [c2, c3, c4, c5, c7, c8, c9, c10, c13, c14, c6, c11, c12], ErrC K C
  mR : mg "range" = none
  mP : mg "repr" = none
  mE : mg "enumerate" = none
  mI : mg "isinstance" = none
  mV : mg "ValueError" = none
def spLaw (K : PySem.W.Frag) : Sp := fun vs H Q _ => ∃ (a : Addr) (ns : List Int), vs = [.ref a] ∧ SqL K H a (ns.map V.int) ∧ ∀ H', Q (.bl true) H'
section
variable {P : Program} {w : World} {K : PySem.W.Frag} {mg : Str → Option Value} {base : Heap} {S c2 c3 c4 c5 c7 c8 c9 c10 c13 c14 c6 c11 c12 : Addr} {f fP fO fM fH fK : Addr} {fd fdP fdO fdM fdH fdK : FuncData}
theorem ok_law (F : Fun K "law" "law" (topS 22) f fd) (T : LawT K mg S c2 c3 c4 c5 c7 c8 c9 c10 c13 c14 c6 c11 c12) (R : Errs P w K mg base c2 c3 c4 c5 c7 c8 c9 c10 c13 c14 c6 c11 c12) (hm : ∃ mm, base.Ns sysModules mm)
    (GP' : FnOk P w K mg base CX0 1 fP fdP ["_law_script", "_law_k"] (spPot K)) (bP : Binds K fdP ["_law_script", "_law_k"] []) (gP : mg "_law_pot" = some (.ref fP)) (kP : PySem.W.keepIn K (.ref fP) = true)
    (GO : FnOk P w K mg base CX0 2 fO fdO ["_law_pot_here", "_law_some"] (spOf K)) (bO : Binds K fdO ["_law_pot_here", "_law_some"] []) (gO : mg "_law_of" = some (.ref fO)) (kO : PySem.W.keepIn K (.ref fO) = true)
    (GM : FnOk P w K mg base CX0 3 fM fdM ["_law_thing"] (spMade [c2, c3, c4, c5, c7, c8, c9, c10, c13, c14])) (bM : Binds K fdM ["_law_thing"] []) (gM : mg "_law_made" = some (.ref fM)) (kM : PySem.W.keepIn K (.ref fM) = true)
    (GH : FnOk P w K mg base CX0 3 fH fdH ["_law_thing"] spHeld) (bH : Binds K fdH ["_law_thing"] []) (gH : mg "_law_held" = some (.ref fH)) (kH : PySem.W.keepIn K (.ref fH) = true)
    (GK : FnOk P w K mg base CX0 1 fK fdK ["_law_error"] (spMarks K [c2, c3, c4, c5, c7, c8, c9, c10, c13, c14, c6, c11, c12])) (bK : Binds K fdK ["_law_error"] []) (gK : mg "_law_marks" = some (.ref fK)) (kK : PySem.W.keepIn K (.ref fK) = true) :
    FnG P w K mg base CX0 4 f fd ["_law_script"] (spLaw K) := by
  refine okG F scLaw (fun vs H Q E h => ?_) (fun cdv A outer s H vs Q E hr gd h => ?_)
  · obtain ⟨a, ns, rfl, _⟩ := h
    rfl
  · obtain ⟨a, ns, rfl, hS, q⟩ := h
    obtain ⟨fI2, fd2, Z2⟩ := R.e2
    obtain ⟨fI3, fd3, Z3⟩ := R.e3
    obtain ⟨fI4, fd4, Z4⟩ := R.e4
    obtain ⟨fI5, fd5, Z5⟩ := R.e5
    obtain ⟨fI7, fd7, Z7⟩ := R.e7
    obtain ⟨fI8, fd8, Z8⟩ := R.e8
    obtain ⟨fI9, fd9, Z9⟩ := R.e9
    obtain ⟨fI10, fd10, Z10⟩ := R.e10
    obtain ⟨fI13, fd13, Z13⟩ := R.e13
    obtain ⟨fI14, fd14, Z14⟩ := R.e14
    obtain ⟨fI6, fd6, Z6⟩ := R.e6
    obtain ⟨fI11, fd11, Z11⟩ := R.e11
    obtain ⟨fI12, fd12, Z12⟩ := R.e12
    have hr1 : Room 1 _ := hr.mono (by decide)
    have hr2 : Room 2 _ := hr.mono (by decide)
    have hu : (A.deeper (envOfC "law" (defScope (topS 22)) s.heap.objs.size f cdv)).units + 70 < cLine := by
      have z := hr.un
      omega
    have hu64 : (A.deeper (envOfC "law" (defScope (topS 22)) s.heap.objs.size f cdv)).units + 64 < cLine := by omega
    refine ⟨_, pss_cons (ps_set (i := 1) scLaw.nd rfl (.inr rfl) (pe_call GP' hr1 (by rfl) gP kP bP .nil pass0 (pa_cons (pv 0) (pa_cons pe_int pa_nil))))
      (pss_cons (ps_set (i := 2) scLaw.nd rfl (.inr rfl) (pe_lst (pa_cons pe_non (pa_cons pe_bl (pa_cons pe_bl (pa_cons pe_int (pa_cons (pe_un un_neg pe_int) (pa_cons (pe_op op_pow pe_int pe_int) (pa_cons pe_str (pa_cons pe_str
        (pa_cons (pe_tup pa_nil) (pa_cons (pe_lst pa_nil) (pa_cons pe_dnewK (pa_cons (pe_tup (pa_cons pe_str (pa_cons pe_str (pa_cons pe_int pa_nil))))
        (pa_cons (pe_lst (pa_cons pe_int (pa_cons (pe_lst (pa_cons pe_int pa_nil)) pa_nil))) (pa_cons (pe_disp (pps_cons pe_str (pe_tup (pa_cons pe_non pa_nil)) pps_nil) rfl rfl (by simp) (by decide)) pa_nil))))))))))))))))
      (pss_cons (ps_for PassesOwn.never rfl (pi_list (pe_lc (own := [("_law_turn", 8)]) (g := gName 8) (tt := tYes) rfl scLaw.nd (pi_range1 rfl T.mR (pa_cons pe_int pa_nil)) (blkOk_by (N := NL) (sc := defScope (topS 22)) (by decide +kernel))
          (fun _ _ _ _ _ => pg_name (i := 8) scLaw.nd rfl (Or.inl rfl)) (fun _ _ _ _ _ => pts_nil) (fun _ _ _ _ _ => pe_call GO hr2 (by rfl) gO kO bO .nil pass0 (pa_cons (pv 1) (pa_cons (pv 2) pa_nil)))))
        (pg_name (i := 3) scLaw.nd rfl (.inl rfl))
        (pss_cons (ps_set (i := 4) scLaw.nd rfl (.inl rfl) (pe_call GM hr (by rfl) gM kM bM .nil pass0 (pa_cons (pv 3) pa_nil)))
        (pss_cons (ps_set (i := 6) scLaw.nd rfl (.inl rfl) (pe_op op_cat (pe_lc (own := [("_law_error", 5), ("_law_held_here", 9)]) (g := gTup K 2 (gCons (gName 5) (gCons (gName 9) gNil))) (tt := tYes) (te := tVar 5) rfl scLaw.nd (pi_list (pv 4)) (blkOk_by (N := NL) (sc := defScope (topS 22)) (by decide +kernel))
          (fun _ _ _ _ _ => pg_tup rfl (pgs_cons (pg_name (i := 5) scLaw.nd rfl (Or.inl rfl)) (pgs_cons (pg_name (i := 9) scLaw.nd rfl (Or.inl rfl)) pgs_nil))) (fun _ _ _ _ _ => pts_nil) (fun _ _ _ _ _ => pv 5))
          (pe_lst (pa_cons (pe_none0 Z6 hr2) (pa_cons (pe_none0 Z11 hr2) (pa_cons (pe_none0 Z12 hr2) pa_nil))))))
        (pss_cons (ps_if (pt_cmpR op_ne (pe_callB (call_repr hm gd hu) (by rfl) T.mP (by decide +kernel) (pa_cons (pe_op op_cat (pe_lc (own := [("_law_error", 5), ("_law_held_here", 9)]) (g := gTup K 2 (gCons (gName 5) (gCons (gName 9) gNil))) (tt := tYes) (te := tVar 9) rfl scLaw.nd (pi_list (pv 4)) (blkOk_by (N := NL) (sc := defScope (topS 22)) (by decide +kernel))
          (fun _ _ _ _ _ => pg_tup rfl (pgs_cons (pg_name (i := 5) scLaw.nd rfl (Or.inl rfl)) (pgs_cons (pg_name (i := 9) scLaw.nd rfl (Or.inl rfl)) pgs_nil))) (fun _ _ _ _ _ => pts_nil) (fun _ _ _ _ _ => pv 9))
            (pe_call GH hr (by rfl) gH kH bH .nil pass0 (pa_cons (pv 3) pa_nil))) pa_nil))
          (pe_callB (call_repr hm gd hu) (by rfl) T.mP (by decide +kernel) (pa_cons (pe_op op_rep (pe_lst (pa_cons (pv 3) pa_nil)) pe_int) pa_nil)) (nomark _)) (pss_one (ps_ret pe_bl)) pss_nil)
        (pss_cons (ps_for PassesOwn.never rfl (pi_enum (by rfl) T.mE (pa_cons (pv 6) pa_nil))
          (pg_tup rfl (pgs_cons (pg_name (i := 7) scLaw.nd rfl (.inr rfl)) (pgs_cons (pg_name (i := 5) scLaw.nd rfl (.inl rfl)) pgs_nil)))
          (pss_cons (ps_if (pt_cmpR (op_neD hu64) (pe_call GK hr1 (by rfl) gK kK bK .nil pass0 (pa_cons (pv 5) pa_nil))
              (pe_lc (own := [("_law_spot", 10)]) (g := gName 10) (tt := tYes) rfl scLaw.nd (pi_range1 rfl T.mR (pa_cons pe_int pa_nil)) (blkOk_by (N := NL) (sc := defScope (topS 22)) (by decide +kernel))
                (fun _ _ _ _ _ => pg_name (i := 10) scLaw.nd rfl (Or.inl rfl)) (fun _ _ _ _ _ => pts_nil) (fun _ _ _ _ _ => pe_cmpR op_eq (pv 10) (pv 7) (nomark _))) (nomark _)) (pss_one (ps_ret pe_bl)) pss_nil)
          (pss_one (ps_if (PW.pt (pw_or (pt_not (pt_val (pe_is T.mI (fun _ => pv 5) (fun _ => pe_glob (v := .ref S) rfl T.B.g (show RelV (.ref S) (.ref S) from rfl)) (.own S))))
            (pw_or1 (pt_not (pt_val (pe_is T.mI (fun _ => pv 5) (fun _ => pe_bltn (v := .ty "ValueError") rfl T.mV (by decide +kernel) (show RelV (.ty "ValueError") (.type "ValueError") from rfl)) (.ty "ValueError"))))))) (pss_one (ps_ret pe_bl)) pss_nil))))
        (pss_one (ps_if (pt_val (pe_callB call_isXT (by rfl) T.mI (by decide +kernel) (pa_cons (pe_se0 T.qS T.B.g T.TS.ox.kC) (pa_cons (pe_tup (pa_cons (pe_glob (v := .ref c3) rfl Z3.g (show RelV (.ref c3) (.ref c3) from rfl)) (pa_cons (pe_glob (v := .ref c10) rfl Z10.g (show RelV (.ref c10) (.ref c10) from rfl)) (pa_cons (pe_glob (v := .ref c6) rfl Z6.g (show RelV (.ref c6) (.ref c6) from rfl)) (pa_cons (pe_glob (v := .ref c12) rfl Z12.g (show RelV (.ref c12) (.ref c12) from rfl)) pa_nil))))) pa_nil)))) (pss_one (ps_ret pe_bl)) pss_nil)))))))
      (pss_one (ps_ret pe_bl)))), ?_⟩
    -- the pot
    refine ⟨_, rfl, a, ns, 0, rfl, hS, by decide, by decide, fun p xs np hx => ?_⟩
    have hp1 : upd H p (.lst xs) p = some (.lst xs) := upd_same
    -- the values
    refine s_set (G := gLst (ds14.map (gDa K p))) (g_lst (g_cons g_nonD (g_cons g_blD (g_cons g_blD (g_cons g_intD (g_cons g_neg (g_cons (g_pow ⟨by decide, by decide, by decide⟩) (g_cons g_strD (g_cons g_strD
        (g_cons (g_tupD hp1 (ds := []) g_nil) (g_cons (g_lstD hp1 (ds := []) g_nil) (g_cons (g_dnew hp1) (g_cons (g_tupD hp1 (ds := [.str "line", .str "a", .int 1]) (g_cons g_strD (g_cons g_strD (g_cons g_intD g_nil))))
        (g_cons (g_lstD hp1 (ds := [.int 1, .list [.int 2]]) (g_cons g_intD (g_cons (g_lstD hp1 (ds := [.int 2]) (g_cons g_intD g_nil)) g_nil))) (g_cons (g_disp hp1) g_nil)))))))))))))) (by show 14 ≤ 1000; decide)) fun H2 u2 s2 g2 => ?_
    obtain ⟨r, zs, rfl, hr0, az⟩ := g2
    have hlz : zs.length = 14 := by
      have z := Paired.length az
      rw [← z]
      rfl
    have hp2 : H2 p = some (.lst xs) := s2 _ _ hp1
    have npr : p ≠ r := fun z => by
      rw [← z, hp2] at hr0
      cases hr0
      obtain ⟨x0, y0, c0, e0, _⟩ := hx
      rw [e0] at hlz
      have z3 : (3 : Nat) = 14 := hlz
      exact absurd z3 (by decide)
    have pz : ∀ v ∈ zs, ∃ d ∈ ds14, Da K (but H2 p) v d := fun v hv => by
      obtain ⟨G, h1, h2⟩ := mem_all az v hv
      obtain ⟨d, h3, h4⟩ := List.mem_map.mp h1
      subst h4
      exact ⟨d, h3, h2⟩
    -- the three things
    refine ⟨3, rfl, by decide, by decide, fun D nD => ?_⟩
    have npD : p ≠ D := ne_of_none hp2 nD
    have nrD : r ≠ D := ne_of_none hr0 nD
    refine lc_range (lo := 0) (n := 3) (fun i H' => ∃ (xs' : List V) (acc : List V) (m : Nat), H' p = some (.lst xs') ∧ PotL m xs' ∧ m ≤ i ∧ H' D = some (.lst acc) ∧ acc.length = i ∧ (∀ v ∈ acc, v ∈ zs) ∧ Bu p H2 H')
      ⟨xs, [], 0, by rw [upd_ne npD]; exact hp2, hx, Nat.le_refl 0, upd_same, rfl, fun v hv => (nomatch hv), Bu.new nD⟩ ?_ ?_
    · rintro i H' hi ⟨xs', acc, m, hp', hx', hm', hD', hl', ha', hb'⟩
      refine ⟨rfl, ?_⟩
      have hr' : H' r = some (.lst zs) := hb' _ _ (Ne.symm npr) hr0
      refine ⟨_, rfl, _, rfl, p, r, xs', zs, m, rfl, hp', hx', by omega, npr, .inl (.inl hr'), fun z => ?_, by omega, fun H4 ys v hb hy hY hv => ?_⟩
      · rw [z] at hlz
        exact absurd hlz (by decide)
      · have hD4 : H4 D = some (.lst acc) := hb _ _ (Ne.symm npD) hD'
        have y := sizeLine_eq
        refine ⟨acc, hD4, by omega, ys, acc ++ [v], m + 1, by rw [upd_ne npD]; exact hy, hY, by omega, upd_same, by rw [List.length_append, hl']; rfl, fun u hu => ?_, ?_⟩
        · rcases List.mem_append.mp hu with h | h
          · exact ha' u h
          · rw [List.mem_singleton.mp h]
            exact hv
        · intro b o nb e
          have nbD : b ≠ D := ne_of_none e nD
          rw [upd_ne nbD]
          exact hb _ _ nb (hb' _ _ nb e)
    · rintro H3 ⟨xs', acc, m, hp', hx', hm', hD', hl', ha', hb'⟩
      have hbs : Same (but H2 p) H3 := but_le hb'
      refine ⟨D, rfl, ⟨_, .inl (.inl hD')⟩, for_list (K := K) (a := D) (xs := acc) (fun i σ' H' => ∃ y3 y4 y5 y6 y7 y8 y9 y10, σ' = [some (.ref a), some (.ref p), some (.ref r), y3, y4, y5, y6, y7, y8, y9, y10] ∧ Same H3 H')
        ⟨_, _, _, _, _, _, _, _, rfl, Same.rfl'⟩ (fun i σ' H' _ ⟨_, _, _, _, _, _, _, _, _, sA⟩ => sA.seq (.inl (.inl hD'))) ?_ (fun σ' H' _ => q H')⟩
      rintro i y σ' HA hi ⟨y3, y4, y5, y6, y7, y8, y9, y10, rfl, sA⟩
      obtain ⟨d, hd14, hda⟩ := pz y (ha' y (List.mem_of_getElem? hi))
      have hdA : Da K HA y d := hda.mono (hbs.trans sA)
      -- made
      refine ⟨_, rfl, y, rfl, fun H4 u4 s4 g4 => ?_⟩
      obtain ⟨m4, us, rfl, hm4, am⟩ := g4
      obtain ⟨es, le, hpr, aE⟩ := mades_split am
      have hus : us.length = 10 := (Paired.length am).symm
      -- errors
      have hA : Gives H4 (tLc (iList K (tVar 4)) (gTup K 2 (gCons (gName 5) (gCons (gName 9) gNil))) tYes (tVar 5) [5, 9]) (gLst (([c2, c3, c4, c5, c7, c8, c9, c10, c13, c14]).map gErr))
          [some (.ref a), some (.ref p), some (.ref r), some y, some (.ref m4), y5, y6, y7, y8, y9, y10] := fun HB QB sB qB => by
        refine (g_lcP (ys := es.map V.ref) (H0 := H4) rfl (.inl (.inl hm4)) (by omega) (by rw [List.length_map]; exact le) ?_) HB QB sB ?_
        · intro j x y' hx hy H R sH hR
          rw [List.getElem?_map] at hy
          cases hej : es[j]? with
          | none =>
            rw [hej] at hy
            cases hy
          | some e =>
            rw [hej] at hy
            cases hy
            obtain ⟨t, rfl, ht⟩ := hpr j x e hx hej
            exact ⟨t, [.ref e, y], rfl, .inl (.inl (sH _ _ ht)), rfl, .ref e, [y], rfl, y, [], rfl, rfl, rfl, _, rfl, hR⟩
        · rintro HC uC sC ⟨pC, uu, e1, e2, e3⟩
          refine qB HC uC sC ⟨pC, uu, e1, e2, ?_⟩
          have e4 : uu = es.map V.ref := all_eq e3
          rw [e4]
          exact aE.mono (sB.trans sC)
      have hB := g_cat hA (g_lst (g_cons (g_none0 (C := c6)) (g_cons (g_none0 (C := c11)) (g_cons (g_none0 (C := c12)) g_nil))))
      refine s_set (i := 6) hB fun H5 u5 s5 g5 => ?_
      obtain ⟨l5, ws, rfl, hl5, a5⟩ := g5
      have a5' : AllG (([c2, c3, c4, c5, c7, c8, c9, c10, c13, c14, c6, c11, c12]).map gErr) H5 ws := a5
      obtain ⟨hws, hat⟩ := errs_at a5'
      have hws : ws.length = 13 := hws
      -- the values that are held
      have hC9 : Gives H5 (tLc (iList K (tVar 4)) (gTup K 2 (gCons (gName 5) (gCons (gName 9) gNil))) tYes (tVar 9) [5, 9]) (gLst ((List.replicate 10 y).map gEq))
          [some (.ref a), some (.ref p), some (.ref r), some y, some (.ref m4), y5, some (.ref l5), y7, y8, y9, y10] := by
        refine g_lcP (xs := us) (ys := List.replicate 10 y) rfl (.inl (.inl (s5 _ _ hm4))) (by omega) (by rw [List.length_replicate]; omega) ?_
        intro j x y' hx hy H R sH hR
        obtain ⟨hj, _⟩ := List.getElem?_eq_some_iff.mp hx
        have ey : y' = y := List.eq_of_mem_replicate (List.mem_of_getElem? hy)
        subst ey
        have hej : es[j]? = some (es[j]'(by omega)) := List.getElem?_eq_getElem (by omega)
        obtain ⟨t, rfl, ht⟩ := hpr j x _ hx hej
        exact ⟨t, [.ref _, y'], rfl, .inl (.inl (sH _ _ (s5 _ _ ht))), rfl, .ref _, [y'], rfl, y', [], rfl, rfl, rfl, _, rfl, hR⟩
      have hH : Gives H5 (tCall spHeld [] E0 (tCons (tVar 3) tNil)) (gLst (List.replicate 10 (gEq y)))
          [some (.ref a), some (.ref p), some (.ref r), some y, some (.ref m4), y5, some (.ref l5), y7, y8, y9, y10] :=
        fun H Q s q => ⟨_, rfl, y, rfl, fun H' u s' g => q H' u s' g⟩
      have hL := g_cat hC9 hH (by rw [List.length_map, List.length_replicate, List.length_replicate]; decide)
      have hd5 : ∀ H', Same H5 H' → Da K H' y d := fun H' s' => hdA.mono ((s4.trans s5).trans s')
      obtain ⟨r1, r2, r3⟩ := rep20 hd14
      have hR1 := g_repr (K := K) (d := .list (List.replicate 20 d)) hL (fun H u sH g => by
        obtain ⟨p1, uu, e1, e2, e3⟩ := g
        have e4 : uu = List.replicate 20 y := all_eq (ys := List.replicate 20 y) e3
        subst e1
        subst e4
        exact ⟨p1, rfl, .lst (.inl (.inl e2)) (da_rep (hd5 H sH) 20)⟩) r1 r2 r3
      have hRp : Gives H5 (tOp rRep (tLst (tCons (tVar 3) tNil)) (tC (.int 20))) (gLst ((List.replicate 20 y).map gEq))
          [some (.ref a), some (.ref p), some (.ref r), some y, some (.ref m4), y5, some (.ref l5), y7, y8, y9, y10] := fun H Q s q => by
        refine ⟨_, rfl, (by show 1 ≤ sizeLine; decide), fun t nt => ⟨t, 20, [y], rfl, rfl, upd_same, by decide, by decide, (by show 1 * 20 ≤ sizeLine; decide), fun t2 nt2 => ?_⟩⟩
        exact q _ _ ((same_put nt).trans (same_put nt2)) ⟨t2, List.replicate 20 y, rfl, upd_same, allEq⟩
      have hR2 := g_repr (K := K) (d := .list (List.replicate 20 d)) hRp (fun H u sH g => by
        obtain ⟨p1, uu, e1, e2, e3⟩ := g
        have e4 : uu = List.replicate 20 y := all_eq e3
        subst e1
        subst e4
        exact ⟨p1, rfl, .lst (.inl (.inl e2)) (da_rep (hd5 H sH) 20)⟩) r1 r2 r3
      refine s_skip (t_neS hR1 hR2) fun H6 s6 => ?_
      -- each error by itself
      have hl6 : ∀ H', Same H6 H' → SqL K H' l5 ws := fun H' s' => .inl (.inl (s' _ _ (s6 _ _ hl5)))
      refine ⟨_, rfl, l5, ws, rfl, hl6 H6 Same.rfl', fun k m σ' H' => ∃ z5 z7, σ' = [some (.ref a), some (.ref p), some (.ref r), some y, some (.ref m4), z5, some (.ref l5), z7, y8, y9, y10] ∧ k + m = 13 ∧ Same H6 H',
        ⟨13, _, _, rfl, rfl, Same.rfl'⟩, fun k m σ' H' hW => ?_⟩
      obtain ⟨z5, z7, rfl, hkm, s7⟩ := hW
      by_cases hk : k < 13
      · have hgk : ws[k]? = some (ws[k]'(by omega)) := List.getElem?_eq_getElem (by omega)
        obtain ⟨C, e, hCk, hue, hE⟩ := hat k _ hgk
        rw [hue] at hgk
        refine .inr ⟨⟨ws, _, hl6 H' s7, hgk⟩, fun σ'' H'' => ∃ z5 z7, σ'' = [some (.ref a), some (.ref p), some (.ref r), some y, some (.ref m4), z5, some (.ref l5), z7, y8, y9, y10] ∧ Same H6 H'', fun σ'' H'' hN => ?_, fun x H'' hy => ?_⟩
        · obtain ⟨v5, v7, e1, e2⟩ := hN
          exact ⟨m - 1, by omega, v5, v7, e1, by omega, e2⟩
        · obtain ⟨T0, x', rfl, nT, rfl, hx'⟩ := hy
          have ex : x' = .ref e := Option.some.inj ((hx' _ (hl6 H' s7)).symm.trans hgk)
          subst ex
          have sT : Same H6 (upd H' T0 (.tup [.int (k : Nat), .ref e])) := s7.trans (same_put nT)
          refine ⟨T0, [.int (k : Nat), .ref e], rfl, .inl (.inl upd_same), rfl, .int (k : Nat), [.ref e], rfl, .ref e, [], rfl, rfl, ?_⟩
          have hE' := hE.mono (s6.trans sT)
          obtain ⟨k1, k2, k3⟩ := kits_use T.kt
          have hC : ([c2, c3, c4, c5, c7, c8, c9, c10, c13, c14, c6, c11, c12]).getD k 0 = C := by
            rw [List.getD_eq_getElem?_getD, hCk]
            rfl
          have TC : ErrC K C := T.ts C (List.mem_of_getElem? hCk)
          have hK : Gives (upd H' T0 (.tup [.int (k : Nat), .ref e])) (tCall (spMarks K [c2, c3, c4, c5, c7, c8, c9, c10, c13, c14, c6, c11, c12]) [] E0 (tCons (tVar 5) tNil)) (gLst (((List.range 13).map fun n => decide (n = k)).map fun b => gEq (.bl b)))
              [some (.ref a), some (.ref p), some (.ref r), some y, some (.ref m4), some (.ref e), some (.ref l5), some (.int (k : Nat)), y8, y9, y10] := fun H Q s q => by
            refine ⟨_, rfl, e, C, (List.range 13).map (fun n => decide (n = k)), rfl, hE'.mono s, TC, by simp, fun n D b hD hb => ?_, fun H' u s' g => q H' u s' g⟩
            have hn : n < 13 := (List.getElem?_eq_some_iff.mp hD).1
            rw [List.getElem?_map, List.getElem?_range hn] at hb
            cases hb
            have z := k1 k n hk hn
            rw [hC, List.getD_eq_getElem?_getD, hD] at z
            exact z
          have hSp : Gives (upd H' T0 (.tup [.int (k : Nat), .ref e])) (tLc (iRng1 (tCons (tC (.int 13)) tNil)) (gName 10) tYes (tOp rEq (tVar 10) (tVar 7)) [10]) (gLst ((((List.range 13).map fun n => decide (n = k)).map V.bl).map gEq))
              [some (.ref a), some (.ref p), some (.ref r), some y, some (.ref m4), some (.ref e), some (.ref l5), some (.int (k : Nat)), y8, y9, y10] := by
            refine g_lcR ⟨by decide, by decide⟩ (by simp) (by simp) fun j y' hy H R sH hR => ⟨rfl, _, rfl, _, rfl, rfl, ?_⟩
            have hj : j < 13 := by
              have z := (List.getElem?_eq_some_iff.mp hy).1
              simpa using z
            rw [List.getElem?_map, List.getElem?_map, List.getElem?_range hj] at hy
            cases hy
            have z : (V.int (0 + (j : Int)) = V.int (k : Int)) ↔ j = k := ⟨fun h => by
              have w := V.int.inj h
              omega, fun h => by rw [h, Int.zero_add]⟩
            rw [decide_eq_decide.mpr z]
            exact hR
          rw [List.map_map] at hSp
          refine s_skip (t_neB (K := K) hK hSp) fun H8 s8 => ?_
          have hE8 := hE'.mono s8
          have z2 := k2 k hk
          rw [hC] at z2
          refine s_skip1 (t_orF (t_not (b := true) (t_isB rfl hE8 TC z2.1)) (t_not (b := true) (t_isB rfl hE8 TC z2.2))) fun H9 s9 => ?_
          exact ⟨_, _, rfl, (sT.trans s8).trans s9⟩
      · refine .inl ⟨⟨ws, hl6 H' s7, by omega⟩, ?_⟩
        obtain ⟨k1, k2, k3⟩ := kits_use T.kt
        dsimp only
        refine s_skip1 ?_ fun H9 s9 => ?_
        · intro HX QX sX qX x nx
          refine ⟨(by show 4 ≤ sizeLine; decide), fun t nt => ?_⟩
          have nxt : x ≠ t := fun z => by
            rw [← z, upd_same] at nt
            cases nt
          exact ⟨x, S, none, t, _, [.ref c3, .ref c10, .ref c6, .ref c12], false, rfl, by rw [upd_ne nxt, upd_same], fun d z => (nomatch z), T.TS, upd_same, .cons (.own _) (.cons (.own _) (.cons (.own _) (.cons (.own _) .nil))), k3, _, rfl, qX _ ((same_put nx).trans (same_put nt))⟩
        · exact ⟨_, _, _, _, _, _, _, _, rfl, ((((sA.trans s4).trans s5).trans s6).trans s7).trans s9⟩
end
end Ev

/-! ## What the top has written -/
namespace Ev
open PySem PySem.Spec PyProof.Rows L2
open PySem.W (findIn subIn typeIn keepIn specialIn takesIn mroIn clsIn hasDictIn codeIn nsIn excIn readsIn findCls)
def errB (K : PySem.W.Frag) (C : Addr) : Bool :=
  (findIn K (.ref C) "__setattr__" == some (some (.builtin "object.__setattr__"))) && ((subIn K (.ref C) (.type "BaseException") == some true) &&
  ((typeIn K (.ref C) == some (.type "type")) && (keepIn K (.ref C) && ((findIn K (.ref C) "__getattribute__" == some (some (.builtin "BaseException.__getattribute__"))) &&
  ((findIn K (.ref C) "__getattr__" == some none) && ((findIn K (.ref C) "__class__" == some (some (.builtin "object.__class__"))) &&
  ((specialIn K (.builtin "object.__class__") "__get__" == some (some (.builtin "getset_descriptor.__get__"))) && ((takesIn K (.builtin "object.__class__") == some true) &&
  ((mroIn K C (.type "object") == some true) && ((clsIn K C).isSome && hasDictIn K C))))))))))
theorem errB_ok {K : PySem.W.Frag} {C : Addr} (h : errB K C = true)
    (x : ∃ nm q N bs bm sn sub ab col dd k0 k1 k2 k3 k5, K.lookup C = some (excClassObj nm q C N bs bm true sn sub ab col dd k0 k1 k2 k3 k5 "ValueError.__new__") ∧ PySem.HandSPX.refsVE bm = true) : ErrC K C := by
  unfold errB at h
  simp only [Bool.and_eq_true, beq_iff_eq] at h
  obtain ⟨h1, h2, h3, h4, h5, h6, h7, h8, h9, h10, h11, h12⟩ := h
  exact ⟨⟨x, h1, h2, h3, h4⟩, h5, h6, h7, h8, h9, h10, h11, h12⟩
def baseB (K : PySem.W.Frag) (S : Addr) : Bool :=
  (specialIn K (.ref S) "__getattribute__" == some (some (.builtin "type.__getattribute__"))) && (readsIn K S (.type "type") &&
  excIn K S [.type "ValueError", .type "Exception", .type "BaseException", .type "object"] "ValueError.__new__")
def initB (K : PySem.W.Frag) (fI : Addr) (cd : Value) (q : Str) : Bool := (typeIn K (.ref fI) == some (.type "function")) && (codeIn K cd q && keepIn K (.ref fI))
theorem initB_ok {K : PySem.W.Frag} {fI : Addr} {cd : Value} {q : Str} (h : initB K fI cd q = true) : typeIn K (.ref fI) = some (.type "function") ∧ codeIn K cd q = true ∧ keepIn K (.ref fI) = true := by
  unfold initB at h
  simpa only [Bool.and_eq_true, beq_iff_eq] using h
theorem all_mk {P : Program} {w : World} {K : PySem.W.Frag} {h : Heap} {mg : Str → Option Value} {fa S c2 c3 c4 c5 c7 c8 c9 c10 c13 c14 c6 c11 c12 : Addr} (X : K.In h) (G : h.Ns mainGlobals mg) (hfa : mg "law" = some (.ref fa))
    {nmS qnS : Str} {NS : Addr} {bsS : List Value} {snS : List Str} {subS : List Value} {abS : Bool} {colS : Option Bool} {ddS : Option Addr} {pS rS sS tS wS : Option Value}
    {nmc2 qnc2 : Str} {Nc2 : Addr} {bsc2 : List Value} {snc2 : List Str} {subc2 : List Value} {abc2 : Bool} {colc2 : Option Bool} {ddc2 : Option Addr} {pc2 rc2 sc2 tc2 wc2 : Option Value}
    {j2 : Addr} {od2 an2 : Option Addr} {sl2 : Array (Option Value)} {oc2 kV2 dc2 pm2 cd2 ct2 : Value}
    {nmc3 qnc3 : Str} {Nc3 : Addr} {bsc3 : List Value} {snc3 : List Str} {subc3 : List Value} {abc3 : Bool} {colc3 : Option Bool} {ddc3 : Option Addr} {pc3 rc3 sc3 tc3 wc3 : Option Value}
    {j3 : Addr} {od3 an3 : Option Addr} {sl3 : Array (Option Value)} {oc3 kV3 dc3 pm3 cd3 ct3 : Value}
    {nmc4 qnc4 : Str} {Nc4 : Addr} {bsc4 : List Value} {snc4 : List Str} {subc4 : List Value} {abc4 : Bool} {colc4 : Option Bool} {ddc4 : Option Addr} {pc4 rc4 sc4 tc4 wc4 : Option Value}
    {j4 : Addr} {od4 an4 : Option Addr} {sl4 : Array (Option Value)} {oc4 kV4 dc4 pm4 cd4 ct4 : Value}
    {nmc5 qnc5 : Str} {Nc5 : Addr} {bsc5 : List Value} {snc5 : List Str} {subc5 : List Value} {abc5 : Bool} {colc5 : Option Bool} {ddc5 : Option Addr} {pc5 rc5 sc5 tc5 wc5 : Option Value}
    {j5 : Addr} {od5 an5 : Option Addr} {sl5 : Array (Option Value)} {oc5 kV5 dc5 pm5 cd5 ct5 : Value}
    {nmc7 qnc7 : Str} {Nc7 : Addr} {bsc7 : List Value} {snc7 : List Str} {subc7 : List Value} {abc7 : Bool} {colc7 : Option Bool} {ddc7 : Option Addr} {pc7 rc7 sc7 tc7 wc7 : Option Value}
    {j7 : Addr} {od7 an7 : Option Addr} {sl7 : Array (Option Value)} {oc7 kV7 dc7 pm7 cd7 ct7 : Value}
    {nmc8 qnc8 : Str} {Nc8 : Addr} {bsc8 : List Value} {snc8 : List Str} {subc8 : List Value} {abc8 : Bool} {colc8 : Option Bool} {ddc8 : Option Addr} {pc8 rc8 sc8 tc8 wc8 : Option Value}
    {j8 : Addr} {od8 an8 : Option Addr} {sl8 : Array (Option Value)} {oc8 kV8 dc8 pm8 cd8 ct8 : Value}
    {nmc9 qnc9 : Str} {Nc9 : Addr} {bsc9 : List Value} {snc9 : List Str} {subc9 : List Value} {abc9 : Bool} {colc9 : Option Bool} {ddc9 : Option Addr} {pc9 rc9 sc9 tc9 wc9 : Option Value}
    {j9 : Addr} {od9 an9 : Option Addr} {sl9 : Array (Option Value)} {oc9 kV9 dc9 pm9 cd9 ct9 : Value}
    {nmc10 qnc10 : Str} {Nc10 : Addr} {bsc10 : List Value} {snc10 : List Str} {subc10 : List Value} {abc10 : Bool} {colc10 : Option Bool} {ddc10 : Option Addr} {pc10 rc10 sc10 tc10 wc10 : Option Value}
    {j10 : Addr} {od10 an10 : Option Addr} {sl10 : Array (Option Value)} {oc10 kV10 dc10 pm10 cd10 ct10 : Value}
    {nmc13 qnc13 : Str} {Nc13 : Addr} {bsc13 : List Value} {snc13 : List Str} {subc13 : List Value} {abc13 : Bool} {colc13 : Option Bool} {ddc13 : Option Addr} {pc13 rc13 sc13 tc13 wc13 : Option Value}
    {j13 : Addr} {od13 an13 : Option Addr} {sl13 : Array (Option Value)} {oc13 kV13 dc13 pm13 cd13 ct13 : Value}
    {nmc14 qnc14 : Str} {Nc14 : Addr} {bsc14 : List Value} {snc14 : List Str} {subc14 : List Value} {abc14 : Bool} {colc14 : Option Bool} {ddc14 : Option Addr} {pc14 rc14 sc14 tc14 wc14 : Option Value}
    {j14 : Addr} {od14 an14 : Option Addr} {sl14 : Array (Option Value)} {oc14 kV14 dc14 pm14 cd14 ct14 : Value}
    {nmc6 qnc6 : Str} {Nc6 : Addr} {bsc6 : List Value} {snc6 : List Str} {subc6 : List Value} {abc6 : Bool} {colc6 : Option Bool} {ddc6 : Option Addr} {pc6 rc6 sc6 tc6 wc6 : Option Value}
    {j6 : Addr} {od6 an6 : Option Addr} {sl6 : Array (Option Value)} {oc6 kV6 dc6 pm6 cd6 ct6 : Value}
    {nmc11 qnc11 : Str} {Nc11 : Addr} {bsc11 : List Value} {snc11 : List Str} {subc11 : List Value} {abc11 : Bool} {colc11 : Option Bool} {ddc11 : Option Addr} {pc11 rc11 sc11 tc11 wc11 : Option Value}
    {j11 : Addr} {od11 an11 : Option Addr} {sl11 : Array (Option Value)} {oc11 kV11 dc11 pm11 cd11 ct11 : Value}
    {nmc12 qnc12 : Str} {Nc12 : Addr} {bsc12 : List Value} {snc12 : List Str} {subc12 : List Value} {abc12 : Bool} {colc12 : Option Bool} {ddc12 : Option Addr} {pc12 rc12 sc12 tc12 wc12 : Option Value}
    {j12 : Addr} {od12 an12 : Option Addr} {sl12 : Array (Option Value)} {oc12 kV12 dc12 pm12 cd12 ct12 : Value}
    {g16 : Addr} {ode16 ane16 : Option Addr} {sle16 : Array (Option Value)} {oce16 kVe16 dce16 pme16 cde16 cte16 : Value}
    {g17 : Addr} {ode17 ane17 : Option Addr} {sle17 : Array (Option Value)} {oce17 kVe17 dce17 pme17 cde17 cte17 : Value}
    {g18 : Addr} {ode18 ane18 : Option Addr} {sle18 : Array (Option Value)} {oce18 kVe18 dce18 pme18 cde18 cte18 : Value}
    {g19 : Addr} {ode19 ane19 : Option Addr} {sle19 : Array (Option Value)} {oce19 kVe19 dce19 pme19 cde19 cte19 : Value}
    {g20 : Addr} {ode20 ane20 : Option Addr} {sle20 : Array (Option Value)} {oce20 kVe20 dce20 pme20 cde20 cte20 : Value}
    {g21 : Addr} {ode21 ane21 : Option Addr} {sle21 : Array (Option Value)} {oce21 kVe21 dce21 pme21 cde21 cte21 : Value}
    {g22 : Addr} {ode22 ane22 : Option Addr} {sle22 : Array (Option Value)} {oce22 kVe22 dce22 pme22 cde22 cte22 : Value}
    (aS : nsIn K mainGlobals "SampleError" = some (some (.ref S)))
    (xS : K.lookup S = some (excClassObj nmS qnS S NS bsS [.type "ValueError", .type "Exception", .type "BaseException", .type "object"] true snS subS abS colS ddS pS rS sS tS wS "ValueError.__new__"))
    (eS : errB K S = true)
    (bS : baseB K S = true)
    (vS : findCls K (.ref S) (.type "type") "__init__" = some (.val (.builtin "ValueError.__init__")))
    (a2 : nsIn K mainGlobals "BadProgram" = some (some (.ref c2)))
    (x2 : K.lookup c2 = some (excClassObj nmc2 qnc2 c2 Nc2 bsc2 [.ref S, .type "ValueError", .type "Exception", .type "BaseException", .type "object"] true snc2 subc2 abc2 colc2 ddc2 pc2 rc2 sc2 tc2 wc2 "ValueError.__new__"))
    (e2 : errB K c2 = true)
    (i2 : findIn K (.ref c2) "__init__" = some (some (.ref j2)))
    (l2 : K.lookup j2 = some ⟨oc2, od2, .func (PySem.W.fnOf "__init__" "BadProgram.__init__" (defArgs (inClass (topS 2) 0)) (defBody (inClass (topS 2) 0)) (defScope (inClass (topS 2) 0)) .none kV2 dc2 pm2 an2 cd2 ct2), sl2⟩)
    (h2 : initB K j2 cd2 "BadProgram.__init__" = true)
    (n2 : findIn K (.ref c2) "value" = some none)
    (a3 : nsIn K mainGlobals "NoTick" = some (some (.ref c3)))
    (x3 : K.lookup c3 = some (excClassObj nmc3 qnc3 c3 Nc3 bsc3 [.ref S, .type "ValueError", .type "Exception", .type "BaseException", .type "object"] true snc3 subc3 abc3 colc3 ddc3 pc3 rc3 sc3 tc3 wc3 "ValueError.__new__"))
    (e3 : errB K c3 = true)
    (i3 : findIn K (.ref c3) "__init__" = some (some (.ref j3)))
    (l3 : K.lookup j3 = some ⟨oc3, od3, .func (PySem.W.fnOf "__init__" "NoTick.__init__" (defArgs (inClass (topS 3) 0)) (defBody (inClass (topS 3) 0)) (defScope (inClass (topS 3) 0)) .none kV3 dc3 pm3 an3 cd3 ct3), sl3⟩)
    (h3 : initB K j3 cd3 "NoTick.__init__" = true)
    (n3 : findIn K (.ref c3) "value" = some none)
    (a4 : nsIn K mainGlobals "NoLine" = some (some (.ref c4)))
    (x4 : K.lookup c4 = some (excClassObj nmc4 qnc4 c4 Nc4 bsc4 [.ref S, .type "ValueError", .type "Exception", .type "BaseException", .type "object"] true snc4 subc4 abc4 colc4 ddc4 pc4 rc4 sc4 tc4 wc4 "ValueError.__new__"))
    (e4 : errB K c4 = true)
    (i4 : findIn K (.ref c4) "__init__" = some (some (.ref j4)))
    (l4 : K.lookup j4 = some ⟨oc4, od4, .func (PySem.W.fnOf "__init__" "NoLine.__init__" (defArgs (inClass (topS 4) 0)) (defBody (inClass (topS 4) 0)) (defScope (inClass (topS 4) 0)) .none kV4 dc4 pm4 an4 cd4 ct4), sl4⟩)
    (h4 : initB K j4 cd4 "NoLine.__init__" = true)
    (n4 : findIn K (.ref c4) "value" = some none)
    (a5 : nsIn K mainGlobals "TooLong" = some (some (.ref c5)))
    (x5 : K.lookup c5 = some (excClassObj nmc5 qnc5 c5 Nc5 bsc5 [.ref S, .type "ValueError", .type "Exception", .type "BaseException", .type "object"] true snc5 subc5 abc5 colc5 ddc5 pc5 rc5 sc5 tc5 wc5 "ValueError.__new__"))
    (e5 : errB K c5 = true)
    (i5 : findIn K (.ref c5) "__init__" = some (some (.ref j5)))
    (l5 : K.lookup j5 = some ⟨oc5, od5, .func (PySem.W.fnOf "__init__" "TooLong.__init__" (defArgs (inClass (topS 5) 0)) (defBody (inClass (topS 5) 0)) (defScope (inClass (topS 5) 0)) .none kV5 dc5 pm5 an5 cd5 ct5), sl5⟩)
    (h5 : initB K j5 cd5 "TooLong.__init__" = true)
    (n5 : findIn K (.ref c5) "size" = some none)
    (a7 : nsIn K mainGlobals "TooLarge" = some (some (.ref c7)))
    (x7 : K.lookup c7 = some (excClassObj nmc7 qnc7 c7 Nc7 bsc7 [.ref S, .type "ValueError", .type "Exception", .type "BaseException", .type "object"] true snc7 subc7 abc7 colc7 ddc7 pc7 rc7 sc7 tc7 wc7 "ValueError.__new__"))
    (e7 : errB K c7 = true)
    (i7 : findIn K (.ref c7) "__init__" = some (some (.ref j7)))
    (l7 : K.lookup j7 = some ⟨oc7, od7, .func (PySem.W.fnOf "__init__" "TooLarge.__init__" (defArgs (inClass (topS 7) 0)) (defBody (inClass (topS 7) 0)) (defScope (inClass (topS 7) 0)) .none kV7 dc7 pm7 an7 cd7 ct7), sl7⟩)
    (h7 : initB K j7 cd7 "TooLarge.__init__" = true)
    (n7 : findIn K (.ref c7) "divisor" = some none)
    (a8 : nsIn K mainGlobals "OtherLength" = some (some (.ref c8)))
    (x8 : K.lookup c8 = some (excClassObj nmc8 qnc8 c8 Nc8 bsc8 [.ref S, .type "ValueError", .type "Exception", .type "BaseException", .type "object"] true snc8 subc8 abc8 colc8 ddc8 pc8 rc8 sc8 tc8 wc8 "ValueError.__new__"))
    (e8 : errB K c8 = true)
    (i8 : findIn K (.ref c8) "__init__" = some (some (.ref j8)))
    (l8 : K.lookup j8 = some ⟨oc8, od8, .func (PySem.W.fnOf "__init__" "OtherLength.__init__" (defArgs (inClass (topS 8) 0)) (defBody (inClass (topS 8) 0)) (defScope (inClass (topS 8) 0)) .none kV8 dc8 pm8 an8 cd8 ct8), sl8⟩)
    (h8 : initB K j8 cd8 "OtherLength.__init__" = true)
    (n8 : findIn K (.ref c8) "size" = some none)
    (a9 : nsIn K mainGlobals "BadIndex" = some (some (.ref c9)))
    (x9 : K.lookup c9 = some (excClassObj nmc9 qnc9 c9 Nc9 bsc9 [.ref S, .type "ValueError", .type "Exception", .type "BaseException", .type "object"] true snc9 subc9 abc9 colc9 ddc9 pc9 rc9 sc9 tc9 wc9 "ValueError.__new__"))
    (e9 : errB K c9 = true)
    (i9 : findIn K (.ref c9) "__init__" = some (some (.ref j9)))
    (l9 : K.lookup j9 = some ⟨oc9, od9, .func (PySem.W.fnOf "__init__" "BadIndex.__init__" (defArgs (inClass (topS 9) 0)) (defBody (inClass (topS 9) 0)) (defScope (inClass (topS 9) 0)) .none kV9 dc9 pm9 an9 cd9 ct9), sl9⟩)
    (h9 : initB K j9 cd9 "BadIndex.__init__" = true)
    (n9 : findIn K (.ref c9) "value" = some none)
    (a10 : nsIn K mainGlobals "BadItem" = some (some (.ref c10)))
    (x10 : K.lookup c10 = some (excClassObj nmc10 qnc10 c10 Nc10 bsc10 [.ref S, .type "ValueError", .type "Exception", .type "BaseException", .type "object"] true snc10 subc10 abc10 colc10 ddc10 pc10 rc10 sc10 tc10 wc10 "ValueError.__new__"))
    (e10 : errB K c10 = true)
    (i10 : findIn K (.ref c10) "__init__" = some (some (.ref j10)))
    (l10 : K.lookup j10 = some ⟨oc10, od10, .func (PySem.W.fnOf "__init__" "BadItem.__init__" (defArgs (inClass (topS 10) 0)) (defBody (inClass (topS 10) 0)) (defScope (inClass (topS 10) 0)) .none kV10 dc10 pm10 an10 cd10 ct10), sl10⟩)
    (h10 : initB K j10 cd10 "BadItem.__init__" = true)
    (n10 : findIn K (.ref c10) "value" = some none)
    (a13 : nsIn K mainGlobals "BadText" = some (some (.ref c13)))
    (x13 : K.lookup c13 = some (excClassObj nmc13 qnc13 c13 Nc13 bsc13 [.ref S, .type "ValueError", .type "Exception", .type "BaseException", .type "object"] true snc13 subc13 abc13 colc13 ddc13 pc13 rc13 sc13 tc13 wc13 "ValueError.__new__"))
    (e13 : errB K c13 = true)
    (i13 : findIn K (.ref c13) "__init__" = some (some (.ref j13)))
    (l13 : K.lookup j13 = some ⟨oc13, od13, .func (PySem.W.fnOf "__init__" "BadText.__init__" (defArgs (inClass (topS 13) 0)) (defBody (inClass (topS 13) 0)) (defScope (inClass (topS 13) 0)) .none kV13 dc13 pm13 an13 cd13 ct13), sl13⟩)
    (h13 : initB K j13 cd13 "BadText.__init__" = true)
    (n13 : findIn K (.ref c13) "position" = some none)
    (a14 : nsIn K mainGlobals "BadCommand" = some (some (.ref c14)))
    (x14 : K.lookup c14 = some (excClassObj nmc14 qnc14 c14 Nc14 bsc14 [.ref S, .type "ValueError", .type "Exception", .type "BaseException", .type "object"] true snc14 subc14 abc14 colc14 ddc14 pc14 rc14 sc14 tc14 wc14 "ValueError.__new__"))
    (e14 : errB K c14 = true)
    (i14 : findIn K (.ref c14) "__init__" = some (some (.ref j14)))
    (l14 : K.lookup j14 = some ⟨oc14, od14, .func (PySem.W.fnOf "__init__" "BadCommand.__init__" (defArgs (inClass (topS 14) 0)) (defBody (inClass (topS 14) 0)) (defScope (inClass (topS 14) 0)) .none kV14 dc14 pm14 an14 cd14 ct14), sl14⟩)
    (h14 : initB K j14 cd14 "BadCommand.__init__" = true)
    (n14 : findIn K (.ref c14) "line" = some none)
    (a6 : nsIn K mainGlobals "NotFlat" = some (some (.ref c6)))
    (x6 : K.lookup c6 = some (excClassObj nmc6 qnc6 c6 Nc6 bsc6 [.ref S, .type "ValueError", .type "Exception", .type "BaseException", .type "object"] true snc6 subc6 abc6 colc6 ddc6 pc6 rc6 sc6 tc6 wc6 "ValueError.__new__"))
    (e6 : errB K c6 = true)
    (i6 : findIn K (.ref c6) "__init__" = some (some (.ref j6)))
    (l6 : K.lookup j6 = some ⟨oc6, od6, .func (PySem.W.fnOf "__init__" "NotFlat.__init__" (defArgs (inClass (topS 6) 0)) (defBody (inClass (topS 6) 0)) (defScope (inClass (topS 6) 0)) .none kV6 dc6 pm6 an6 cd6 ct6), sl6⟩)
    (h6 : initB K j6 cd6 "NotFlat.__init__" = true)
    (a11 : nsIn K mainGlobals "LastItem" = some (some (.ref c11)))
    (x11 : K.lookup c11 = some (excClassObj nmc11 qnc11 c11 Nc11 bsc11 [.ref S, .type "ValueError", .type "Exception", .type "BaseException", .type "object"] true snc11 subc11 abc11 colc11 ddc11 pc11 rc11 sc11 tc11 wc11 "ValueError.__new__"))
    (e11 : errB K c11 = true)
    (i11 : findIn K (.ref c11) "__init__" = some (some (.ref j11)))
    (l11 : K.lookup j11 = some ⟨oc11, od11, .func (PySem.W.fnOf "__init__" "LastItem.__init__" (defArgs (inClass (topS 11) 0)) (defBody (inClass (topS 11) 0)) (defScope (inClass (topS 11) 0)) .none kV11 dc11 pm11 an11 cd11 ct11), sl11⟩)
    (h11 : initB K j11 cd11 "LastItem.__init__" = true)
    (a12 : nsIn K mainGlobals "NothingToUndo" = some (some (.ref c12)))
    (x12 : K.lookup c12 = some (excClassObj nmc12 qnc12 c12 Nc12 bsc12 [.ref S, .type "ValueError", .type "Exception", .type "BaseException", .type "object"] true snc12 subc12 abc12 colc12 ddc12 pc12 rc12 sc12 tc12 wc12 "ValueError.__new__"))
    (e12 : errB K c12 = true)
    (i12 : findIn K (.ref c12) "__init__" = some (some (.ref j12)))
    (l12 : K.lookup j12 = some ⟨oc12, od12, .func (PySem.W.fnOf "__init__" "NothingToUndo.__init__" (defArgs (inClass (topS 12) 0)) (defBody (inClass (topS 12) 0)) (defScope (inClass (topS 12) 0)) .none kV12 dc12 pm12 an12 cd12 ct12), sl12⟩)
    (h12 : initB K j12 cd12 "NothingToUndo.__init__" = true)
    (kt : kits K S [c2, c3, c4, c5, c7, c8, c9, c10, c13, c14, c6, c11, c12] = true)
    (A16 : nsIn K mainGlobals "_law_pot" = some (some (.ref g16)))
    (L16 : K.lookup g16 = some ⟨oce16, ode16, .func (PySem.W.fnOf "_law_pot" "_law_pot" (defArgs (topS 16)) (defBody (topS 16)) (defScope (topS 16)) .none kVe16 dce16 pme16 ane16 cde16 cte16), sle16⟩)
    (H16 : initB K g16 cde16 "_law_pot" = true)
    (A17 : nsIn K mainGlobals "_law_take" = some (some (.ref g17)))
    (L17 : K.lookup g17 = some ⟨oce17, ode17, .func (PySem.W.fnOf "_law_take" "_law_take" (defArgs (topS 17)) (defBody (topS 17)) (defScope (topS 17)) .none kVe17 dce17 pme17 ane17 cde17 cte17), sle17⟩)
    (H17 : initB K g17 cde17 "_law_take" = true)
    (A18 : nsIn K mainGlobals "_law_of" = some (some (.ref g18)))
    (L18 : K.lookup g18 = some ⟨oce18, ode18, .func (PySem.W.fnOf "_law_of" "_law_of" (defArgs (topS 18)) (defBody (topS 18)) (defScope (topS 18)) .none kVe18 dce18 pme18 ane18 cde18 cte18), sle18⟩)
    (H18 : initB K g18 cde18 "_law_of" = true)
    (A19 : nsIn K mainGlobals "_law_made" = some (some (.ref g19)))
    (L19 : K.lookup g19 = some ⟨oce19, ode19, .func (PySem.W.fnOf "_law_made" "_law_made" (defArgs (topS 19)) (defBody (topS 19)) (defScope (topS 19)) .none kVe19 dce19 pme19 ane19 cde19 cte19), sle19⟩)
    (H19 : initB K g19 cde19 "_law_made" = true)
    (A20 : nsIn K mainGlobals "_law_held" = some (some (.ref g20)))
    (L20 : K.lookup g20 = some ⟨oce20, ode20, .func (PySem.W.fnOf "_law_held" "_law_held" (defArgs (topS 20)) (defBody (topS 20)) (defScope (topS 20)) .none kVe20 dce20 pme20 ane20 cde20 cte20), sle20⟩)
    (H20 : initB K g20 cde20 "_law_held" = true)
    (A21 : nsIn K mainGlobals "_law_marks" = some (some (.ref g21)))
    (L21 : K.lookup g21 = some ⟨oce21, ode21, .func (PySem.W.fnOf "_law_marks" "_law_marks" (defArgs (topS 21)) (defBody (topS 21)) (defScope (topS 21)) .none kVe21 dce21 pme21 ane21 cde21 cte21), sle21⟩)
    (H21 : initB K g21 cde21 "_law_marks" = true)
    (A22 : nsIn K mainGlobals "law" = some (some (.ref g22)))
    (L22 : K.lookup g22 = some ⟨oce22, ode22, .func (PySem.W.fnOf "law" "law" (defArgs (topS 22)) (defBody (topS 22)) (defScope (topS 22)) .none kVe22 dce22 pme22 ane22 cde22 cte22), sle22⟩)
    (H22 : initB K g22 cde22 "law" = true)
    (z_len : nsIn K mainGlobals "len" = some none)
    (z_abs : nsIn K mainGlobals "abs" = some none)
    (z_int : nsIn K mainGlobals "int" = some none)
    (z_range : nsIn K mainGlobals "range" = some none)
    (z_repr : nsIn K mainGlobals "repr" = some none)
    (z_enumerate : nsIn K mainGlobals "enumerate" = some none)
    (z_isinstance : nsIn K mainGlobals "isinstance" = some none)
    (z_ValueError : nsIn K mainGlobals "ValueError" = some none)
    : ∃ fd : FuncData, (∀ (s : Shared) (u : Value), BindsTo s fd ⟨[u], []⟩ [("_law_script", u)]) ∧
      ∀ base : Heap, K.In base → base.Ns mainGlobals mg → (∃ mm, base.Ns sysModules mm) → FnG P w K mg base CX0 4 fa fd ["_law_script"] (spLaw K) := by
  have e := hfa.symm.trans (PySem.W.mg_of X G A22)
  cases e
  have TS : ErrC K S := errB_ok eS ⟨_, _, _, _, _, _, _, _, _, _, _, _, _, _, _, xS, rfl⟩
  unfold baseB at bS
  simp only [Bool.and_eq_true, beq_iff_eq] at bS
  obtain ⟨b1, b2, b3⟩ := bS
  have B : BaseT K mg S := ⟨PySem.W.mg_of X G aS, b1, b2, vS⟩
  have T2 : ErrC K c2 := errB_ok e2 ⟨_, _, _, _, _, _, _, _, _, _, _, _, _, _, _, x2, rfl⟩
  obtain ⟨t2, u2, v2⟩ := initB_ok h2
  have F2 := fun_mk (st := inClass (topS 2) 0) l2 u2 v2
  have T3 : ErrC K c3 := errB_ok e3 ⟨_, _, _, _, _, _, _, _, _, _, _, _, _, _, _, x3, rfl⟩
  obtain ⟨t3, u3, v3⟩ := initB_ok h3
  have F3 := fun_mk (st := inClass (topS 3) 0) l3 u3 v3
  have T4 : ErrC K c4 := errB_ok e4 ⟨_, _, _, _, _, _, _, _, _, _, _, _, _, _, _, x4, rfl⟩
  obtain ⟨t4, u4, v4⟩ := initB_ok h4
  have F4 := fun_mk (st := inClass (topS 4) 0) l4 u4 v4
  have T5 : ErrC K c5 := errB_ok e5 ⟨_, _, _, _, _, _, _, _, _, _, _, _, _, _, _, x5, rfl⟩
  obtain ⟨t5, u5, v5⟩ := initB_ok h5
  have F5 := fun_mk (st := inClass (topS 5) 0) l5 u5 v5
  have T7 : ErrC K c7 := errB_ok e7 ⟨_, _, _, _, _, _, _, _, _, _, _, _, _, _, _, x7, rfl⟩
  obtain ⟨t7, u7, v7⟩ := initB_ok h7
  have F7 := fun_mk (st := inClass (topS 7) 0) l7 u7 v7
  have T8 : ErrC K c8 := errB_ok e8 ⟨_, _, _, _, _, _, _, _, _, _, _, _, _, _, _, x8, rfl⟩
  obtain ⟨t8, u8, v8⟩ := initB_ok h8
  have F8 := fun_mk (st := inClass (topS 8) 0) l8 u8 v8
  have T9 : ErrC K c9 := errB_ok e9 ⟨_, _, _, _, _, _, _, _, _, _, _, _, _, _, _, x9, rfl⟩
  obtain ⟨t9, u9, v9⟩ := initB_ok h9
  have F9 := fun_mk (st := inClass (topS 9) 0) l9 u9 v9
  have T10 : ErrC K c10 := errB_ok e10 ⟨_, _, _, _, _, _, _, _, _, _, _, _, _, _, _, x10, rfl⟩
  obtain ⟨t10, u10, v10⟩ := initB_ok h10
  have F10 := fun_mk (st := inClass (topS 10) 0) l10 u10 v10
  have T13 : ErrC K c13 := errB_ok e13 ⟨_, _, _, _, _, _, _, _, _, _, _, _, _, _, _, x13, rfl⟩
  obtain ⟨t13, u13, v13⟩ := initB_ok h13
  have F13 := fun_mk (st := inClass (topS 13) 0) l13 u13 v13
  have T14 : ErrC K c14 := errB_ok e14 ⟨_, _, _, _, _, _, _, _, _, _, _, _, _, _, _, x14, rfl⟩
  obtain ⟨t14, u14, v14⟩ := initB_ok h14
  have F14 := fun_mk (st := inClass (topS 14) 0) l14 u14 v14
  have T6 : ErrC K c6 := errB_ok e6 ⟨_, _, _, _, _, _, _, _, _, _, _, _, _, _, _, x6, rfl⟩
  obtain ⟨t6, u6, v6⟩ := initB_ok h6
  have F6 := fun_mk (st := inClass (topS 6) 0) l6 u6 v6
  have T11 : ErrC K c11 := errB_ok e11 ⟨_, _, _, _, _, _, _, _, _, _, _, _, _, _, _, x11, rfl⟩
  obtain ⟨t11, u11, v11⟩ := initB_ok h11
  have F11 := fun_mk (st := inClass (topS 11) 0) l11 u11 v11
  have T12 : ErrC K c12 := errB_ok e12 ⟨_, _, _, _, _, _, _, _, _, _, _, _, _, _, _, x12, rfl⟩
  obtain ⟨t12, u12, v12⟩ := initB_ok h12
  have F12 := fun_mk (st := inClass (topS 12) 0) l12 u12 v12
  obtain ⟨t16, u16, v16⟩ := initB_ok H16
  have F16 := fun_mk (st := topS 16) L16 u16 v16
  have b16 := F16.binds (ps := ["_law_script", "_law_k"]) fun _ _ _ _ _ _ us hl => match us, hl with | [_, _], _ => rfl
  obtain ⟨t17, u17, v17⟩ := initB_ok H17
  have F17 := fun_mk (st := topS 17) L17 u17 v17
  have b17 := F17.binds (ps := ["_law_pot_here", "_law_many"]) fun _ _ _ _ _ _ us hl => match us, hl with | [_, _], _ => rfl
  obtain ⟨t18, u18, v18⟩ := initB_ok H18
  have F18 := fun_mk (st := topS 18) L18 u18 v18
  have b18 := F18.binds (ps := ["_law_pot_here", "_law_some"]) fun _ _ _ _ _ _ us hl => match us, hl with | [_, _], _ => rfl
  obtain ⟨t19, u19, v19⟩ := initB_ok H19
  have F19 := fun_mk (st := topS 19) L19 u19 v19
  have b19 := F19.binds (ps := ["_law_thing"]) fun _ _ _ _ _ _ us hl => match us, hl with | [_], _ => rfl
  obtain ⟨t20, u20, v20⟩ := initB_ok H20
  have F20 := fun_mk (st := topS 20) L20 u20 v20
  have b20 := F20.binds (ps := ["_law_thing"]) fun _ _ _ _ _ _ us hl => match us, hl with | [_], _ => rfl
  obtain ⟨t21, u21, v21⟩ := initB_ok H21
  have F21 := fun_mk (st := topS 21) L21 u21 v21
  have b21 := F21.binds (ps := ["_law_error"]) fun _ _ _ _ _ _ us hl => match us, hl with | [_], _ => rfl
  obtain ⟨t22, u22, v22⟩ := initB_ok H22
  have F22 := fun_mk (st := topS 22) L22 u22 v22
  refine ⟨PySem.W.fnOf "law" "law" (defArgs (topS 22)) (defBody (topS 22)) (defScope (topS 22)) .none kVe22 dce22 pme22 ane22 cde22 cte22, fun s u => .of_eq rfl, fun base _ _ hm => ?_⟩
  have R : Errs P w K mg base c2 c3 c4 c5 c7 c8 c9 c10 c13 c14 c6 c11 c12 := ⟨
    ⟨_, _, PySem.W.mg_of X G a2, T2, i2, t2, n2, F2.binds fun _ _ _ _ _ _ us hl => match us, hl with | [_, _], _ => rfl, fun s u v => .of_eq rfl, initBadProgram F2 B T2 n2⟩,
    ⟨_, _, PySem.W.mg_of X G a3, T3, i3, t3, n3, F3.binds fun _ _ _ _ _ _ us hl => match us, hl with | [_, _], _ => rfl, fun s u v => .of_eq rfl, initNoTick F3 B T3 n3⟩,
    ⟨_, _, PySem.W.mg_of X G a4, T4, i4, t4, n4, F4.binds fun _ _ _ _ _ _ us hl => match us, hl with | [_, _], _ => rfl, fun s u v => .of_eq rfl, initNoLine F4 B T4 n4⟩,
    ⟨_, _, PySem.W.mg_of X G a5, T5, i5, t5, n5, F5.binds fun _ _ _ _ _ _ us hl => match us, hl with | [_, _], _ => rfl, fun s u v => .of_eq rfl, initTooLong F5 B T5 n5⟩,
    ⟨_, _, PySem.W.mg_of X G a7, T7, i7, t7, n7, F7.binds fun _ _ _ _ _ _ us hl => match us, hl with | [_, _], _ => rfl, fun s u v => .of_eq rfl, initTooLarge F7 B T7 n7⟩,
    ⟨_, _, PySem.W.mg_of X G a8, T8, i8, t8, n8, F8.binds fun _ _ _ _ _ _ us hl => match us, hl with | [_, _], _ => rfl, fun s u v => .of_eq rfl, initOtherLength F8 B T8 n8⟩,
    ⟨_, _, PySem.W.mg_of X G a9, T9, i9, t9, n9, F9.binds fun _ _ _ _ _ _ us hl => match us, hl with | [_, _], _ => rfl, fun s u v => .of_eq rfl, initBadIndex F9 B T9 n9⟩,
    ⟨_, _, PySem.W.mg_of X G a10, T10, i10, t10, n10, F10.binds fun _ _ _ _ _ _ us hl => match us, hl with | [_, _], _ => rfl, fun s u v => .of_eq rfl, initBadItem F10 B T10 n10⟩,
    ⟨_, _, PySem.W.mg_of X G a13, T13, i13, t13, n13, F13.binds fun _ _ _ _ _ _ us hl => match us, hl with | [_, _], _ => rfl, fun s u v => .of_eq rfl, initBadText F13 B T13 n13⟩,
    ⟨_, _, PySem.W.mg_of X G a14, T14, i14, t14, n14, F14.binds fun _ _ _ _ _ _ us hl => match us, hl with | [_, _], _ => rfl, fun s u v => .of_eq rfl, initBadCommand F14 B T14 n14⟩,
    ⟨_, _, PySem.W.mg_of X G a6, T6, i6, t6, F6.binds fun _ _ _ _ _ _ us hl => match us, hl with | [_], _ => rfl, initNotFlat F6 B T6⟩,
    ⟨_, _, PySem.W.mg_of X G a11, T11, i11, t11, F11.binds fun _ _ _ _ _ _ us hl => match us, hl with | [_], _ => rfl, initLastItem F11 B T11⟩,
    ⟨_, _, PySem.W.mg_of X G a12, T12, i12, t12, F12.binds fun _ _ _ _ _ _ us hl => match us, hl with | [_], _ => rfl, initNothingToUndo F12 B T12⟩⟩
  have T : LawT K mg S c2 c3 c4 c5 c7 c8 c9 c10 c13 c14 c6 c11 c12 := ⟨B, TS, b3, kt, fun C hC => by
    simp only [List.mem_cons, List.mem_nil_iff, or_false] at hC
    rcases hC with rfl | rfl | rfl | rfl | rfl | rfl | rfl | rfl | rfl | rfl | rfl | rfl | rfl
    all_goals assumption, PySem.W.mg_none_of X G z_range, PySem.W.mg_none_of X G z_repr, PySem.W.mg_none_of X G z_enumerate, PySem.W.mg_none_of X G z_isinstance, PySem.W.mg_none_of X G z_ValueError⟩
  exact ok_law F22 T R hm
    (ok_pot F16 (PySem.W.mg_none_of X G z_len) (PySem.W.mg_none_of X G z_abs) (PySem.W.mg_none_of X G z_int)) b16 (PySem.W.mg_of X G A16) v16
    (ok_of F18 F17 b17 (PySem.W.mg_of X G A17) (PySem.W.mg_none_of X G z_len)) b18 (PySem.W.mg_of X G A18) v18
    (ok_made F19 R) b19 (PySem.W.mg_of X G A19) v19 (ok_held F20 R) b20 (PySem.W.mg_of X G A20) v20
    (ok_marks F21 R T.mI) b21 (PySem.W.mg_of X G A21) v21
end Ev

open PySem PySem.W PyProof.Rows
set_option maxRecDepth 100000 in
set_option maxHeartbeats 0 in
theorem PySem.Challenge.cw_evensamples_k05_errors_by_themselves_holds : PySem.Challenge.rw_evensamples_k05_errors_by_themselves.Holds := by
  w_on; o_law; k_head; (case hw => w_witness2)
  k_fill
  refine Ev.walkG (l := PySem.Challenge.rw_evensamples_k05_errors_by_themselves) (n := 63) (k := 4) (x := "_law_script") (CX := L2.CX0) (sp := Ev.spLaw) ?noImports rfl (by decide) rfl ⟨rfl, by decide, by decide⟩ (fun w h Y => PySem.W.kIn_of Y) ?F
    (fun _ _ a ns _ _ hS => ⟨a, ns, rfl, hS, fun _ => rfl⟩) (fun _ _ _ _ h => h)
  case noImports => decide +kernel
  case F =>
    intro w mg fa h KX G hmg
    refine' Ev.all_mk KX G hmg ?aS ?xS ?eS ?bS ?vS ?a2 ?x2 ?e2 ?i2 ?l2 ?h2 ?n2 ?a3 ?x3 ?e3 ?i3 ?l3 ?h3 ?n3 ?a4 ?x4 ?e4 ?i4 ?l4 ?h4 ?n4 ?a5 ?x5 ?e5 ?i5 ?l5 ?h5 ?n5 ?a7 ?x7 ?e7 ?i7 ?l7 ?h7 ?n7 ?a8 ?x8 ?e8 ?i8 ?l8 ?h8 ?n8 ?a9 ?x9 ?e9 ?i9 ?l9 ?h9 ?n9 ?a10 ?x10 ?e10 ?i10 ?l10 ?h10 ?n10 ?a13 ?x13 ?e13 ?i13 ?l13 ?h13 ?n13 ?a14 ?x14 ?e14 ?i14 ?l14 ?h14 ?n14 ?a6 ?x6 ?e6 ?i6 ?l6 ?h6 ?a11 ?x11 ?e11 ?i11 ?l11 ?h11 ?a12 ?x12 ?e12 ?i12 ?l12 ?h12 ?kt ?A16 ?L16 ?H16 ?A17 ?L17 ?H17 ?A18 ?L18 ?H18 ?A19 ?L19 ?H19 ?A20 ?L20 ?H20 ?A21 ?L21 ?H21 ?A22 ?L22 ?H22 ?z_len ?z_abs ?z_int ?z_range ?z_repr ?z_enumerate ?z_isinstance ?z_ValueError
    (case aS => k_is)
    (case xS => k_is)
    (case eS => kernel_rfl)
    (case bS => kernel_rfl)
    (case vS => k_is)
    (case a2 => k_is)
    (case x2 => k_is)
    (case e2 => kernel_rfl)
    (case i2 => k_is)
    (case l2 => k_is)
    (case h2 => kernel_rfl)
    (case n2 => k_is)
    (case a3 => k_is)
    (case x3 => k_is)
    (case e3 => kernel_rfl)
    (case i3 => k_is)
    (case l3 => k_is)
    (case h3 => kernel_rfl)
    (case n3 => k_is)
    (case a4 => k_is)
    (case x4 => k_is)
    (case e4 => kernel_rfl)
    (case i4 => k_is)
    (case l4 => k_is)
    (case h4 => kernel_rfl)
    (case n4 => k_is)
    (case a5 => k_is)
    (case x5 => k_is)
    (case e5 => kernel_rfl)
    (case i5 => k_is)
    (case l5 => k_is)
    (case h5 => kernel_rfl)
    (case n5 => k_is)
    (case a7 => k_is)
    (case x7 => k_is)
    (case e7 => kernel_rfl)
    (case i7 => k_is)
    (case l7 => k_is)
    (case h7 => kernel_rfl)
    (case n7 => k_is)
    (case a8 => k_is)
    (case x8 => k_is)
    (case e8 => kernel_rfl)
    (case i8 => k_is)
    (case l8 => k_is)
    (case h8 => kernel_rfl)
    (case n8 => k_is)
    (case a9 => k_is)
    (case x9 => k_is)
    (case e9 => kernel_rfl)
    (case i9 => k_is)
    (case l9 => k_is)
    (case h9 => kernel_rfl)
    (case n9 => k_is)
    (case a10 => k_is)
    (case x10 => k_is)
    (case e10 => kernel_rfl)
    (case i10 => k_is)
    (case l10 => k_is)
    (case h10 => kernel_rfl)
    (case n10 => k_is)
    (case a13 => k_is)
    (case x13 => k_is)
    (case e13 => kernel_rfl)
    (case i13 => k_is)
    (case l13 => k_is)
    (case h13 => kernel_rfl)
    (case n13 => k_is)
    (case a14 => k_is)
    (case x14 => k_is)
    (case e14 => kernel_rfl)
    (case i14 => k_is)
    (case l14 => k_is)
    (case h14 => kernel_rfl)
    (case n14 => k_is)
    (case a6 => k_is)
    (case x6 => k_is)
    (case e6 => kernel_rfl)
    (case i6 => k_is)
    (case l6 => k_is)
    (case h6 => kernel_rfl)
    (case a11 => k_is)
    (case x11 => k_is)
    (case e11 => kernel_rfl)
    (case i11 => k_is)
    (case l11 => k_is)
    (case h11 => kernel_rfl)
    (case a12 => k_is)
    (case x12 => k_is)
    (case e12 => kernel_rfl)
    (case i12 => k_is)
    (case l12 => k_is)
    (case h12 => kernel_rfl)
    (case kt => kernel_rfl)
    (case A16 => k_is)
    (case L16 => k_is)
    (case H16 => kernel_rfl)
    (case A17 => k_is)
    (case L17 => k_is)
    (case H17 => kernel_rfl)
    (case A18 => k_is)
    (case L18 => k_is)
    (case H18 => kernel_rfl)
    (case A19 => k_is)
    (case L19 => k_is)
    (case H19 => kernel_rfl)
    (case A20 => k_is)
    (case L20 => k_is)
    (case H20 => kernel_rfl)
    (case A21 => k_is)
    (case L21 => k_is)
    (case H21 => kernel_rfl)
    (case A22 => k_is)
    (case L22 => k_is)
    (case H22 => kernel_rfl)
    (case z_len => k_is)
    (case z_abs => k_is)
    (case z_int => k_is)
    (case z_range => k_is)
    (case z_repr => k_is)
    (case z_enumerate => k_is)
    (case z_isinstance => k_is)
    (case z_ValueError => k_is)

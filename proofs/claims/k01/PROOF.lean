import PyProof.Rows.All
import Wide.All
import OpenK.AllK
import Wide.FinOn
import PySem.Challenge.RW_evensamples_k01_programs_of_any_value
import HandS.ForMost
import HandS.Wide
import PyProof.NeKinds
import PyProof.EqKinds
import PyProof.FactsAll.dict
import HandS.IsInst
import HandS.More
import HandS.TupAny
import KE.KEqNest
import HandS.TupMul
import HandS.Style
set_option Elab.async false
set_option linter.all false
set_option maxRecDepth 100000
set_option maxHeartbeats 4000000
/-! ## Promises of defs that are called while no repr is under way -/
namespace Ev
open PySem PySem.Spec PyProof.Rows L2

/-- the promise of a def, for a stack without a repr that is under way -/
structure FnG (P : Program) (w : World) (K : PySem.W.Frag) (mg : Str → Option Value)
    (base : Heap) (CX : CXT) (k : Nat) (f : Addr) (fd : FuncData) (ps : List Str) (sp : Sp) : Prop where
  many : ∀ vs H Q E, sp vs H Q E → vs.length = ps.length
  go : ∀ (A : Around) (outer : List Env) (s : Shared) (H : Hp) (args : Args)
      (us : List Value) (vs : List V) (Q : VK) (E : XK),
    Room k A → A.guards = some [] → Env0 P w K mg base A outer s H → BindsTo s fd args (ps.zip us) →
      Vals vs us → sp vs H Q E → codeAny (model P w) A (.call (.ref f) args) (CR CX outer P w H s Q E) s

section
variable {P : Program} {w : World} {K : PySem.W.Frag} {mg : Str → Option Value} {base : Heap} {CX : CXT}
variable {k : Nat} {f : Addr} {fd : FuncData} {ps : List Str} {sp : Sp}
theorem FnG.of (F : FnOk P w K mg base CX k f fd ps sp) : FnG P w K mg base CX k f fd ps sp :=
  ⟨F.len, fun A o s H args us vs Q E hr _ => F.run A o s H args us vs Q E hr⟩
theorem FnG.up {j : Nat} (F : FnG P w K mg base CX j f fd ps sp) (h : j ≤ k) : FnG P w K mg base CX k f fd ps sp :=
  ⟨F.many, fun A o s H args us vs Q E hr => F.go A o s H args us vs Q E (hr.mono h)⟩
end

section
variable {X : Cx} {CX : CXT} {k : Nat} {f : Addr} {fd : FuncData} {ps : List Str} {sp : Sp}
variable {dvs : List V} {ds : List Value} {E : XK} {x : Str} {p pos : Pos} {e : Expr} {es : List Expr} {t : TA}
theorem runG {pins : List (Addr × Obj)} {σ : L2.St} {H : Hp} {s : Shared} {Q : VK} {us : List Value} {vs : List V}
    (F : FnG X.prog X.w X.K X.mg X.base CX k f fd ps sp) (hr : Room k X.A) (gd : X.A.guards = some [])
    (hb : Binds X.K fd ps ds) (hd : Vals dvs ds) (hx : Passes CX X E) (I : Inv X pins σ H s) (r : Vals vs us)
    (h : sp (vs ++ dvs) H Q E) : wpAny (model X.prog X.w) X.A (call (.ref f) us) (EP X pins σ Q) X.xe s := by
  have rr : Vals (vs ++ dvs) (us ++ ds) := r.append hd
  have hl : (us ++ ds).length = ps.length := rr.length.symm.trans (F.many _ _ _ _ h)
  have z := F.go X.A X.stack s H ⟨us, []⟩ (us ++ ds) (vs ++ dvs) Q E hr gd I.env0 (hb s us I.kIn hl) rr h
  refine wpAny_call (codeAny_mono z fun res s' hq => ?_)
  match res, hq with
  | .error e, hq => exact hx pins σ H s e s' I hq
  | .ok (.ret u), hq => exact I.after hq
  | .ok .next, hq => exact False.elim hq
  | .ok .brk, hq => exact False.elim hq
  | .ok .cont, hq => exact False.elim hq
theorem pe_callG (F : FnG X.prog X.w X.K X.mg X.base CX k f fd ps sp) (hr : Room k X.A) (gd : X.A.guards = some [])
    (hg : Gl X x) (hm : X.mg x = some (.ref f)) (hk : PySem.W.keepIn X.K (.ref f) = true) (hb : Binds X.K fd ps ds)
    (hd : Vals dvs ds) (hx : Passes CX X E) (ha : PA X (e :: es) t)
    (hdb : (x == ("__debug__" : Str)) = false := by decide)
    (he : starEach (e :: es) X.env = (false, eval e X.env) :: starEach es X.env := by rfl)
    (hpl : (backTo pos (starEach es X.env)).any (·.1) = false := by rfl) :
    PE X (.Call (.Name x p) (e :: es) [] pos) (tCall sp dvs E t) := by
  constructor
  intro pins s σ H Q I h
  refine wpAny_Call_Name_kw (ld_glob I hg hm ?_ hdb)
  have z := ha.run pos pins s σ H _ I h
  refine PySem.W.callWith_K (h₀ := X.base) I.ok.mod.kin hk (thn z ?_) he hpl
  rintro us s1 ⟨vs, H1, I1, r, q⟩
  exact ⟨I1.kIn, runG F hr gd hb hd hx I1 r q⟩
theorem pe_callG0 (F : FnG X.prog X.w X.K X.mg X.base CX k f fd ps sp) (hr : Room k X.A) (gd : X.A.guards = some [])
    (hg : Gl X x) (hm : X.mg x = some (.ref f)) (hk : PySem.W.keepIn X.K (.ref f) = true) (hb : Binds X.K fd ps ds)
    (hd : Vals dvs ds) (hx : Passes CX X E) (hdb : (x == ("__debug__" : Str)) = false := by decide) :
    PE X (.Call (.Name x p) [] [] pos) (tCall sp dvs E tNil) := by
  constructor
  intro pins s σ H Q I h
  refine wpAny_Call_Name_kw (ld_glob I hg hm ?_ hdb)
  have z := runG (us := []) F hr gd hb hd hx I .nil h
  exact PySem.W.callWith_K0 I.kIn hk z
end

/-- a def by its body -/
theorem fnG_of {CX : CXT} {P : Program} {w : World} {K : PySem.W.Frag} {mg : Str → Option Value} {base : Heap}
    {k : Nat} {f : Addr} {name qual : Str} {params : Arguments} {body : List Stmt} {scope : Scope}
    {dV kV doc pm cdv ct oc : Value} {an od : Option Addr} {osl : Array (Option Value)} {N ps : List Str} {sp : Sp}
    (lk : K.lookup f = some ⟨oc, od, .func (PySem.W.fnOf name qual params body scope dV kV doc pm an cdv ct), osl⟩)
    (hcd : PySem.W.codeIn K cdv qual = true) (S : FnScope N ps scope)
    (len : ∀ vs H Q E, sp vs H Q E → vs.length = ps.length)
    (hbody : ∀ (A : Around) (outer : List Env) (s : Shared) (H : Hp) (vs : List V) (Q : VK) (E : XK),
      Room k (A.deeper (envOfC qual scope s.heap.objs.size f cdv)) → A.guards = some [] → sp vs H Q E →
      ∃ t, PSs (cxOf CX P w K mg base N qual scope f cdv A outer s H E) body t ∧
        t { nx := fun _ H' => Q .non H', rt := Q } (start N vs) H) :
    FnG P w K mg base CX (k + 1) f (PySem.W.fnOf name qual params body scope dV kV doc pm an cdv ct) ps sp := by
  constructor
  · exact len
  intro A outer s H args us vs Q E hr gd e0 hb r hsp
  have old : ∀ b o, base.get? b = some o → s.heap.get? b = some o := fun b o e => (e0.bs b o e).1
  have KX : K.In s.heap := e0.mod.kin.keeps old
  have lim : s.heap.NoLimit := e0.mod.nolimit.keeps old
  have hkind : ∀ y ∈ ps.zip us, scope.names.lookup y.1 = some .local ∨
      (scope.names.lookup y.1 = some .cell ∧
        ((cellsFrom (s.heap.objs.size + 1) scope.names []).lookup y.1).isSome = true) := by
    rintro ⟨n, v⟩ hy
    have hn := (List.of_mem_zip hy).1
    rcases S.par n hn with q | q
    · exact Or.inl q
    · exact Or.inr ⟨q, PySem.W.cellsFrom_some _ _ _ (Or.inl q)⟩
  refine codeAny_call_function hr.depth (KX _ _ lk) rfl S.co S.gen rfl (PySem.W.codeRec_of KX hcd) (hb _ _ _ _ ?_)
  refine wpAny_newFunctionEnv_cells S.kind hkind ?_
  rintro env rfl s1 x
  refine ⟨lim.keeps x.toInCall.keep, codeAny_func ?_⟩
  obtain ⟨t, ht, hq⟩ := hbody A outer s H vs Q E (hr.deeper _) gd hsp
  have I := inv_start (CX := CX) (E := E) S hr.hd e0 (len _ _ _ _ hsp) r x
  refine wpAny_mono (ht.run [] s1 (start N vs) H _ I hq) ?_ (fun _ _ z => z)
  intro fl s' hs
  match fl, hs with
  | .ret u, ⟨v, σ', H', J, rv, q⟩ => exact ⟨v, H', J.os, J.bare, J.base, J.hok, rv, q⟩
  | .next, ⟨σ', H', J, q⟩ => exact ⟨V.non, H', J.os, J.bare, J.base, J.hok, rfl, q⟩
  | .brk, ⟨_, _, _, q⟩ => exact False.elim q
  | .cont, ⟨_, _, _, q⟩ => exact False.elim q

section
variable {P : Program} {w : World} {K : PySem.W.Frag} {mg : Str → Option Value} {base : Heap}
theorem okG {x qual : Str} {st : Stmt} {f : Addr} {fd : FuncData} {N ps : List Str} {k : Nat} {sp : Sp}
    (F : Fun K x qual st f fd) (S : FnScope N ps (defScope st))
    (len : ∀ vs H Q E, sp vs H Q E → vs.length = ps.length)
    (hbody : ∀ (cdv : Value) (A : Around) (outer : List Env) (s : Shared) (H : Hp) (vs : List V) (Q : VK) (E : XK),
      Room k (A.deeper (envOfC qual (defScope st) s.heap.objs.size f cdv)) → A.guards = some [] → sp vs H Q E →
      ∃ t, PSs (cxOf CX0 P w K mg base N qual (defScope st) f cdv A outer s H E).nox (defBody st) t ∧
        t { nx := fun _ H' => Q .non H', rt := Q } (start N vs) H) :
    FnG P w K mg base CX0 (k + 1) f fd ps sp := by
  obtain ⟨oc, od, kV, doc, pm, an, cdv, ct, osl, e, lk, hcd⟩ := F.ex
  subst e
  refine fnG_of lk hcd S len ?_
  intro A outer s H vs Q E hr gd hsp
  obtain ⟨t, h, q⟩ := hbody cdv A outer s H vs Q E hr gd hsp
  exact ⟨t, h.nox, q⟩
end

/-! ### the end of a law, by such a promise -/
theorem law_end {P : Program} {w : World} {K : PySem.W.Frag} {mg mb : Str → Option Value} {CX : CXT} {k : Nat}
    {fa a : Addr} {fd : FuncData} {x : Str} {sp : Sp} {s₁ : Shared} {vs : List Value} {ns : List Int}
    (KX : K.In s₁.heap) (hns : s₁.heap.Ns mainGlobals mg) (hb : s₁.heap.Ns builtinsNs mb)
    (hbb : ∀ x : Str, x ≠ "__name__" → mb x = bootBuiltins x) (hlim : s₁.heap.NoLimit) (hg : s₁.gens = #[])
    (ha : s₁.heap.get? a = some { cls := .type "list", data := .seq vs.toArray }) (hi : IntsAre vs ns)
    (hl : ns.length ≤ sizeLine) (hr : Room k callerA) (hsm : ∃ mm, s₁.heap.Ns sysModules mm)
    (F : ∀ base : Heap, K.In base → base.Ns mainGlobals mg → (∃ mm, base.Ns sysModules mm) → FnG P w K mg base CX k fa fd [x] sp)
    (hbind : ∀ (s : Shared) (u : Value), BindsTo s fd ⟨[u], []⟩ [(x, u)])
    (hsp : ∀ H : Hp, Only H → SqL K H a (ns.map V.int) → sp [.ref a] H (fun v _ => v = .bl true) fun _ _ _ => False)
    (hCX : ∀ H e s', CX [] H s₁ (fun _ _ _ => False) e s' → False) :
    codeAny (model P w) callerA (.call (.ref fa) ⟨[.ref a], []⟩)
      (fun r s' => r = .ok (.ret (.bool true)) ∧ OldK s₁.heap s'.heap ∧ s'.os = s₁.os ∧ AllBare s'.gens) s₁ := by
  have rv := vals_ints hi
  have lenV := hi.length
  have core : ∀ H : Hp, Only H → SqL K H a (ns.map V.int) → HOk P w H s₁.heap → (∀ b, H b ≠ none → b = a) →
      (H a ≠ none → K.lookup a = none) →
      codeAny (model P w) callerA (.call (.ref fa) ⟨[.ref a], []⟩)
        (fun r s' => r = .ok (.ret (.bool true)) ∧ OldK s₁.heap s'.heap ∧ s'.os = s₁.os ∧ AllBare s'.gens) s₁ := by
    intro H hO hS hok hA hK
    have at_a : ∀ {b : Addr} {u : HO}, H b = some u → b = a := fun {b u} q => hA b (by rw [q]; simp)
    have noA : ∀ {b : Addr} {o : Obj} {es : Array DictEntry} {ep : Nat}, s₁.heap.get? b = some o →
        o.data = .dict es ep → H b = none := by
      intro b o es ep e d
      cases q : H b with
      | none => rfl
      | some u =>
        rw [at_a q, ha] at e
        cases e
        exact nomatch d
    have nsK : ∀ {b : Addr} {m : Str → Option Value}, s₁.heap.Ns b m → (hidT s₁.heap H).Ns b m := by
      rintro b m ⟨o, es, ep, e, d, r⟩
      exact ⟨o, es, ep, hidT_get e (noA e d), d, r⟩
    have hKb : K.In (hidT s₁.heap H) := by
      intro b o e
      refine hidT_get (KX b o e) ?_
      cases q : H b with
      | none => rfl
      | some u =>
        have e' := at_a q
        subst e'
        rw [hK (by rw [q]; simp)] at e
        cases e
    have hM : Mod K mg (hidT s₁.heap H) := by
      obtain ⟨mc, h1, h2⟩ := hlim
      exact ⟨hKb, nsK hns, ⟨mb, nsK hb, hbb⟩, ⟨mc, nsK h1, h2⟩⟩
    have e0 : Env0 P w K mg (hidT s₁.heap H) callerA [] s₁ H := by
      refine ⟨rfl, hM, fun b o e => of_hidT e, Nat.le_of_eq (hidT_size _ _), trivial, ?_, hok, .of_eq hg⟩
      intro b hb
      exact absurd (show b ∈ ([] : List Addr) from hb) (by simp)
    have hmods : ∃ mm, (hidT s₁.heap H).Ns sysModules mm := by
      obtain ⟨mm, h1⟩ := hsm
      exact ⟨mm, nsK h1⟩
    have z := (F _ hKb (nsK hns) hmods).go callerA [] s₁ H ⟨[.ref a], []⟩ [.ref a] [.ref a] _ _ hr rfl e0
      (hbind s₁ (.ref a)) (.cons rfl .nil) (hsp H hO hS)
    refine codeAny_mono z fun r s' h => ?_
    match r, h with
    | .error e, h => exact (hCX H e s' h).elim
    | .ok .next, h => exact False.elim h
    | .ok .brk, h => exact False.elim h
    | .ok .cont, h => exact False.elim h
    | .ok (.ret u), ⟨v, H', os, bare, un, hok', r', q⟩ =>
      have q' : v = .bl true := q
      subst q'
      obtain rfl : u = Value.bool true := r'
      refine ⟨rfl, OldK.of_keep ?_, os, bare⟩
      intro b o e
      cases q : H b with
      | none =>
        refine un.keep b o e q ?_ (by simp)
        intro z
        exact absurd (show b ∈ ([] : List Addr) from z) (by simp)
      | some u =>
        rcases hO b with z | ⟨ob, xs, z⟩
        · rw [q] at z
          cases z
        · obtain ⟨e1, _⟩ := hok b _ z
          obtain ⟨e2, _⟩ := hok' b _ (un.frzs b ob _ z)
          rw [e] at e1
          cases e1
          exact e2
  cases hk : K.lookup a with
  | some o =>
    have e := KX a o hk
    rw [ha] at e
    cases e
    refine core (fun _ => none) (fun _ => Or.inl rfl) (Or.inr ⟨_, vs.toArray, _, hk, rfl, rfl, rfl, ?_, ?_⟩) ?_ ?_ ?_
    · rw [List.size_toArray, lenV]
      exact hl
    · simpa using rv
    · intro b u z
      cases (show (none : Option HO) = some u from z)
    · intro b z
      exact absurd rfl z
    · intro z
      exact absurd rfl z
  | none =>
    let o₁ : Obj := { cls := .type "list", data := .seq vs.toArray }
    let H₁ : Hp := fun b => if b = a then some (.frz o₁ (.lst (ns.map V.int))) else none
    have at1 : H₁ a = some (.frz o₁ (.lst (ns.map V.int))) := if_pos rfl
    have off : ∀ b, b ≠ a → H₁ b = none := fun b h => if_neg h
    refine core H₁ (fun b => ?_) (Or.inl (Or.inr ⟨o₁, at1⟩)) (fun b u z => ?_) (fun b z => ?_) fun _ => hk
    · by_cases hb : b = a
      · subst hb
        exact Or.inr ⟨_, _, at1⟩
      · exact Or.inl (off b hb)
    · by_cases hb : b = a
      · subst hb
        rw [at1] at z
        cases z
        refine ⟨ha, ?_, vs, _, rv, ha⟩
        rw [List.length_map]
        exact hl
      · rw [off b hb] at z
        cases z
    · by_cases hb : b = a
      · exact hb
      · exact absurd (off b hb) z

theorem walkG {l : PySem.W.OpenLaw} {n k : Nat} {q : Program} {loose : List Str} {XP : (Str → Option Value) → Heap → Prop}
    {YP : World → Heap → Prop} {d : DefRec} {K : Params → PySem.W.Frag} {CX : CXT} {sp : PySem.W.Frag → Sp} {x : Str}
    (hq : importsNone q = true) (hn : l.most = some n) (hn2 : n ≤ sizeLine) (hdf : d.params.defaults = []) (hr : Room k callerA)
    (hY : ∀ (w : World) (h : Heap), YP w h → (K w.params).In h)
    (F : ∀ (w : World) (mg : Str → Option Value) (fa : Addr) (h : Heap), (K w.params).In h → h.Ns mainGlobals mg →
      mg d.name = some (.ref fa) →
      ∃ fd : FuncData, (∀ (s : Shared) (u : Value), BindsTo s fd ⟨[u], []⟩ [(x, u)]) ∧
        ∀ base : Heap, (K w.params).In base → base.Ns mainGlobals mg → (∃ mm, base.Ns sysModules mm) →
          FnG l.prog w (K w.params) mg base CX k fa fd [x] (sp (K w.params)))
    (hsp : ∀ (K : PySem.W.Frag) (H : Hp) (a : Addr) (ns : List Int), ns.length ≤ n → Only H →
      SqL K H a (ns.map V.int) → sp K [.ref a] H (fun v _ => v = .bl true) fun _ _ _ => False)
    (hCX : ∀ (H : Hp) (s : Shared) (e : Value) (s' : Shared), CX [] H s (fun _ _ _ => False) e s' → False) :
    PySem.W.WalkO q loose XP YP l.row.toRowW d [] (fun f vs => PySem.call f vs) := by
  refine Att.attach_call hn hdf ?_
  intro w s₀ s₁ mg mb fa o pm cd doc a vs ns G Y ho hd hcd hmg hobj hints hlen hg
  have KX := hY w _ Y
  obtain ⟨fd, hb, hF⟩ := F w mg fa _ KX G.T.g hmg
  have hz := Nat.le_trans hlen hn2
  obtain ⟨mm, hmm, _⟩ := (G.T.seer hq).mods
  refine law_end KX G.T.g G.T.b G.T.builtins G.T.nolimit hg hobj hints hz hr ⟨mm, hmm⟩ hF hb ?_ ?_
  · exact fun H hO hS => hsp _ H a ns hlen hO hS
  · exact fun H e s' => hCX H s₁ e s'

/-! ### powers of great numbers -/
def CPowG (i j : Int) : Prop := 0 ≤ j ∧ (Builtin.Int.intBits i : Int) * j ≤ 2 ^ 27
theorem op_powG {X : Cx} : OpR X (binaryOp .Pow) (rI CPowG fun i j => .int (i ^ j.toNat)) :=
  opI fun _ _ _ _ _ _ _ hc q => pow_int hc.1 hc.2 q

/-! ### data at any depth, dicts among them -/
def kD : Key → PyData
  | .inl i => .int i
  | .inr x => .str x
mutual
inductive Da (K : PySem.W.Frag) (H : Hp) : V → PyData → Prop
  | non : Da K H .non .none
  | bl (b : Bool) : Da K H (.bl b) (.bool b)
  | int (i : Int) : Da K H (.int i) (.int i)
  | str (x : Str) : Da K H (.str x) (.str x)
  | lst {a : Addr} {xs : List V} {ds : List PyData} (h : SqL K H a xs) (t : DaAll K H xs ds) : Da K H (.ref a) (.list ds)
  | tup {a : Addr} {xs : List V} {ds : List PyData} (h : SqT K H a xs) (t : DaAll K H xs ds) : Da K H (.ref a) (.tuple ds)
  | dic {a : Addr} {kvs : List (Key × V)} {ds : List (PyData × PyData)} (h : H a = some (.dK kvs)) (t : DaKv K H kvs ds) : Da K H (.ref a) (.dict ds)
inductive DaAll (K : PySem.W.Frag) (H : Hp) : List V → List PyData → Prop
  | nil : DaAll K H [] []
  | cons {v : V} {vs : List V} {d : PyData} {ds : List PyData} (h : Da K H v d) (t : DaAll K H vs ds) : DaAll K H (v :: vs) (d :: ds)
inductive DaKv (K : PySem.W.Frag) (H : Hp) : List (Key × V) → List (PyData × PyData) → Prop
  | nil : DaKv K H [] []
  | cons {k : Key} {v : V} {kvs : List (Key × V)} {d : PyData} {ds : List (PyData × PyData)} (h : Da K H v d) (t : DaKv K H kvs ds) :
      DaKv K H ((k, v) :: kvs) ((kD k, d) :: ds)
end
section
variable {K : PySem.W.Frag} {H H' : Hp}
theorem seqT_mono (s : Same H H') {a : Addr} {xs : List V} (h : SqT K H a xs) : SqT K H' a xs := by
  rcases h with (e | ⟨o, e⟩) | e
  · exact .inl (.inl (s _ _ e))
  · exact .inl (.inr ⟨o, s _ _ e⟩)
  · exact .inr e
mutual
theorem Da.mono (s : Same H H') : ∀ {v : V} {d : PyData}, Da K H v d → Da K H' v d
  | _, _, .non => .non
  | _, _, .bl b => .bl b
  | _, _, .int i => .int i
  | _, _, .str x => .str x
  | _, _, .lst h t => .lst (s.seq h) (DaAll.mono s t)
  | _, _, .tup h t => .tup (seqT_mono s h) (DaAll.mono s t)
  | _, _, .dic h t => .dic (s _ _ h) (DaKv.mono s t)
theorem DaAll.mono (s : Same H H') : ∀ {vs : List V} {ds : List PyData}, DaAll K H vs ds → DaAll K H' vs ds
  | _, _, .nil => .nil
  | _, _, .cons h t => .cons (Da.mono s h) (DaAll.mono s t)
theorem DaKv.mono (s : Same H H') : ∀ {vs : List (Key × V)} {ds : List (PyData × PyData)}, DaKv K H vs ds → DaKv K H' vs ds
  | _, _, .nil => .nil
  | _, _, .cons h t => .cons (Da.mono s h) (DaKv.mono s t)
end
end
section
variable {X : Cx} {pins : List (Addr × Obj)} {σ : L2.St} {H : Hp} {s : Shared}
theorem key_reads {h : Heap} {k : Key} {u : Value} (e : keyIs k u = true) : Reads h u (kD k) [] := by
  rcases keyIs_shape e with ⟨i, t, rfl, rfl⟩ | ⟨x, t, rfl, rfl⟩
  · exact .int i t
  · exact .str x t
/-- a list does not stand where the modules' dict stands -/
theorem not_mods (hm : ∃ mm, X.base.Ns sysModules mm) (I : Inv X pins σ H s) {a : Addr} {o : Obj} {vs : Array Value} {n : Nat}
    (ho : s.heap.get? a = some o) (hd : o.data = .seq vs n) : sysModules ≠ a := by
  rintro rfl
  obtain ⟨mm, om, es, ep, e1, e2, _⟩ := hm
  have e3 := I.bk _ _ e1
  rw [ho] at e3
  cases e3
  rw [hd] at e2
  cases e2
mutual
theorem Da.reads (hm : ∃ mm, X.base.Ns sysModules mm) (I : Inv X pins σ H s) : ∀ (d : PyData) (v : V) (u : Value), Da X.K H v d → RelV v u → ∃ as, Reads s.heap u d as ∧ sysModules ∉ as
  | .none, _, _, h, r => by
    cases h
    cases r
    exact ⟨_, .none, by simp⟩
  | .bool b, _, _, h, r => by
    cases h
    cases r
    exact ⟨_, .bool b, by simp⟩
  | .int i, _, _, h, r => by
    cases h
    obtain ⟨t, rfl⟩ := r
    exact ⟨_, .int i t, by simp⟩
  | .str x, _, _, h, r => by
    cases h
    obtain ⟨t, rfl⟩ := r
    exact ⟨_, .str x t, by simp⟩
  | .list ds, _, _, h, r => by
    cases h with
    | lst hs ha =>
      cases r
      obtain ⟨its, rv, ⟨o, n, ho, hc, _, hd⟩, _⟩ := I.list hs
      obtain ⟨as, hr, no⟩ := Da.readsAll hm I ds _ its ha rv
      refine ⟨_, .list ho hc hd hr, ?_⟩
      rw [List.mem_cons, not_or]
      exact ⟨not_mods hm I ho hd, no⟩
  | .tuple ds, _, _, h, r => by
    cases h with
    | tup hs ha =>
      cases r
      obtain ⟨its, rv, ⟨o, ho, hc, n, hd⟩, _⟩ := I.tuple hs
      obtain ⟨as, hr, no⟩ := Da.readsAll hm I ds _ its ha rv
      exact ⟨_, .tuple ho hc hd hr, no⟩
  | .dict ds, _, _, h, r => by
    cases h with
    | @dic a kvs _ he hk =>
      cases r
      have ok : ObjOk X.prog X.w H s.heap a (.dK kvs) := I.hok a _ he
      obtain ⟨_, ns, vs, kv, o, es, ep, ho, ex, hd, _, ps, _⟩ := ok
      obtain ⟨as, bs, h1, h2, n1, n2⟩ := Da.readsKv hm I ds kvs vs es.toList hk kv ps
      refine ⟨_, .dict ho ex.1 hd h1 h2, ?_⟩
      rw [List.mem_append, List.mem_cons, not_or, not_or]
      refine ⟨⟨fun z => ?_, n1⟩, n2⟩
      rw [← z] at ns
      exact absurd ns (by decide)
theorem Da.readsAll (hm : ∃ mm, X.base.Ns sysModules mm) (I : Inv X pins σ H s) : ∀ (ds : List PyData) (vs : List V) (us : List Value), DaAll X.K H vs ds → Vals vs us → ∃ as, ReadsAll s.heap us ds as ∧ sysModules ∉ as
  | [], _, _, h, r => by
    cases h
    cases r
    exact ⟨_, .nil, by simp⟩
  | d :: ds, _, _, h, r => by
    cases h with
    | cons h1 h2 =>
      cases r with
      | cons r1 r2 =>
        obtain ⟨as, q1, n1⟩ := Da.reads hm I d _ _ h1 r1
        obtain ⟨bs, q2, n2⟩ := Da.readsAll hm I ds _ _ h2 r2
        refine ⟨_, .cons q1 q2, ?_⟩
        rw [List.mem_append, not_or]
        exact ⟨n1, n2⟩
theorem Da.readsKv (hm : ∃ mm, X.base.Ns sysModules mm) (I : Inv X pins σ H s) : ∀ (ds : List (PyData × PyData)) (kvs : List (Key × V)) (vs : List (Key × Value)) (es : List DictEntry), DaKv X.K H kvs ds → KV kvs vs →
    Pairs (mixKind X.prog X.w) es vs → ∃ as bs, ReadsAll s.heap (es.map (·.key)) (ds.map (·.1)) as ∧ ReadsAll s.heap (es.map (·.val)) (ds.map (·.2)) bs ∧ sysModules ∉ as ∧ sysModules ∉ bs
  | [], _, _, _, h, r, p => by
    cases h
    cases r
    cases p
    exact ⟨_, _, .nil, .nil, by simp, by simp⟩
  | d :: ds, _, _, _, h, r, p => by
    cases h with
    | cons h1 h2 =>
      cases r with
      | cons r1 r2 =>
        cases p with
        | cons p1 p2 p3 =>
          obtain ⟨e1, e2⟩ := r1
          obtain ⟨as, q1, n1⟩ := Da.reads hm I _ _ _ h1 e2
          obtain ⟨cs, bs, q2, q3, n2, n3⟩ := Da.readsKv hm I ds _ _ _ h2 r2 p3
          rw [← p2] at q1
          rw [← e1] at p1
          refine ⟨_, _, .cons (key_reads p1) q2, .cons q1 q3, by simpa using n2, ?_⟩
          rw [List.mem_append, not_or]
          exact ⟨n1, n3⟩
end
end
/-! ### repr of data -/
def rRepr (K : PySem.W.Frag) : List V → Hp → VK → Prop := fun xs H Q =>
  ∃ (a : Addr) (d : PyData), xs = [.ref a] ∧ Da K H (.ref a) d ∧ d.showable = true ∧ d.depth ≤ 64 ∧ d.shown.length ≤ sizeLine ∧ Q (.str d.shown) H
theorem call_repr {X : Cx} (hm : ∃ mm, X.base.Ns sysModules mm) (gd : X.A.guards = some []) (hu : X.A.units + 70 < cLine) :
    CallR X (.builtin "repr") (rRepr X.K) := by
  intro pins s σ H xs us Q I r h
  obtain ⟨a, d, rfl, hs, sh, dp, sz, q⟩ := h
  cases r with
  | cons r1 r2 =>
    cases r2
    obtain ⟨as, rd, sy⟩ := Da.reads hm I d _ _ hs r1
    obtain rfl := r1
    refine repr_of_reads' rd sh (fun _ => sy) gd (by omega) (fun _ _ e => e) (fun h' u tk k => ?_) sz
    exact ⟨.str d.shown, H, I.kept (h' := h') (t' := tk) k, ⟨u, rfl⟩, q⟩
end Ev

/-! ## What an expression gives, while all that is tracked stands -/
namespace Ev
open PySem PySem.Spec PyProof.Rows L2
theorem PE.imp {X : Cx} {e : Expr} {t t' : TE} (h : PE X e t) (i : ∀ σ H Q, t' σ H Q → t σ H Q) : PE X e t' :=
  ⟨fun pins s σ H Q I z => h.run pins s σ H Q I (i σ H Q z)⟩
theorem Same.rfl' {H : Hp} : Same H H := fun _ _ e => e
theorem same_put {H : Hp} {p : Addr} {o : HO} (h : H p = none) : Same H (upd H p o) := fun b x e => by
  rw [upd_ne (ne_of_none e h)]
  exact e
/-- all but p stands as it stood -/
def Bu (p : Addr) (H H' : Hp) : Prop := ∀ b o, b ≠ p → H b = some o → H' b = some o
theorem Bu.refl {p : Addr} {H : Hp} : Bu p H H := fun _ _ _ e => e
theorem Bu.trans {p : Addr} {H H1 H2 : Hp} (h : Bu p H H1) (k : Bu p H1 H2) : Bu p H H2 := fun b o n e => k b o n (h b o n e)
theorem Bu.put {p : Addr} {H : Hp} {o : HO} : Bu p H (upd H p o) := fun b _ n e => by
  rw [upd_ne n]
  exact e
theorem Bu.new {p q : Addr} {H : Hp} {o : HO} (h : H q = none) : Bu p H (upd H q o) := fun b _ _ e => by
  rw [upd_ne (ne_of_none e h)]
  exact e
theorem Bu.of {p : Addr} {H H' : Hp} (h : Same H H') : Bu p H H' := fun b o _ e => h b o e
structure GP where
  p : Hp → V → Prop
  mono : ∀ {H H' : Hp} {u : V}, Same H H' → p H u → p H' u
def AllG (Gs : List GP) (H : Hp) (us : List V) : Prop := Paired (fun (G : GP) u => G.p H u) Gs us
theorem AllG.mono {H H' : Hp} (s : Same H H') : ∀ {Gs : List GP} {us : List V}, AllG Gs H us → AllG Gs H' us
  | _, _, .nil => .nil
  | G :: _, _, .cons h t => .cons (G.mono s h) (AllG.mono s t)
theorem AllG.append {H : Hp} : ∀ {Gs Gs' : List GP} {us us' : List V}, AllG Gs H us → AllG Gs' H us' → AllG (Gs ++ Gs') H (us ++ us')
  | _, _, _, _, .nil, k => k
  | _ :: _, _, _, _, .cons h t, k => .cons h (AllG.append t k)
def gEq (v : V) : GP := ⟨fun _ u => u = v, fun _ h => h⟩
def gLst (Gs : List GP) : GP := ⟨fun H u => ∃ p us, u = .ref p ∧ H p = some (.lst us) ∧ AllG Gs H us, fun s ⟨p, us, h1, h2, h3⟩ => ⟨p, us, h1, s _ _ h2, h3.mono s⟩⟩
def Gives (H0 : Hp) (te : TE) (G : GP) (σ : L2.St) : Prop := ∀ (H : Hp) (Q : VK), Same H0 H → (∀ H' u, Same H H' → G.p H' u → Q u H') → te σ H Q
def GivesL (H0 : Hp) (ta : TA) (Gs : List GP) (σ : L2.St) : Prop := ∀ (H : Hp) (Q : List V → Hp → Prop), Same H0 H → (∀ H' us, Same H H' → AllG Gs H' us → Q us H') → ta σ H Q
section
variable {H0 : Hp} {σ : L2.St} {te te' : TE} {ta : TA} {G : GP} {Gs Gs' : List GP} {i : Nat} {v : V} {C : Addr} {D : Ends} {rest : TS}
theorem g_nil : GivesL H0 tNil [] σ := fun H Q _ q => q H [] Same.rfl' .nil
theorem g_cons (h : Gives H0 te G σ) (t : GivesL H0 ta Gs σ) : GivesL H0 (tCons te ta) (G :: Gs) σ := fun H Q s q =>
  h H _ s fun H1 u s1 g1 => t H1 _ (s.trans s1) fun H2 us s2 g2 => q H2 (u :: us) (s1.trans s2) (.cons (G.mono s2 g1) g2)
theorem g_lst (h : GivesL H0 ta Gs σ) (hz : Gs.length ≤ 1000 := by simp) : Gives H0 (tLst ta) (gLst Gs) σ := fun H Q s q =>
  h H _ s fun H1 us s1 g1 => by
    have hl : us.length = Gs.length := (Paired.length g1).symm
    refine ⟨?_, fun p np => ?_⟩
    · have y := sizeLine_eq
      omega
    · have s2 := same_put (o := .lst us) np
      exact q _ _ (s1.trans s2) ⟨p, us, rfl, upd_same, g1.mono s2⟩
theorem g_cat (h : Gives H0 te (gLst Gs) σ) (h' : Gives H0 te' (gLst Gs') σ) (hz : Gs.length + Gs'.length ≤ 1000 := by simp) :
    Gives H0 (tOp rCat te te') (gLst (Gs ++ Gs')) σ := fun H Q s q =>
  h H _ s fun H1 u s1 ⟨p, us, e1, h1, g1⟩ => h' H1 _ (s.trans s1) fun H2 u' s2 ⟨p', us', e2, h2, g2⟩ => by
    have l1 : us.length = Gs.length := (Paired.length g1).symm
    have l2 : us'.length = Gs'.length := (Paired.length g2).symm
    refine ⟨p, p', us, us', e1, e2, s2 _ _ h1, h2, ?_, fun r nr => ?_⟩
    · have y := sizeLine_eq
      omega
    · have s3 := same_put (o := .lst (us ++ us')) nr
      exact q _ _ ((s1.trans s2).trans s3) ⟨r, us ++ us', rfl, upd_same, AllG.append (g1.mono (s2.trans s3)) (g2.mono s3)⟩
theorem g_var (hv : σ[i]? = some (some v)) (g : G.p H0 v) : Gives H0 (tVar i) G σ := fun H Q s q => ⟨v, hv, q H v Same.rfl' (G.mono s g)⟩
theorem g_eq (hv : σ[i]? = some (some v)) : Gives H0 (tVar i) (gEq v) σ := g_var hv rfl
theorem s_set (h : Gives H0 te G σ) (k : ∀ H' u, Same H0 H' → G.p H' u → rest D (σ.set i (some u)) H') : tSeq (tAsg te (gName i)) rest D σ H0 :=
  h H0 _ Same.rfl' fun H' u s g => k H' u s g
theorem s_ret (h : Gives H0 te G σ) (k : ∀ H' u, Same H0 H' → G.p H' u → D.rt u H') : tRet te D σ H0 :=
  h H0 _ Same.rfl' fun H' u s g => k H' u s g
end
/-- the abstract heap without p -/
def but (H : Hp) (p : Addr) : Hp := fun b => if b = p then none else H b
theorem but_ne {H : Hp} {p b : Addr} (h : b ≠ p) : but H p b = H b := if_neg h
theorem but_same {H H' : Hp} {p : Addr} (s : Same H H') : Same (but H p) (but H' p) := fun b o e => by
  by_cases h : b = p
  · rw [h] at e
    have z : but H p p = none := if_pos rfl
    rw [z] at e
    cases e
  · rw [but_ne h] at e ⊢
    exact s _ _ e
theorem but_le {H H' : Hp} {p : Addr} (s : Bu p H H') : Same (but H p) H' := fun b o e => by
  by_cases h : b = p
  · rw [h] at e
    have z : but H p p = none := if_pos rfl
    rw [z] at e
    cases e
  · rw [but_ne h] at e
    exact s _ _ h e
/-- data that do not hold p -/
def gDa (K : PySem.W.Frag) (p : Addr) (d : PyData) : GP := ⟨fun H u => Da K (but H p) u d, fun s h => h.mono (but_same s)⟩
section
variable {K : PySem.W.Frag} {p : Addr} {op : HO} {H0 : Hp} {σ : L2.St} {te : TE} {ta : TA} {G : GP} {Gs : List GP} {v : V} {d : PyData} {ds : List PyData}
theorem ne_new {H : Hp} {q : Addr} (hp : H0 p = some op) (s : Same H0 H) (nq : H q = none) : q ≠ p := fun z => by
  rw [z, s _ _ hp] at nq
  cases nq
theorem g_c (h : ∀ H, G.p H v) : Gives H0 (tC v) G σ := fun H Q _ q => q H v Same.rfl' (h H)
theorem g_neg {i : Int} : Gives H0 (tUn (rU fun i => .int (-i)) (tC (.int i))) (gDa K p (.int (-i))) σ := fun H Q _ q => ⟨i, rfl, q H _ Same.rfl' (.int _)⟩
theorem g_pow {i j : Int} (h : CPow i j) : Gives H0 (tOp (rI CPow fun i j => .int (i ^ j.toNat)) (tC (.int i)) (tC (.int j))) (gDa K p (.int (i ^ j.toNat))) σ :=
  fun H Q _ q => ⟨i, j, rfl, rfl, h, q H _ Same.rfl' (.int _)⟩
theorem allDa {H : Hp} : ∀ {ds : List PyData} {us : List V}, AllG (ds.map (gDa K p)) H us → DaAll K (but H p) us ds
  | [], _, .nil => .nil
  | _ :: _, _, .cons h t => .cons h (allDa t)
theorem g_lstD (hp : H0 p = some op) (h : GivesL H0 ta (ds.map (gDa K p)) σ) (hz : ds.length ≤ 1000 := by simp) : Gives H0 (tLst ta) (gDa K p (.list ds)) σ := fun H Q s q =>
  h H _ s fun H1 us s1 g1 => by
    have hl : us.length = ds.length := by rw [← Paired.length g1, List.length_map]
    refine ⟨?_, fun r nr => ?_⟩
    · have y := sizeLine_eq
      omega
    · have s2 := same_put (o := .lst us) nr
      have ne := ne_new hp (s.trans s1) nr
      refine q _ _ (s1.trans s2) (.lst (.inl (.inl ?_)) ((allDa g1).mono (but_same s2)))
      rw [but_ne ne, upd_same]
theorem g_tupD (hp : H0 p = some op) (h : GivesL H0 ta (ds.map (gDa K p)) σ) (hz : ds.length ≤ 1000 := by simp) : Gives H0 (tTup ta) (gDa K p (.tuple ds)) σ := fun H Q s q =>
  h H _ s fun H1 us s1 g1 => by
    have hl : us.length = ds.length := by rw [← Paired.length g1, List.length_map]
    refine ⟨?_, fun r nr => ?_⟩
    · have y := sizeLine_eq
      omega
    · have s2 := same_put (o := .tup us) nr
      have ne := ne_new hp (s.trans s1) nr
      refine q _ _ (s1.trans s2) (.tup (.inl (.inl ?_)) ((allDa g1).mono (but_same s2)))
      rw [but_ne ne, upd_same]
theorem g_dnew (hp : H0 p = some op) : Gives H0 tDNewK (gDa K p (.dict [])) σ := fun H Q s q r nr => by
  refine q _ _ (same_put nr) (.dic ?_ .nil)
  rw [but_ne (ne_new hp s nr), upd_same]
theorem g_disp {x : Str} (hp : H0 p = some op) : Gives H0 (tDisp [(tC (.str x), tTup (tCons (tC .non) tNil))]) (gDa K p (.dict [(.str x, .tuple [.none])])) σ := fun H Q s q r nr => by
  refine ⟨(by show 1 ≤ sizeLine; decide), fun t nt => ?_⟩
  have ne : t ≠ r := fun z => by
    rw [z, upd_same] at nt
    cases nt
  have n1 := ne_new hp s nr
  have n2 := ne_new hp (s.trans (same_put nr)) nt
  refine ⟨by rw [upd_ne ne.symm, upd_same], [(.inr x, .ref t)], rfl, (by show 1 ≤ 15; decide), q _ _ ?_ (.dic (kvs := [(.inr x, .ref t)]) ?_ (.cons (.tup (xs := [.non]) (.inl (.inl ?_)) (.cons .non .nil)) .nil))⟩
  · intro b o e
    have nb : b ≠ r := ne_of_none e nr
    have nbt : b ≠ t := fun z => by
      rw [z] at e
      rw [upd_ne ne, e] at nt
      cases nt
    rw [upd_ne nb, upd_ne nbt, upd_ne nb]
    exact e
  · rw [but_ne n1]
    exact upd_same
  · rw [but_ne n2, upd_ne ne, upd_same]
theorem allEq {H : Hp} : ∀ {ys : List V}, AllG (ys.map gEq) H ys
  | [] => .nil
  | _ :: _ => .cons rfl allEq
/-- [elt for .. in xs], the elements plain values -/
theorem g_lcP {a : Addr} {xs ys : List V} {i : Nat} {g : TG} {vs : List Nat} (hi : σ[i]? = some (some (.ref a))) (hx : SqL K H0 a xs) (hz : xs.length ≤ 1000) (hl : ys.length = xs.length)
    (he : ∀ (j : Nat) (x y : V), xs[j]? = some x → ys[j]? = some y → ∀ (H : Hp) (R : VK), Same H0 H → R y H →
      g x (wipe σ vs) H fun σ2 H2 => wipe σ2 vs = wipe σ vs ∧ te σ2 H2 R) :
    Gives H0 (tLc (iList K (tVar i)) g tYes te vs) (gLst (ys.map gEq)) σ := fun H Q s q => by
  refine ⟨_, hi, a, rfl, ⟨xs, s.seq hx⟩, fun D nD => ?_⟩
  have sD : Same H (upd H D (.lst [])) := same_put nD
  have y := sizeLine_eq
  refine lc_list (K := K) (a := a) (xs := xs) (fun k H' => Same H H' ∧ H' D = some (.lst (ys.take k))) ⟨sD, upd_same⟩ (fun k H' _ ⟨s', _⟩ => s'.seq (s.seq hx)) ?_ ?_
  · rintro k x H' hk ⟨s', eD⟩
    have hk' : k < ys.length := by
      obtain ⟨h, _⟩ := List.getElem?_eq_some_iff.mp hk
      omega
    have hy := List.getElem?_eq_getElem hk'
    refine cast ?_ (he k x ys[k] hk hy H' (fun y H4 => ∃ acc, H4 D = some (.lst acc) ∧ acc.length < sizeLine ∧ Same H (upd H4 D (.lst (acc ++ [y]))) ∧ upd H4 D (.lst (acc ++ [y])) D = some (.lst (ys.take (k + 1)))) (s.trans s') ⟨_, eD, ?_, ?_, ?_⟩)
    · rfl
    · rw [List.length_take]
      omega
    · intro b o e
      rw [upd_ne (ne_of_none e nD)]
      exact s' _ _ e
    · rw [upd_same, List.take_add_one, hy]
      rfl
  · rintro H' ⟨s', eD⟩
    rw [← hl, List.take_length] at eD
    exact q H' _ s' ⟨D, ys, rfl, eD, allEq⟩
/-- [elt for i in range(m)], the elements plain values -/
theorem g_lcR {ys : List V} {m : Int} {g : TG} {vs : List Nat} (hm : -(2 ^ 62) ≤ m ∧ m < 2 ^ 62) (hl : ys.length = m.toNat) (hz : ys.length ≤ 1000)
    (he : ∀ (j : Nat) (y : V), ys[j]? = some y → ∀ (H : Hp) (R : VK), Same H0 H → R y H →
      g (.int (0 + j)) (wipe σ vs) H fun σ2 H2 => wipe σ2 vs = wipe σ vs ∧ te σ2 H2 R) :
    Gives H0 (tLc (iRng1 (tCons (tC (.int m)) tNil)) g tYes te vs) (gLst (ys.map gEq)) σ := fun H Q s q => by
  refine ⟨m, rfl, hm.1, hm.2, fun D nD => ?_⟩
  have sD : Same H (upd H D (.lst [])) := same_put nD
  have y := sizeLine_eq
  refine lc_range (lo := 0) (n := m.toNat) (fun k H' => Same H H' ∧ H' D = some (.lst (ys.take k))) ⟨sD, upd_same⟩ ?_ ?_
  · rintro k H' hk ⟨s', eD⟩
    have hk' : k < ys.length := by omega
    have hy := List.getElem?_eq_getElem hk'
    refine cast ?_ (he k ys[k] hy H' (fun y H4 => ∃ acc, H4 D = some (.lst acc) ∧ acc.length < sizeLine ∧ Same H (upd H4 D (.lst (acc ++ [y]))) ∧ upd H4 D (.lst (acc ++ [y])) D = some (.lst (ys.take (k + 1)))) (s.trans s') ⟨_, eD, ?_, ?_, ?_⟩)
    · rfl
    · rw [List.length_take]
      omega
    · intro b o e
      rw [upd_ne (ne_of_none e nD)]
      exact s' _ _ e
    · rw [upd_same, List.take_add_one, hy]
      rfl
  · rintro H' ⟨s', eD⟩
    rw [← hl, List.take_length] at eD
    exact q H' _ s' ⟨D, ys, rfl, eD, allEq⟩
/-! ### tests whose answer is known -/
def GivesT (H0 : Hp) (tt : TT) (b : Bool) (σ : L2.St) : Prop := ∀ (H : Hp) (Q : Bool → Hp → Prop), Same H0 H → (∀ H', Same H H' → Q b H') → tt σ H Q
theorem s_skip {tt : TT} {t rest : TS} {D : Ends} (h : GivesT H0 tt false σ) (k : ∀ H', Same H0 H' → rest D σ H') : tSeq (tIfS tt t tNext) rest D σ H0 :=
  h H0 _ Same.rfl' fun H' s => iteF (k H' s)
theorem s_skip1 {tt : TT} {t : TS} {D : Ends} (h : GivesT H0 tt false σ) (k : ∀ H', Same H0 H' → D.nx σ H') : tIfS tt t tNext D σ H0 :=
  h H0 _ Same.rfl' fun H' s => iteF (k H' s)
theorem g_repr (h : Gives H0 te G σ) (hd : ∀ H u, Same H0 H → G.p H u → ∃ a, u = .ref a ∧ Da K H u d) (h1 : d.showable = true) (h2 : d.depth ≤ 64) (h3 : d.shown.length ≤ sizeLine) :
    Gives H0 (tCB (rRepr K) (tCons te tNil)) (gEq (.str d.shown)) σ := fun H Q s q =>
  h H _ s fun H1 u s1 g1 => by
    obtain ⟨a, rfl, da⟩ := hd H1 u (s.trans s1) g1
    exact ⟨a, d, rfl, da, h1, h2, h3, q H1 _ s1 rfl⟩
theorem t_neS {te' : TE} {x : Str} (h : Gives H0 te (gEq (.str x)) σ) (h' : Gives H0 te' (gEq (.str x)) σ) : GivesT H0 (tTest (tOp rNe te te')) false σ := fun H Q s q =>
  h H _ s fun H1 u s1 e1 => h' H1 _ (s.trans s1) fun H2 u' s2 e2 => by
    have e1 : u = .str x := e1
    have e2 : u' = .str x := e2
    subst e1
    subst e2
    refine ⟨rfl, _, rfl, ?_⟩
    rw [decide_eq_true rfl]
    exact q H2 (s1.trans s2)
theorem dp_bools {H : Hp} : ∀ bs : List Bool, DpAll K H (bs.map V.bl) (bs.map PyData.bool)
  | [] => .nil
  | b :: bs => .cons (.bl b) (dp_bools bs)
theorem eqv_bools : ∀ bs : List Bool, PyData.eqvAll (bs.map PyData.bool) (bs.map PyData.bool) = true
  | [] => by simp [PyData.eqvAll]
  | b :: bs => by simp [PyData.eqvAll, PyData.eqv, eqv_bools bs]
theorem lay_bools : ∀ bs : List Bool, PyData.canLayAll0 (bs.map PyData.bool) = true
  | [] => by simp [PyData.canLayAll0]
  | b :: bs => by simp [PyData.canLayAll0, PyData.canLay0, lay_bools bs]
theorem depth_bools : ∀ bs : List Bool, PyData.depthAll (bs.map PyData.bool) = 0
  | [] => by simp [PyData.depthAll]
  | b :: bs => by simp [PyData.depthAll, PyData.depth, depth_bools bs]
theorem shaped_bools (bs : List Bool) : SeqAt.shaped (.list (bs.map PyData.bool)) = true := by
  show (PyData.canLay0 (.list (bs.map .bool)) && decide (PyData.depth (.list (bs.map .bool)) ≤ 64)) = true
  simp [PyData.canLay0, PyData.depth, lay_bools, depth_bools]
theorem all_bl {H : Hp} : ∀ {bs : List Bool} {us : List V}, AllG (bs.map fun b => gEq (.bl b)) H us → us = bs.map V.bl
  | [], _, .nil => rfl
  | _ :: _, _, .cons h t => by
    have h : _ = V.bl _ := h
    rw [h, all_bl t]
    rfl
theorem t_neB {te' : TE} {bs : List Bool} (h : Gives H0 te (gLst (bs.map fun b => gEq (.bl b))) σ) (h' : Gives H0 te' (gLst (bs.map fun b => gEq (.bl b))) σ) :
    GivesT H0 (tTest (tOp (rNeD K) te te')) false σ := fun H Q s q =>
  h H _ s fun H1 u s1 ⟨p1, us1, e1, l1, g1⟩ => h' H1 _ (s.trans s1) fun H2 u' s2 ⟨p2, us2, e2, l2, g2⟩ => by
    subst e1
    subst e2
    rw [all_bl g1] at l1
    rw [all_bl g2] at l2
    refine ⟨_, _, .lst (.inl (.inl (s2 _ _ l1))) (dp_bools bs), .lst (.inl (.inl l2)) (dp_bools bs), shaped_bools bs, shaped_bools bs, _, rfl, ?_⟩
    have z : PyData.eqv (.list (bs.map .bool)) (.list (bs.map .bool)) = true := by
      simp only [PyData.eqv]
      exact eqv_bools bs
    rw [z]
    exact q H2 (s1.trans s2)
theorem t_not {tt : TT} {b : Bool} (h : GivesT H0 tt b σ) : GivesT H0 (tNot tt) (!b) σ := fun H Q s q => h H _ s q
theorem t_orF {tt uu : TT} (h : GivesT H0 tt false σ) (k : GivesT H0 uu false σ) : GivesT H0 (tOr tt uu) false σ := fun H Q s q =>
  h H _ s fun H1 s1 => iteF (k H1 Q (s.trans s1) fun H2 s2 => q H2 (s1.trans s2))
end
section
variable {K : PySem.W.Frag} {p : Addr} {H0 : Hp} {σ : L2.St}
theorem g_nonD : Gives H0 (tC .non) (gDa K p .none) σ := g_c fun _ => Da.non
theorem g_blD {b : Bool} : Gives H0 (tC (.bl b)) (gDa K p (.bool b)) σ := g_c fun _ => Da.bl b
theorem g_intD {i : Int} : Gives H0 (tC (.int i)) (gDa K p (.int i)) σ := g_c fun _ => Da.int i
theorem g_strD {x : Str} : Gives H0 (tC (.str x)) (gDa K p (.str x)) σ := g_c fun _ => Da.str x
end
theorem sum_le_all (m : Nat) : ∀ l : List Nat, (∀ n ∈ l, n ≤ m) → l.sum ≤ m * l.length
  | [], _ => by simp
  | n :: l, h => by
    have h1 := h n (List.mem_cons_self ..)
    have h2 := sum_le_all m l fun k hk => h k (List.mem_cons_of_mem _ hk)
    rw [List.sum_cons, List.length_cons, Nat.mul_succ]
    omega
theorem mem_all {H : Hp} : ∀ {Gs : List GP} {us : List V}, AllG Gs H us → ∀ v ∈ us, ∃ G ∈ Gs, G.p H v
  | _, _, .nil, _, h => nomatch h
  | G :: _, _, .cons h t, v, hv => by
    rcases List.mem_cons.mp hv with rfl | hv
    · exact ⟨G, List.mem_cons_self .., h⟩
    · obtain ⟨G', h1, h2⟩ := mem_all t v hv
      exact ⟨G', List.mem_cons_of_mem _ h1, h2⟩
theorem all_eq {H : Hp} : ∀ {ys us : List V}, AllG (ys.map gEq) H us → us = ys
  | [], _, .nil => rfl
  | _ :: _, _, .cons h t => by
    have h : _ = _ := h
    rw [h, all_eq t]
end Ev

/-! ## What the script is drawn from -/
namespace Ev
open PySem PySem.Spec PyProof.Rows L2
def topS (i : Nat) : Stmt := PySem.Challenge.pw_evensamples_k01_programs_of_any_value.main.body.getD i (.Pass ⟨0, 0, 0, 0⟩)
abbrev sPot : Stmt := topS 15
abbrev sTake : Stmt := topS 16
abbrev sOf : Stmt := topS 17
abbrev sNames : Stmt := topS 18
abbrev sItems : Stmt := topS 19
theorem scPot : FnScope ["_law_script", "_law_k", "_law_cell", "_law_own"] ["_law_script", "_law_k"] (defScope sPot) :=
  ⟨rfl, rfl, rfl, by decide +kernel, rfl, by decide +kernel, by decide +kernel⟩
theorem scTake : FnScope ["_law_pot_here", "_law_many", "_law_digit", "_law_prime", "_law_mixed"] ["_law_pot_here", "_law_many"] (defScope sTake) :=
  ⟨rfl, rfl, rfl, by decide +kernel, rfl, by decide +kernel, by decide +kernel⟩
theorem scOf : FnScope ["_law_pot_here", "_law_some"] ["_law_pot_here", "_law_some"] (defScope sOf) :=
  ⟨rfl, rfl, rfl, by decide +kernel, rfl, by decide +kernel, by decide +kernel⟩

/-- the numbers of a pot out of which at most n draws came by reckoning -/
def PotL (n : Nat) (xs : List V) : Prop := ∃ x y c : Int, xs = [.int x, .int y, .int c] ∧ 0 ≤ x ∧ 0 ≤ y ∧ y < 2305843009213693921 ∧ 0 ≤ c ∧ c ≤ n
def spPot (K : PySem.W.Frag) : Sp := fun vs H Q _ => ∃ (a : Addr) (ns : List Int) (k : Int), vs = [.ref a, .int k] ∧ SqL K H a (ns.map V.int) ∧
  0 ≤ k ∧ k ≤ 1000 ∧ ∀ p xs, H p = none → PotL 0 xs → Q (.ref p) (upd H p (.lst xs))
def spTake : Sp := fun vs H Q _ => ∃ (p : Addr) (xs : List V) (m : Int) (n : Nat), vs = [.ref p, .int m] ∧ H p = some (.lst xs) ∧ PotL n xs ∧ n ≤ 1000000 ∧
  0 < m ∧ m.natAbs.log2 < 9000 ∧ ∀ H' ys d, Bu p H H' → H' p = some (.lst ys) → PotL (n + 1) ys → 0 ≤ d → d < m → Q (.int d) H'
def spOf (K : PySem.W.Frag) : Sp := fun vs H Q _ => ∃ (p q : Addr) (xs zs : List V) (n : Nat), vs = [.ref p, .ref q] ∧ H p = some (.lst xs) ∧ PotL n xs ∧ n ≤ 1000000 ∧
  p ≠ q ∧ SqL K H q zs ∧ zs ≠ [] ∧ zs.length ≤ 1000000 ∧ ∀ H' ys v, Bu p H H' → H' p = some (.lst ys) → PotL (n + 1) ys → v ∈ zs → Q v H'
theorem bigPos : (0 : Int) < (10 ^ (50 : Int).toNat) ^ (8 : Int).toNat := by decide +kernel
theorem own_nn (z m : Int) (b : Bool) (h : 0 < m) : 0 ≤ z % m * (if b = true then 1 else 0) := by
  refine Int.mul_nonneg (Int.emod_nonneg _ (by omega)) ?_
  cases b <;> decide
theorem flag_in (b : Bool) : -(2 ^ 64) < (if b = true then 1 else 0 : Int) ∧ (if b = true then 1 else 0 : Int) < 2 ^ 64 := by
  cases b <;> decide
section
variable {P : Program} {w : World} {K : PySem.W.Frag} {mg : Str → Option Value} {base : Heap}
theorem ok_pot {f : Addr} {fd : FuncData} {k : Nat} (F : Fun K "_law_pot" "_law_pot" sPot f fd) (ml : mg "len" = none) (ma : mg "abs" = none) (mi : mg "int" = none) :
    FnOk P w K mg base CX0 (k + 1) f fd ["_law_script", "_law_k"] (spPot K) := by
  refine F.ok scPot (fun vs H Q E h => ?_) (fun cdv A outer s H vs Q E hr h => ?_)
  · obtain ⟨a, ns, k, rfl, _⟩ := h
    rfl
  · obtain ⟨a, ns, k, rfl, hS, k0, k1, q⟩ := h
    refine ⟨_, pss_cons (ps_set (i := 2) scPot.nd rfl (.inl rfl) (pe_op op_add (pe_op op_mul pe_int (pv 1)) pe_int))
      (pss_cons (ps_if (pt_cmpR op_lt (pv 1) (pe_callB call_len_seq (by rfl) ml PySem.boot_len (pa_cons (pv 0) pa_nil)) (nomark _))
        (pss_one (ps_set (i := 2) scPot.nd rfl (.inl rfl) (pe_ix ix_list (pv 0) (pv 1) (fun _ _ => rfl)))) pss_nil)
      (pss_cons (ps_set (i := 3) scPot.nd rfl (.inl rfl) (pe_op op_mul
        (pe_op op_mod (pe_callB call_abs (by rfl) ma (by decide +kernel) (pa_cons (pv 2) pa_nil)) (pe_op op_powG (pe_op op_pow pe_int pe_int) pe_int))
        (pe_callTy call_int1 (by rfl) mi (by decide +kernel) (pa_cons (pe_cmpR op_ge (pe_callB call_abs (by rfl) ma (by decide +kernel) (pa_cons (pv 2) pa_nil)) (pe_op op_pow pe_int pe_int) (nomark _)) pa_nil))))
      (pss_one (ps_ret (pe_lst (pa_cons (pv 3) (pa_cons
        (pe_op op_mod (pe_op op_add (pe_op op_add (pe_op op_mul (pe_op op_mod (pv 2) pe_int) pe_int) (pe_op op_mul (pe_op op_mul pe_int (pv 1)) (pv 1))) pe_int) pe_int)
        (pa_cons pe_int pa_nil)))))))), ?_⟩
    refine ⟨_, rfl, 29, k, rfl, rfl, .inl ⟨by decide, by decide⟩, _, _, rfl, rfl, ?_⟩
    refine ⟨_, rfl, _, rfl, a, _, rfl, .inl hS, k, _, rfl, rfl, _, rfl, ite2 (fun e => ?_) (fun e => ?_)⟩
    · have hk : k < ((ns.map V.int).length : Int) := of_decide_eq_true e
      rw [List.length_map] at hk
      have hk' : k.toNat < ns.length := by omega
      have g : atI (ns.map V.int) k = some (.int ns[k.toNat]) := by
        have z : (ns.map V.int)[k.toNat]? = some (.int ns[k.toNat]) := by
          rw [List.getElem?_map, List.getElem?_eq_getElem hk']
          rfl
        have y := atI_nat z
        rw [Int.toNat_of_nonneg k0] at y
        exact y
      refine ⟨_, rfl, _, rfl, a, _, k, _, rfl, rfl, hS, g, ?_⟩
      refine ⟨_, rfl, _, rfl, 10, 50, rfl, rfl, ⟨by decide, by decide, by decide⟩, _, 8, rfl, rfl, ⟨by decide, by decide +kernel⟩, _, _, rfl, rfl, bigPos, ?_⟩
      refine ⟨_, rfl, _, rfl, 10, 18, rfl, rfl, ⟨by decide, by decide, by decide⟩, _, _, rfl, rfl, .inr ⟨_, rfl, _, _, rfl, rfl, .inr (flag_in _), ?_⟩⟩
      refine ⟨_, rfl, _, rfl, _, _, rfl, rfl, (show (0 : Int) < 2305843009213693951 by decide), _, _, rfl, rfl, .inr ⟨by decide, by decide⟩, _, rfl, _, _, rfl, rfl, .inl ⟨by decide, by decide⟩, _, rfl, _, _, rfl, rfl, .inr ⟨by omega, by omega⟩, ?_⟩
      refine ⟨_, _, rfl, rfl, _, _, rfl, rfl, _, _, rfl, rfl, (show (0 : Int) < 2305843009213693921 by decide), (by show 3 ≤ sizeLine; decide), fun p np => q p _ np ?_⟩
      exact ⟨_, _, 0, rfl, own_nn _ _ _ bigPos, Int.emod_nonneg _ (by decide), Int.emod_lt_of_pos _ (by decide), Int.le_refl 0, by decide⟩
    · refine ⟨_, rfl, _, rfl, 10, 50, rfl, rfl, ⟨by decide, by decide, by decide⟩, _, 8, rfl, rfl, ⟨by decide, by decide +kernel⟩, _, _, rfl, rfl, bigPos, ?_⟩
      refine ⟨_, rfl, _, rfl, 10, 18, rfl, rfl, ⟨by decide, by decide, by decide⟩, _, _, rfl, rfl, .inr ⟨_, rfl, _, _, rfl, rfl, .inr (flag_in _), ?_⟩⟩
      refine ⟨_, rfl, _, rfl, _, _, rfl, rfl, (show (0 : Int) < 2305843009213693951 by decide), _, _, rfl, rfl, .inr ⟨by decide, by decide⟩, _, rfl, _, _, rfl, rfl, .inl ⟨by decide, by decide⟩, _, rfl, _, _, rfl, rfl, .inr ⟨by omega, by omega⟩, ?_⟩
      refine ⟨_, _, rfl, rfl, _, _, rfl, rfl, _, _, rfl, rfl, (show (0 : Int) < 2305843009213693921 by decide), (by show 3 ≤ sizeLine; decide), fun p np => q p _ np ?_⟩
      exact ⟨_, _, 0, rfl, own_nn _ _ _ bigPos, Int.emod_nonneg _ (by decide), Int.emod_lt_of_pos _ (by decide), Int.le_refl 0, by decide⟩
/-- a pot's third number is bounded -/
theorem ok_take {f : Addr} {fd : FuncData} {k : Nat} (F : Fun K "_law_take" "_law_take" sTake f fd) :
    FnOk P w K mg base CX0 (k + 1) f fd ["_law_pot_here", "_law_many"] spTake := by
  refine F.ok scTake (fun vs H Q E h => ?_) (fun cdv A outer s H vs Q E hr h => ?_)
  · obtain ⟨p, xs, m, n, rfl, _⟩ := h
    rfl
  · obtain ⟨p, xs, m, n, rfl, hp, ⟨x, y, c, rfl, x0, y0, y1, c0, c1⟩, hn, m0, m1, q⟩ := h
    have hL : SqL K H p [.int x, .int y, .int c] := .inl (.inl hp)
    refine ⟨_, pss_cons (ps_if (pt_cmpR op_gt (pe_ix ix_list (pv 0) pe_int (fun _ _ => rfl)) pe_int (nomark _))
        (pss_cons (ps_set (i := 2) scTake.nd rfl (.inl rfl) (pe_op op_mod (pe_ix ix_list (pv 0) pe_int (fun _ _ => rfl)) (pv 1)))
        (pss_cons (ps_asg (pe_op op_fdivW (pe_ix ix_list (pv 0) pe_int (fun _ _ => rfl)) (pv 1)) (pg_sub (pv 0) pe_int set_list))
        (pss_one (ps_ret (pv 2))))) pss_nil)
      (pss_cons (ps_asg (pe_op op_add (pe_ix ix_list (pv 0) pe_int (fun _ _ => rfl)) pe_int) (pg_sub (pv 0) pe_int set_list))
      (pss_cons (ps_set (i := 3) scTake.nd rfl (.inl rfl) (pe_ix ix_list (pe_lst (pa_cons pe_int (pa_cons pe_int (pa_cons pe_int (pa_cons pe_int (pa_cons pe_int pa_nil))))))
        (pe_op op_mod (pe_ix ix_list (pv 0) pe_int (fun _ _ => rfl)) pe_int) (fun _ _ => rfl)))
      (pss_cons (ps_set (i := 4) scTake.nd rfl (.inl rfl) (pe_op op_mod (pe_op op_pow (pe_op op_add (pe_op op_add (pe_ix ix_list (pv 0) pe_int (fun _ _ => rfl))
          (pe_op op_mul (pe_op op_mul pe_int (pe_ix ix_list (pv 0) pe_int (fun _ _ => rfl))) (pe_ix ix_list (pv 0) pe_int (fun _ _ => rfl)))) pe_int) pe_int) (pv 3)))
      (pss_one (ps_ret (pe_op op_mod (pe_op op_fdivW (pe_op op_mod (pe_op op_mulW (pv 4) (pe_op op_add (pe_op op_mod (pv 4) pe_int) (pe_op op_mul pe_int (pe_ix ix_list (pv 0) pe_int (fun _ _ => rfl))))) pe_int) pe_int) (pv 1))))))), ?_⟩
    refine ⟨_, rfl, p, _, 0, .int x, rfl, rfl, hL, rfl, _, _, rfl, rfl, _, rfl, ite2 (fun e => ?_) (fun e => ?_)⟩
    · have hx : 0 < x := of_decide_eq_true e
      refine ⟨_, rfl, p, _, 0, .int x, rfl, rfl, hL, rfl, _, rfl, _, _, rfl, rfl, m0, ?_⟩
      refine ⟨_, rfl, p, _, 0, .int x, rfl, rfl, hL, rfl, _, rfl, _, _, rfl, rfl, ⟨m0, m1⟩, _, rfl, p, _, 0, 0, rfl, rfl, hp, rfl, _, rfl, ?_⟩
      exact q _ _ _ Bu.put upd_same ⟨_, _, _, rfl, Int.ediv_nonneg x0 (Int.le_of_lt m0), y0, y1, c0, by omega⟩ (Int.emod_nonneg _ (by omega)) (Int.emod_lt_of_pos _ m0)
    · refine ⟨_, rfl, p, _, 2, .int c, rfl, rfl, hL, rfl, _, _, rfl, rfl, _, rfl, p, _, 2, 2, rfl, rfl, hp, rfl, ?_⟩
      have c0' : 0 ≤ c + 1 := by omega
      have c1' : c + 1 ≤ 1000001 := by omega
      refine ⟨(by show 5 ≤ sizeLine; decide), fun t nt => ?_⟩
      have npt : p ≠ t := fun z => by
        rw [← z, upd_same] at nt
        cases nt
      let H2 : Hp := upd (upd H p (.lst [.int x, .int y, .int (c + 1)])) t (.lst [.int 2147483647, .int 2147483629, .int 2147483587, .int 2147483579, .int 2147483563])
      have h2 : H2 p = some (.lst [.int x, .int y, .int (c + 1)]) := by
        show upd _ t _ p = _
        rw [upd_ne npt, upd_same]
      have hL2 : SqL K H2 p [.int x, .int y, .int (c + 1)] := .inl (.inl h2)
      have hb : Bu p H H2 := Bu.trans Bu.put (Bu.new nt)
      have hT : SqL K H2 t [.int 2147483647, .int 2147483629, .int 2147483587, .int 2147483579, .int 2147483563] := .inl (.inl upd_same)
      obtain ⟨pr, hpr, p1, p2⟩ : ∃ pr : Int, atI [V.int 2147483647, .int 2147483629, .int 2147483587, .int 2147483579, .int 2147483563] ((c + 1) % 5) = some (.int pr) ∧ 0 < pr ∧ pr < 2147483648 := by
        have r0 : 0 ≤ (c + 1) % 5 := Int.emod_nonneg _ (by decide)
        have r1 : (c + 1) % 5 < 5 := Int.emod_lt_of_pos _ (by decide)
        generalize (c + 1) % 5 = r at r0 r1
        have : r = 0 ∨ r = 1 ∨ r = 2 ∨ r = 3 ∨ r = 4 := by omega
        rcases this with rfl | rfl | rfl | rfl | rfl
        · exact ⟨_, rfl, by decide, by decide⟩
        · exact ⟨_, rfl, by decide, by decide⟩
        · exact ⟨_, rfl, by decide, by decide⟩
        · exact ⟨_, rfl, by decide, by decide⟩
        · exact ⟨_, rfl, by decide, by decide⟩
      refine ⟨_, rfl, p, _, 2, .int (c + 1), rfl, rfl, hL2, rfl, _, _, rfl, rfl, (show (0 : Int) < 5 by decide), t, _, _, _, rfl, rfl, hT, hpr, ?_⟩
      -- mixed
      have m3 : 0 ≤ 98299 * (c + 1) := by omega
      have m4 : 98299 * (c + 1) * (c + 1) ≤ 98299 * 1000001 * 1000001 :=
        Int.mul_le_mul (Int.mul_le_mul_of_nonneg_left c1' (by decide)) c1' c0' (by decide)
      have m5 : 0 ≤ 98299 * (c + 1) * (c + 1) := Int.mul_nonneg m3 c0'
      refine ⟨_, rfl, p, _, 1, .int y, rfl, rfl, hL2, rfl, _, rfl, p, _, 2, .int (c + 1), rfl, rfl, hL2, rfl, _, _, rfl, rfl, .inl ⟨by decide, by decide⟩, _, rfl, p, _, 2, .int (c + 1), rfl, rfl, hL2, rfl, _, _, rfl, rfl, .inr ⟨by omega, by omega⟩, ?_⟩
      have pb : CPow (y + 98299 * (c + 1) * (c + 1) + 29) 3 := ⟨by decide, by decide, by omega⟩
      refine ⟨_, _, rfl, rfl, _, _, rfl, rfl, _, _, rfl, rfl, pb, _, rfl, _, _, rfl, rfl, p1, ?_⟩
      have u0 : 0 ≤ (y + 98299 * (c + 1) * (c + 1) + 29) ^ (3 : Int).toNat % pr := Int.emod_nonneg _ (by omega)
      have u1 : (y + 98299 * (c + 1) * (c + 1) + 29) ^ (3 : Int).toNat % pr < pr := Int.emod_lt_of_pos _ p1
      have fin := fun d => q H2 _ d hb h2 ⟨x, y, c + 1, rfl, x0, y0, y1, c0', by omega⟩
      show gName 4 (V.int ((y + 98299 * (c + 1) * (c + 1) + 29) ^ (3 : Int).toNat % pr)) _ _ _
      generalize (y + 98299 * (c + 1) * (c + 1) + 29) ^ (3 : Int).toNat % pr = u at u0 u1 ⊢
      have v0 : 0 ≤ u % 10007 := Int.emod_nonneg _ (by decide)
      have v1 : u % 10007 < 10007 := Int.emod_lt_of_pos _ (by decide)
      refine ⟨_, rfl, _, rfl, _, _, rfl, rfl, (show (0 : Int) < 10007 by decide), _, rfl, p, _, 2, .int (c + 1), rfl, rfl, hL2, rfl, _, _, rfl, rfl, .inl ⟨by decide, by decide⟩, _, _, rfl, rfl, ?_⟩
      refine ⟨_, _, rfl, rfl, wide_mul (a := 40) (b := 40) (by omega) (by omega) (by decide) (by decide) (by decide), _, _, rfl, rfl, (show (0 : Int) < 2305843009213693907 by decide), _, _, rfl, rfl, ⟨by decide, by decide +kernel⟩, _, rfl, _, _, rfl, rfl, m0, ?_⟩
      exact fin _ (Int.emod_nonneg _ (by omega)) (Int.emod_lt_of_pos _ m0)
theorem ok_of {f fT : Addr} {fd fdT : FuncData} (F : Fun K "_law_of" "_law_of" sOf f fd) (FT : Fun K "_law_take" "_law_take" sTake fT fdT) (bT : Binds K fdT ["_law_pot_here", "_law_many"] [])
    (gT : mg "_law_take" = some (.ref fT)) (ml : mg "len" = none) :
    FnOk P w K mg base CX0 2 f fd ["_law_pot_here", "_law_some"] (spOf K) := by
  have GT : FnOk P w K mg base CX0 1 fT fdT ["_law_pot_here", "_law_many"] spTake := ok_take FT
  refine F.ok scOf (fun vs H Q E h => ?_) (fun cdv A outer s H vs Q E hr h => ?_)
  · obtain ⟨p, r, xs, zs, n, rfl, _⟩ := h
    rfl
  · obtain ⟨p, r, xs, zs, n, rfl, hp, hx, hn, ne, hS, z0, z1, q⟩ := h
    refine ⟨_, pss_one (ps_ret (pe_ix ix_list (pv 1) (pe_call GT hr (by rfl) gT FT.kp bT .nil pass0 (pa_cons (pv 0) (pa_cons (pe_callB call_len_seq (by rfl) ml PySem.boot_len (pa_cons (pv 1) pa_nil)) pa_nil))) (fun _ _ => rfl))), ?_⟩
    have hz : 0 < zs.length := by
      cases zs with
      | nil => exact absurd rfl z0
      | cons _ _ => exact Nat.succ_pos _
    have hlog : ((zs.length : Nat) : Int).natAbs.log2 < 9000 := by
      rw [Int.natAbs_natCast]
      exact Nat.lt_of_lt_of_le (PySem.Flt.log2_lt_of (show 0 < 20 by decide) (show zs.length < 2 ^ 20 by omega)) (by decide)
    refine ⟨_, rfl, _, rfl, _, rfl, r, zs, rfl, .inl hS, p, xs, _, n, rfl, hp, hx, hn, by omega, hlog, fun H' ys d hb hy hY d0 d1 => ?_⟩
    have hd : d.toNat < zs.length := by omega
    have hS' : SqL K H' r zs := by
      rcases hS with (e | ⟨o, e⟩) | e
      · exact .inl (.inl (hb _ _ (Ne.symm ne) e))
      · exact .inl (.inr ⟨o, hb _ _ (Ne.symm ne) e⟩)
      · exact .inr e
    have g : atI zs d = some zs[d.toNat] := by
      have y := atI_nat (List.getElem?_eq_getElem hd)
      rw [Int.toNat_of_nonneg d0] at y
      exact y
    exact ⟨r, zs, d, _, rfl, rfl, hS', g, q H' ys _ hb hy hY (List.getElem_mem hd)⟩
end
theorem seq_nn {d : Int} {n : Nat} (h0 : 0 ≤ d) (h1 : d < n) : seqIndex? d n = some d.toNat := by
  unfold seqIndex?
  simp only []
  first
    | (rw [if_neg (by omega), if_pos (by omega)])
    | (split <;> simp_all <;> omega)
    | omega
/-! ### names -/
def pool8 : List Str := ["a", "b", "idle", "line", "loop", "x", "zzzzzzzz", "abcdefgh"]
theorem scNames : FnScope ["_law_pot_here", "_law_many", "_law_pool", "_law_turn"] ["_law_pot_here", "_law_many"] (defScope sNames) :=
  ⟨rfl, rfl, rfl, by decide +kernel, rfl, by decide +kernel, by decide +kernel⟩
def spNames : Sp := fun vs H Q _ => ∃ (p : Addr) (xs : List V) (m n : Nat), vs = [.ref p, .int (m : Nat)] ∧ H p = some (.lst xs) ∧ PotL n xs ∧ n + m ≤ 1000000 ∧ m ≤ 8 ∧
  ∀ (H' : Hp) (ys : List V) (q : Addr) (ns : List Str), Bu p H H' → H' p = some (.lst ys) → PotL (n + m) ys → H q = none → q ≠ p → H' q = some (.lst (ns.map V.str)) → ns.length = m → ns.Nodup → (∀ x ∈ ns, x ∈ pool8) → Q (.ref q) H'
/-- what len of a list or a tuple asks -/
def rLenK (K : PySem.W.Frag) : List V → Hp → VK → Prop := fun xs H Q => ∃ p ys, xs = [V.ref p] ∧ (SqL K H p ys ∨ SqT K H p ys) ∧ Q (.int (ys.length : Nat)) H
theorem perm_erase {α : Type} : ∀ (l : List α) (k : Nat) (h : k < l.length), List.Perm ([l[k]] ++ l.eraseIdx k) l
  | [], _, h => by simp at h
  | x :: l, 0, _ => .refl _
  | x :: l, k + 1, h => by
    have h' : k < l.length := by simpa using h
    have z := perm_erase l k h'
    show List.Perm (l[k] :: x :: l.eraseIdx k) (x :: l)
    exact (List.Perm.swap x l[k] _).trans (z.cons x)
theorem map_erase {α β : Type} (f : α → β) : ∀ (l : List α) (k : Nat), (l.eraseIdx k).map f = (l.map f).eraseIdx k
  | [], _ => rfl
  | _ :: _, 0 => rfl
  | x :: l, k + 1 => by
    show f x :: (l.eraseIdx k).map f = f x :: (l.map f).eraseIdx k
    rw [map_erase f l k]
theorem perm_pop {α : Type} {acc pl : List α} {k : Nat} (h : k < pl.length) : List.Perm ((acc ++ [pl[k]]) ++ pl.eraseIdx k) (acc ++ pl) := by
  rw [List.append_assoc]
  exact List.Perm.append_left acc (perm_erase pl k h)
section
variable {P : Program} {w : World} {K : PySem.W.Frag} {mg : Str → Option Value} {base : Heap}
theorem ok_names {f fT : Addr} {fd fdT : FuncData} (F : Fun K "_law_names" "_law_names" sNames f fd) (FT : Fun K "_law_take" "_law_take" sTake fT fdT) (bT : Binds K fdT ["_law_pot_here", "_law_many"] [])
    (gT : mg "_law_take" = some (.ref fT)) (ml : mg "len" = none) (mR : mg "range" = none) :
    FnOk P w K mg base CX0 2 f fd ["_law_pot_here", "_law_many"] spNames := by
  have GT : FnOk P w K mg base CX0 1 fT fdT ["_law_pot_here", "_law_many"] spTake := ok_take FT
  refine F.ok scNames (fun vs H Q E h => ?_) (fun cdv A outer s H vs Q E hr h => ?_)
  · obtain ⟨p, xs, m, n, rfl, _⟩ := h
    rfl
  · obtain ⟨p, xs, m, n, rfl, hp, hx, hn, hm, q⟩ := h
    refine ⟨_, pss_cons (ps_set (i := 2) scNames.nd rfl (.inr rfl) (pe_lst (pa_cons pe_str (pa_cons pe_str (pa_cons pe_str (pa_cons pe_str (pa_cons pe_str (pa_cons pe_str (pa_cons pe_str (pa_cons pe_str pa_nil))))))))))
      (pss_one (ps_ret (pe_lc (own := [("_law_turn", 3)]) (g := gName 3) (tt := tYes) (te := tBM K "list" rPopAt (tVar 2) (tCons (tCall spTake [] E0 (tCons (tVar 0) (tCons (tCB (rLenK K) (tCons (tVar 2) tNil)) tNil))) tNil)) rfl scNames.nd (pi_range1 rfl mR (pa_cons (pv 1) pa_nil)) (blkOk_by (N := ["_law_pot_here", "_law_many", "_law_pool", "_law_turn"]) (sc := defScope sNames) (by decide +kernel))
        (fun _ _ _ _ _ => pg_name (i := 3) scNames.nd rfl (Or.inl rfl)) (fun _ _ _ _ _ => pts_nil)
        (fun _ _ _ _ _ => pe_bm PySem.F.plainAttrs_list PySem.F.slot_list_pop PySem.F.type_list_pop mt_popAt (pv 2)
          (pa_cons (pe_call GT hr (by rfl) gT FT.kp bT .nil pass0 (pa_cons (pv 0) (pa_cons (pe_callB call_len_seq (by rfl) ml PySem.boot_len (pa_cons (pv 2) pa_nil)) pa_nil))) pa_nil))))), ?_⟩
    refine ⟨(by show 8 ≤ sizeLine; decide), fun r nr => ?_⟩
    have npr : p ≠ r := ne_of_none hp nr
    refine ⟨_, rfl, (m : Nat), rfl, by omega, by omega, fun D nD => ?_⟩
    have npD : p ≠ D := fun z => by
      rw [← z, upd_ne npr, hp] at nD
      cases nD
    have nrD : r ≠ D := fun z => by
      rw [← z, upd_same] at nD
      cases nD
    have nHD : H D = none := by
      rw [upd_ne nrD.symm] at nD
      exact nD
    rw [Int.toNat_natCast]
    have y := sizeLine_eq
    refine lc_range (lo := 0) (n := m) (fun i H' => ∃ (ys : List V) (pl acc : List Str), H' p = some (.lst ys) ∧ PotL (n + i) ys ∧ H' r = some (.lst (pl.map V.str)) ∧ H' D = some (.lst (acc.map V.str)) ∧ acc.length = i ∧
        List.Perm (acc ++ pl) pool8 ∧ Bu p H H') ⟨xs, pool8, [], by rw [upd_ne npD, upd_ne npr]; exact hp, hx, by rw [upd_ne nrD]; exact upd_same, upd_same, rfl, .refl _, fun b o nb e => ?_⟩ ?_ ?_
    · rw [upd_ne (ne_of_none e nHD), upd_ne (ne_of_none e nr)]
      exact e
    · rintro i H' hi ⟨ys, pl, acc, hp', hx', hr', hD', hl', pm, hb'⟩
      have hpl : pl.length = 8 - i := by
        have z := pm.length_eq
        rw [List.length_append, hl'] at z
        have z8 : pool8.length = 8 := rfl
        omega
      have hlog : (((pl.map V.str).length : Nat) : Int).natAbs.log2 < 9000 := by
        rw [Int.natAbs_natCast, List.length_map]
        exact Nat.lt_of_lt_of_le (PySem.Flt.log2_lt_of (show 0 < 20 by decide) (show pl.length < 2 ^ 20 by omega)) (by decide)
      refine ⟨rfl, ?_⟩
      refine ⟨_, rfl, .inl ⟨rfl, _, .inl (.inl hr')⟩, _, rfl, _, rfl, r, _, rfl, .inl (.inl (.inl hr')), p, ys, _, n + i, rfl, hp', hx', by omega, by rw [List.length_map]; omega, hlog, fun H4 zs d hb hz hZ d0 d1 => ?_⟩
      rw [List.length_map] at d1
      have hd : d.toNat < pl.length := by omega
      have hr4 : H4 r = some (.lst (pl.map V.str)) := hb _ _ npr.symm hr'
      have hD4 : H4 D = some (.lst (acc.map V.str)) := hb _ _ npD.symm hD'
      have g1 : seqIndex? d (pl.map V.str).length = some d.toNat := by
        rw [List.length_map]
        exact seq_nn d0 (by omega)
      have g2 : (pl.map V.str)[d.toNat]? = some (.str pl[d.toNat]) := by
        rw [List.getElem?_map, List.getElem?_eq_getElem hd]
        rfl
      refine ⟨r, _, d, d.toNat, _, rfl, rfl, hr4, by omega, by omega, g1, g2, acc.map V.str, ?_, ?_, ?_⟩
      · rw [upd_ne nrD.symm]
        exact hD4
      · rw [List.length_map]
        omega
      · refine ⟨zs, pl.eraseIdx d.toNat, acc ++ [pl[d.toNat]], ?_, hZ, ?_, ?_, by rw [List.length_append, hl']; rfl, (perm_pop hd).trans pm, fun b o nb e => ?_⟩
        · rw [upd_ne npD, upd_ne npr]
          exact hz
        · rw [upd_ne nrD, upd_same, map_erase]
        · rw [upd_same, List.map_append]
          rfl
        · rw [upd_ne (ne_of_none e nHD), upd_ne (ne_of_none e nr)]
          exact hb _ _ nb (hb' _ _ nb e)
    · rintro H' ⟨ys, pl, acc, hp', hx', hr', hD', hl', pm, hb'⟩
      have nd8 : pool8.Nodup := by decide +kernel
      have nda : (acc ++ pl).Nodup := pm.nodup_iff.mpr nd8
      exact q H' ys D acc hb' hp' hx' nHD npD.symm hD' hl' (List.nodup_append.mp nda).1 fun x hx => pm.mem_iff.mp (List.mem_append_left _ hx)
end
/-! ### items -/
inductive It where
  | line (x : Str) (t : Int)
  | loop (r : Int) (is : List It)
mutual
def It.d : It → PyData
  | .line x t => .tuple [.str "line", .str x, .int t]
  | .loop r is => .tuple [.str "loop", .int r, .tuple (Its.d is)]
def Its.d : List It → List PyData
  | [] => []
  | i :: is => It.d i :: Its.d is
end
theorem Its.d_map : ∀ is : List It, Its.d is = is.map It.d
  | [] => by rw [Its.d]; rfl
  | i :: is => by rw [Its.d, Its.d_map is]; rfl
/-- an item as drawn: its names, its numbers, its depth -/
def Wf (ns : List Str) (most : Int) : Nat → It → Prop
  | _, .line x t => x ∈ ns ∧ 1 ≤ t ∧ t ≤ most
  | 0, .loop _ _ => False
  | n + 1, .loop r is => 1 ≤ r ∧ r ≤ most ∧ 1 ≤ is.length ∧ is.length ≤ 3 ∧ ∀ i ∈ is, Wf ns most n i
/-- how often items draw, at most -/
def bud : Nat → Nat → Nat
  | 0, many => 1 + many * 3
  | n + 1, many => 1 + many * (3 + bud n 3)
/-- what is tracked in H' and was not in H -/
def newer (H H' : Hp) : Hp := fun b => if H b = none then H' b else none
theorem newer_at {H H' : Hp} {b : Addr} (h : H b = none) : newer H H' b = H' b := if_pos h
theorem newer_le {A B A' B' : Hp} (h1 : ∀ b, A b = none → A' b = none) (h2 : ∀ b o, A b = none → B b = some o → B' b = some o) : Same (newer A B) (newer A' B') := fun b o e => by
  by_cases hb : A b = none
  · rw [newer_at hb] at e
    rw [newer_at (h1 b hb)]
    exact h2 b o hb e
  · have z : newer A B b = none := if_neg hb
    rw [z] at e
    cases e
theorem newer_sub {H H' : Hp} (h : ∀ b o, H b = none → H' b = some o → H' b = some o) : Same (newer H H') H' := fun b o e => by
  by_cases hb : H b = none
  · rw [newer_at hb] at e
    exact e
  · have z : newer H H' b = none := if_neg hb
    rw [z] at e
    cases e
theorem daAll_append {K : PySem.W.Frag} {H : Hp} {v : V} {d : PyData} (h : Da K H v d) : ∀ {vs : List V} {ds : List PyData}, DaAll K H vs ds → DaAll K H (vs ++ [v]) (ds ++ [d])
  | _, _, .nil => .cons h .nil
  | _, _, .cons a t => .cons a (daAll_append h t)
theorem daAll_len {K : PySem.W.Frag} {H : Hp} : ∀ {vs : List V} {ds : List PyData}, DaAll K H vs ds → vs.length = ds.length
  | _, _, .nil => rfl
  | _, _, .cons _ t => by
    rw [List.length_cons, List.length_cons, daAll_len t]
/-- tracked things stay tracked -/
theorem Bu.dom {p : Addr} {H H' : Hp} {o : HO} (h : Bu p H H') (hp : H' p = some o) (b : Addr) (e : H' b = none) : H b = none := by
  cases q : H b with
  | none => rfl
  | some u =>
    by_cases z : b = p
    · rw [z, hp] at e
      cases e
    · rw [h b u z q] at e
      cases e
theorem scItems : FnScope ["_law_pot_here", "_law_names_here", "_law_many", "_law_depth", "_law_most", "_law_found", "_law_turn"] ["_law_pot_here", "_law_names_here", "_law_many", "_law_depth", "_law_most"] (defScope sItems) :=
  ⟨rfl, rfl, rfl, by decide +kernel, rfl, by decide +kernel, by decide +kernel⟩
def spItems (K : PySem.W.Frag) (dep : Nat) : Sp := fun vs H Q _ => ∃ (p q : Addr) (xs : List V) (ns : List Str) (many n : Nat) (most : Int),
  vs = [.ref p, .ref q, .int (many : Nat), .int (dep : Nat), .int most] ∧ H p = some (.lst xs) ∧ PotL n xs ∧ p ≠ q ∧ SqL K H q (ns.map V.str) ∧ ns ≠ [] ∧ ns.length ≤ 1000 ∧ 1 ≤ many ∧ many ≤ 20 ∧
  1 ≤ most ∧ most ≤ 10 ^ 18 ∧ n + bud dep many ≤ 1000000 ∧
  ∀ (H' : Hp) (ys : List V) (u : V) (is : List It) (n' : Nat), Bu p H H' → H' p = some (.lst ys) → PotL n' ys → n' ≤ n + bud dep many → Da K (newer H H') u (.tuple (is.map It.d)) →
    1 ≤ is.length → is.length ≤ many → (∀ i ∈ is, Wf ns most dep i) → Q u H'
def innerB : Nat → Nat
  | 0 => 0
  | d + 1 => bud d 3
theorem spItems_le (many dep : Nat) : many * (3 + innerB dep) + 1 = bud dep many := by
  cases dep with
  | zero =>
    show many * (3 + 0) + 1 = 1 + many * 3
    omega
  | succ d =>
    show many * (3 + bud d 3) + 1 = 1 + many * (3 + bud d 3)
    omega
theorem dom1 {p l : Addr} {H H' : Hp} {o1 o2 o3 : HO} (h : Bu p H H') (hp : H' p = some o1) (hl : H' l = some o2) {t : Addr} (e : H' t = none) : upd H l o3 t = none := by
  have ntl : t ≠ l := fun z => by
    rw [z, hl] at e
    cases e
  rw [upd_ne ntl]
  exact h.dom hp t e
theorem log_le {m : Int} (h1 : 1 ≤ m) (h2 : m ≤ 10 ^ 18) : m.natAbs.log2 < 9000 :=
  Nat.lt_of_lt_of_le (PySem.Flt.log2_lt_of (show 0 < 64 by decide) (show m.natAbs < 2 ^ 64 by omega)) (by decide)
theorem PotL.up {n m : Nat} {xs : List V} (h : PotL n xs) (k : n ≤ m) : PotL m xs := by
  obtain ⟨x, y, c, h1, h2, h3, h4, h5, h6⟩ := h
  exact ⟨x, y, c, h1, h2, h3, h4, h5, by omega⟩
theorem wf_line {ns : List Str} {most : Int} {dep : Nat} {x : Str} {t : Int} (h : x ∈ ns) (h1 : 1 ≤ t) (h2 : t ≤ most) : Wf ns most dep (.line x t) := by
  cases dep with
  | zero => exact ⟨h, h1, h2⟩
  | succ n => exact ⟨h, h1, h2⟩
theorem bu_seq {K : PySem.W.Frag} {p q : Addr} {H H' : Hp} {zs : List V} (n : q ≠ p) (h : Bu p H H') (s : SqL K H q zs) : SqL K H' q zs := by
  rcases s with (e | ⟨o, e⟩) | e
  · exact .inl (.inl (h _ _ n e))
  · exact .inl (.inr ⟨o, h _ _ n e⟩)
  · exact .inr e
section
variable {P : Program} {w : World} {K : PySem.W.Frag} {mg : Str → Option Value} {base : Heap}
/-- one more depth: fI keeps spR, the promise of the depth below (nothing, at the depth 0) -/
theorem items_step {f fT fO : Addr} {fd fdT fdO : FuncData} {k dep : Nat} {spR : Sp} (F : Fun K "_law_items" "_law_items" sItems f fd) (FT : Fun K "_law_take" "_law_take" sTake fT fdT) (bT : Binds K fdT ["_law_pot_here", "_law_many"] [])
    (gT : mg "_law_take" = some (.ref fT)) (GO : FnOk P w K mg base CX0 2 fO fdO ["_law_pot_here", "_law_some"] (spOf K)) (bO : Binds K fdO ["_law_pot_here", "_law_some"] []) (gO : mg "_law_of" = some (.ref fO)) (kO : PySem.W.keepIn K (.ref fO) = true)
    (gI : mg "_law_items" = some (.ref f)) (bI : Binds K fd ["_law_pot_here", "_law_names_here", "_law_many", "_law_depth", "_law_most"] []) (mR : mg "range" = none) (mT : mg "tuple" = none)
    (GR : FnOk P w K mg base CX0 k f fd ["_law_pot_here", "_law_names_here", "_law_many", "_law_depth", "_law_most"] spR) (hk : 2 ≤ k) (hR : dep = 0 ∨ ∃ d, dep = d + 1 ∧ spR = spItems K d) :
    FnOk P w K mg base CX0 (k + 1) f fd ["_law_pot_here", "_law_names_here", "_law_many", "_law_depth", "_law_most"] (spItems K dep) := by
  have GT : FnOk P w K mg base CX0 1 fT fdT ["_law_pot_here", "_law_many"] spTake := ok_take FT
  refine F.ok scItems (fun vs H Q E h => ?_) (fun cdv A outer s H vs Q E hr h => ?_)
  · obtain ⟨p, q, xs, ns, many, n, most, rfl, _⟩ := h
    rfl
  · obtain ⟨p, q, xs, ns, many, n, most, rfl, hp, hx, npq, hN, hn0, hn1, m1, m2, o1, o2, hb, kk⟩ := h
    have hr1 : Room 1 _ := hr.mono (show 1 ≤ k by omega)
    have hr2 : Room 2 _ := hr.mono (show 2 ≤ k by omega)
    refine ⟨_, pss_cons (ps_set (i := 5) scItems.nd rfl (.inl rfl) (pe_lst pa_nil))
      (pss_cons (ps_for PassesOwn.never rfl (pi_range1 rfl mR (pa_cons (pe_op op_add pe_int (pe_call GT hr1 (by rfl) gT FT.kp bT .nil pass0 (pa_cons (pv 0) (pa_cons (pv 2) pa_nil)))) pa_nil)) (pg_name (i := 6) scItems.nd rfl (.inl rfl))
        (pss_one (ps_if (PW.pt (pw_and (pt_cmpR op_gt (pv 3) pe_int (nomark _)) (pw_and1 (pt_cmpR op_eq (pe_call GT hr1 (by rfl) gT FT.kp bT .nil pass0 (pa_cons (pv 0) (pa_cons pe_int pa_nil))) pe_int (nomark _)))))
          (pss_one (ps_expr (pe_bm PySem.F.plainAttrs_list PySem.F.slot_list_append PySem.F.type_list_append mt_append (pv 5) (pa_cons (pe_tup (pa_cons pe_str (pa_cons (pe_op op_add pe_int (pe_call GT hr1 (by rfl) gT FT.kp bT .nil pass0 (pa_cons (pv 0) (pa_cons (pv 4) pa_nil))))
            (pa_cons (pe_call GR hr (by rfl) gI F.kp bI .nil pass0 (pa_cons (pv 0) (pa_cons (pv 1) (pa_cons pe_int (pa_cons (pe_op op_sub (pv 3) pe_int) (pa_cons (pv 4) pa_nil)))))) pa_nil)))) pa_nil))))
          (pss_one (ps_expr (pe_bm PySem.F.plainAttrs_list PySem.F.slot_list_append PySem.F.type_list_append mt_append (pv 5) (pa_cons (pe_tup (pa_cons pe_str (pa_cons (pe_call GO hr2 (by rfl) gO kO bO .nil pass0 (pa_cons (pv 0) (pa_cons (pv 1) pa_nil)))
            (pa_cons (pe_op op_add pe_int (pe_call GT hr1 (by rfl) gT FT.kp bT .nil pass0 (pa_cons (pv 0) (pa_cons (pv 4) pa_nil)))) pa_nil)))) pa_nil)))))))
      (pss_one (ps_ret (pe_callTy call_tuple_of (by rfl) mT (by decide +kernel) (pa_cons (pv 5) pa_nil))))), ?_⟩
    refine ⟨(by show 0 ≤ sizeLine; exact Nat.zero_le _), fun l nl => ?_⟩
    have npl : p ≠ l := ne_of_none hp nl
    let H1 : Hp := upd H l (.lst [])
    have hp1 : H1 p = some (.lst xs) := by
      show upd H l _ p = _
      rw [upd_ne npl]
      exact hp
    have hl1 : H1 l = some (.lst []) := upd_same
    have hb0 : Bu p H H1 := Bu.new nl
    have y := sizeLine_eq
    have hbud := spItems_le many dep
    refine ⟨_, rfl, _, rfl, p, xs, (many : Nat), n, rfl, hp1, hx, by omega, by omega, log_le (by omega) (by omega), fun H2 ys d hb2 hy hY d0 d1 => ⟨_, _, rfl, rfl, _, rfl, by omega, by omega, for_range (lo := 0) (n := (1 + d).toNat)
      (fun i σ' H' => ∃ (y6 : Option V) (ys' : List V) (is : List It) (us : List V) (n' : Nat), σ' = [some (.ref p), some (.ref q), some (.int (many : Nat)), some (.int (dep : Nat)), some (.int most), some (.ref l), y6] ∧
        H' p = some (.lst ys') ∧ PotL n' ys' ∧ n' ≤ n + 1 + i * (3 + innerB dep) ∧ H' l = some (.lst us) ∧ DaAll K (newer H1 H') us (is.map It.d) ∧ is.length = i ∧ us.length = i ∧ (∀ x ∈ is, Wf ns most dep x) ∧ Bu p H H')
      ⟨none, ys, [], [], n + 1, rfl, hy, hY, by omega, hb2 _ _ npl.symm hl1, .nil, rfl, rfl, fun x hx => (nomatch hx), hb0.trans hb2⟩ ?_ ?_⟩⟩
    · rintro i σ' H' hi ⟨y6, ys', is, us, n', rfl, hp', hY', hn', hl', hDa, hi', hlen', hw, hb'⟩
      have him : (i + 1) * (3 + innerB dep) ≤ many * (3 + innerB dep) := Nat.mul_le_mul_right _ (by omega)
      rw [Nat.succ_mul] at him
      refine ⟨_, rfl, _, _, rfl, rfl, _, rfl, ite2 (fun e => ?_) (fun e => ?_)⟩
      · have hdep : (0 : Int) < (dep : Nat) := of_decide_eq_true e
        refine ⟨_, rfl, p, ys', 3, n', rfl, hp', hY', by omega, by decide, by decide +kernel, fun H3 ys3 d3 hb3 hy3 hY3 f0 f1 => ⟨rfl, _, rfl, ite2 (fun e2 => ?_) (fun e2 => ?_)⟩⟩
        · obtain ⟨dd, rfl, rfl⟩ : ∃ dd, dep = dd + 1 ∧ spR = spItems K dd := by
            rcases hR with h | h
            · omega
            · exact h
          have hin : innerB (dd + 1) = bud dd 3 := rfl
          have hl3 : H3 l = some (.lst us) := hb3 _ _ npl.symm hl'
          refine ⟨_, rfl, .inl ⟨rfl, _, .inl (.inl hl3)⟩, _, rfl, _, rfl, p, ys3, most, n' + 1, rfl, hy3, hY3, by omega, by omega, log_le o1 o2, fun H4 ys4 d4 hb4 hy4 hY4 e0 e1 => ⟨_, _, rfl, rfl, ?_⟩⟩
          have hb24 : Bu p H H4 := (hb'.trans hb3).trans hb4
          have hl4 : H4 l = some (.lst us) := hb4 _ _ npl.symm hl3
          have hN4 : SqL K H4 q (ns.map V.str) := bu_seq npq.symm hb24 hN
          have edep : (V.int (((dd + 1 : Nat) : Int) - 1)) = V.int (dd : Nat) := by
            congr 1
            omega
          refine ⟨_, rfl, _, rfl, _, rfl, _, _, rfl, rfl, _, rfl, p, q, ys4, ns, 3, n' + 2, most, by
            show [V.ref p, V.ref q, V.int 3, V.int (((dd + 1 : Nat) : Int) - 1), V.int most] = _
            rw [edep]
            rfl, hy4, hY4, npq, hN4, hn0, hn1, by decide, by decide, o1, o2, by omega, fun H5 ys5 u is5 n5 hb5 hy5 hY5 hn5 hDu l1 l2 hw5 => ?_⟩
          refine ⟨(by show 3 ≤ sizeLine; decide), fun t nt => ?_⟩
          have hb35 : Bu p H' H5 := (hb3.trans hb4).trans hb5
          have hl5 : H5 l = some (.lst us) := hb35 _ _ npl.symm hl'
          have npt : p ≠ t := ne_of_none hy5 nt
          have nlt : l ≠ t := ne_of_none hl5 nt
          refine ⟨l, us, .ref t, rfl, rfl, by rw [upd_ne nlt]; exact hl5, ?_, ?_⟩
          · omega
          · refine ⟨_, ys5, is ++ [.loop (1 + d4) is5], us ++ [.ref t], n5, rfl, by rw [upd_ne npl, upd_ne npt]; exact hy5, hY5, by rw [Nat.succ_mul]; omega, upd_same, ?_, by rw [List.length_append, hi']; rfl, by rw [List.length_append, hlen']; rfl, fun z hz => ?_, ?_⟩
            · rw [List.map_append]
              have hH1t : H1 t = none := dom1 (hb'.trans hb35) hy5 hl5 nt
              have keep : ∀ b o, H1 b = none → H5 b = some o → upd (upd H5 t (.tup [.str "loop", .int (1 + d4), u])) l (.lst (us ++ [.ref t])) b = some o := fun b o nb e5 => by
                have nbl : b ≠ l := fun z => by
                  rw [z, hl1] at nb
                  cases nb
                rw [upd_ne nbl, upd_ne (ne_of_none e5 nt)]
                exact e5
              have hd : It.d (.loop (1 + d4) is5) = .tuple [.str "loop", .int (1 + d4), .tuple (is5.map It.d)] := by
                rw [It.d, Its.d_map]
              show DaAll _ _ _ (_ ++ [It.d (.loop (1 + d4) is5)])
              rw [hd]
              refine daAll_append (.tup (xs := [.str "loop", .int (1 + d4), u]) (.inl (.inl ?_)) (.cons (.str _) (.cons (.int _) (.cons (hDu.mono (newer_le (fun b nb => ?_) fun b o nb e => ?_)) .nil)))) (hDa.mono (newer_le (fun _ z => z) fun b o nb e => ?_))
              · rw [newer_at hH1t, upd_ne nlt.symm, upd_same]
              · exact dom1 hb24 hy4 hl4 nb
              · exact keep b o (dom1 hb24 hy4 hl4 nb) e
              · have nbp : b ≠ p := fun z => by
                  rw [z, hp1] at nb
                  cases nb
                exact keep b o nb (hb35 _ _ nbp e)
            · rcases List.mem_append.mp hz with h | h
              · exact hw z h
              · rw [List.mem_singleton.mp h]
                exact ⟨by omega, by omega, l1, l2, hw5⟩
            · intro b o nb e
              have nbl : b ≠ l := ne_of_none e nl
              have e5 := hb35 _ _ nb (hb' _ _ nb e)
              rw [upd_ne nbl, upd_ne (ne_of_none e5 nt)]
              exact e5
        · let n3 : Nat := n' + 1
          have hn3 : n3 = n' + 1 := rfl
          have hY3 : PotL n3 ys3 := hY3
          refine cast rfl (?_ : _)
          have hl3 : H3 l = some (.lst us) := hb3 _ _ npl.symm hl'
          have hN3 : SqL K H3 q (ns.map V.str) := bu_seq npq.symm (hb'.trans hb3) hN
          refine ⟨_, rfl, .inl ⟨rfl, _, .inl (.inl hl3)⟩, _, rfl, _, rfl, p, q, ys3, ns.map V.str, n3, rfl, hy3, hY3, by omega, npq, hN3, by simpa using hn0, by rw [List.length_map]; omega, fun H4 ys4 v hb4 hy4 hY4 hv => ?_⟩
          obtain ⟨x, hx', rfl⟩ := List.mem_map.mp hv
          refine ⟨_, rfl, _, rfl, p, ys4, most, n3 + 1, rfl, hy4, hY4, by omega, by omega, log_le o1 o2, fun H5 ys5 d5 hb5 hy5 hY5 e0 e1 => ⟨_, _, rfl, rfl, (by show 3 ≤ sizeLine; decide), fun t nt => ?_⟩⟩
          have hb35 : Bu p H' H5 := (hb3.trans hb4).trans hb5
          have hl5 : H5 l = some (.lst us) := hb35 _ _ npl.symm hl'
          have npt : p ≠ t := ne_of_none hy5 nt
          have nlt : l ≠ t := ne_of_none hl5 nt
          refine ⟨l, us, .ref t, rfl, rfl, by rw [upd_ne nlt]; exact hl5, ?_, ?_⟩
          · omega
          · refine ⟨_, ys5, is ++ [.line x (1 + d5)], us ++ [.ref t], n3 + 2, rfl, by rw [upd_ne npl, upd_ne npt]; exact hy5, hY5, by rw [Nat.succ_mul]; omega, upd_same, ?_, by rw [List.length_append, hi']; rfl, by rw [List.length_append, hlen']; rfl, fun z hz => ?_, ?_⟩
            · rw [List.map_append]
              have hH1t : H1 t = none := by
                exact dom1 (hb'.trans hb35) hy5 hl5 nt
              refine daAll_append (.tup (xs := [.str "line", .str x, .int (1 + d5)]) (.inl (.inl ?_)) (.cons (.str _) (.cons (.str _) (.cons (.int _) .nil)))) (hDa.mono (newer_le (fun _ z => z) fun b o nb e => ?_))
              · rw [newer_at hH1t, upd_ne nlt.symm, upd_same]
              · have nbp : b ≠ p := fun z => by
                  rw [z, hp1] at nb
                  cases nb
                have nbl : b ≠ l := fun z => by
                  rw [z, hl1] at nb
                  cases nb
                have e5 := hb35 _ _ nbp e
                rw [upd_ne nbl, upd_ne (ne_of_none e5 nt)]
                exact e5
            · rcases List.mem_append.mp hz with h | h
              · exact hw z h
              · rw [List.mem_singleton.mp h]
                exact wf_line hx' (by omega) (by omega)
            · intro b o nb e
              have nbl : b ≠ l := ne_of_none e nl
              have e5 := hb35 _ _ nb (hb' _ _ nb e)
              rw [upd_ne nbl, upd_ne (ne_of_none e5 nt)]
              exact e5
      · let n3 : Nat := n'
        have hn3 : n3 ≤ n' + 1 := Nat.le_succ _
        have hb3 : Bu p H' H' := Bu.refl
        have hY3 : PotL n3 ys' := hY'
        have hy3 := hp'
        have hl3 : H' l = some (.lst us) := hb3 _ _ npl.symm hl'
        have hN3 : SqL K H' q (ns.map V.str) := bu_seq npq.symm (hb'.trans hb3) hN
        refine ⟨_, rfl, .inl ⟨rfl, _, .inl (.inl hl3)⟩, _, rfl, _, rfl, p, q, ys', ns.map V.str, n3, rfl, hy3, hY3, by omega, npq, hN3, by simpa using hn0, by rw [List.length_map]; omega, fun H4 ys4 v hb4 hy4 hY4 hv => ?_⟩
        obtain ⟨x, hx', rfl⟩ := List.mem_map.mp hv
        refine ⟨_, rfl, _, rfl, p, ys4, most, n3 + 1, rfl, hy4, hY4, by omega, by omega, log_le o1 o2, fun H5 ys5 d5 hb5 hy5 hY5 e0 e1 => ⟨_, _, rfl, rfl, (by show 3 ≤ sizeLine; decide), fun t nt => ?_⟩⟩
        have hb35 : Bu p H' H5 := (hb3.trans hb4).trans hb5
        have hl5 : H5 l = some (.lst us) := hb35 _ _ npl.symm hl'
        have npt : p ≠ t := ne_of_none hy5 nt
        have nlt : l ≠ t := ne_of_none hl5 nt
        refine ⟨l, us, .ref t, rfl, rfl, by rw [upd_ne nlt]; exact hl5, ?_, ?_⟩
        · omega
        · refine ⟨_, ys5, is ++ [.line x (1 + d5)], us ++ [.ref t], n3 + 2, rfl, by rw [upd_ne npl, upd_ne npt]; exact hy5, hY5, by rw [Nat.succ_mul]; omega, upd_same, ?_, by rw [List.length_append, hi']; rfl, by rw [List.length_append, hlen']; rfl, fun z hz => ?_, ?_⟩
          · rw [List.map_append]
            have hH1t : H1 t = none := by
              exact dom1 (hb'.trans hb35) hy5 hl5 nt
            refine daAll_append (.tup (xs := [.str "line", .str x, .int (1 + d5)]) (.inl (.inl ?_)) (.cons (.str _) (.cons (.str _) (.cons (.int _) .nil)))) (hDa.mono (newer_le (fun _ z => z) fun b o nb e => ?_))
            · rw [newer_at hH1t, upd_ne nlt.symm, upd_same]
            · have nbp : b ≠ p := fun z => by
                rw [z, hp1] at nb
                cases nb
              have nbl : b ≠ l := fun z => by
                rw [z, hl1] at nb
                cases nb
              have e5 := hb35 _ _ nbp e
              rw [upd_ne nbl, upd_ne (ne_of_none e5 nt)]
              exact e5
          · rcases List.mem_append.mp hz with h | h
            · exact hw z h
            · rw [List.mem_singleton.mp h]
              exact wf_line hx' (by omega) (by omega)
          · intro b o nb e
            have nbl : b ≠ l := ne_of_none e nl
            have e5 := hb35 _ _ nb (hb' _ _ nb e)
            rw [upd_ne nbl, upd_ne (ne_of_none e5 nt)]
            exact e5
    · rintro σ' H' ⟨y6, ys', is, us, n', rfl, hp', hY', hn', hl', hDa, hi', hlen', hw, hb'⟩
      have hge : is.length ≤ many := by omega
      have hmul : (1 + d).toNat * (3 + innerB dep) ≤ many * (3 + innerB dep) := Nat.mul_le_mul_right _ (by omega)
      refine ⟨_, rfl, l, us, rfl, .inl ⟨.inl (.inl hl'), fun t nt => ?_⟩⟩
      have npt : p ≠ t := ne_of_none hp' nt
      have hHt : H1 t = none := dom1 hb' hp' hl' nt
      have hbb : Bu p H H' := hb'
      refine kk _ ys' _ is n' (fun b o nb e => ?_) (by rw [upd_ne npt]; exact hp') hY' (by omega) (.tup (xs := us) (.inl (.inl ?_)) (hDa.mono (newer_le (fun b z => ?_) fun b o nb e => ?_))) (by omega) hge hw
      · have e5 := hbb _ _ nb e
        rw [upd_ne (ne_of_none e5 nt)]
        exact e5
      · have hHt' : H t = none := hb0.dom hp1 t hHt
        rw [newer_at hHt', upd_same]
      · exact hb0.dom hp1 b z
      · rw [upd_ne (ne_of_none e nt)]
        exact e
theorem no_fn {CX : CXT} {k : Nat} {f : Addr} {fd : FuncData} {ps : List Str} : FnOk P w K mg base CX k f fd ps (fun _ _ _ _ => False) :=
  ⟨fun _ _ _ _ h => h.elim, fun _ _ _ _ _ _ _ _ _ _ _ _ _ h => h.elim⟩
theorem ok_items {f fT fO : Addr} {fd fdT fdO : FuncData} (F : Fun K "_law_items" "_law_items" sItems f fd) (FT : Fun K "_law_take" "_law_take" sTake fT fdT) (bT : Binds K fdT ["_law_pot_here", "_law_many"] [])
    (gT : mg "_law_take" = some (.ref fT)) (GO : FnOk P w K mg base CX0 2 fO fdO ["_law_pot_here", "_law_some"] (spOf K)) (bO : Binds K fdO ["_law_pot_here", "_law_some"] []) (gO : mg "_law_of" = some (.ref fO)) (kO : PySem.W.keepIn K (.ref fO) = true)
    (gI : mg "_law_items" = some (.ref f)) (bI : Binds K fd ["_law_pot_here", "_law_names_here", "_law_many", "_law_depth", "_law_most"] []) (mR : mg "range" = none) (mT : mg "tuple" = none) :
    ∀ dep : Nat, FnOk P w K mg base CX0 (3 + dep) f fd ["_law_pot_here", "_law_names_here", "_law_many", "_law_depth", "_law_most"] (spItems K dep)
  | 0 => items_step F FT bT gT GO bO gO kO gI bI mR mT no_fn (Nat.le_refl 2) (.inl rfl)
  | n + 1 => items_step F FT bT gT GO bO gO kO gI bI mR mT (ok_items F FT bT gT GO bO gO kO gI bI mR mT n) (show 2 ≤ 3 + n by omega) (.inr ⟨n, rfl, rfl⟩)
end
end Ev

/-! ## == and != of any data with a text, == of a tuple with () -/
namespace PySem.SeqAt
open AutoSeq1 (wpAny_loadPart')
open MeetsSeq
section
variable {A : Around} {s : Shared}
theorem ev_sub_sd : isSubtype (.type "str") (.type "dict") = pure false := by rw [isSubtype_type]; kernel_rfl
theorem ev_dict_eq_str (l : Addr) (es : Array DictEntry) (n : Nat) (dd : Option Addr) (sl : Array (Option Value)) (b : Str) (u : Tok) :
    Meets (Builtin.«dict.__eq__» ⟨[.ref l, .str b u], []⟩)
      (fun _ R s => s.heap.get? l = some { cls := .type "dict", dict := dd, data := .dict es n, slots := sl } ∧ R (.ok (.ret .notImplemented)) s) :=
  .of_wp fun prog w A R s h => by
    obtain ⟨hp, g, d, tk, os⟩ := s
    obtain ⟨hl, h⟩ := h
    have f1 := ev_sub_sd
    wp_walk using wpAny_loadPart' hl, wpAny_load hl
    exact ⟨_, rfl, h⟩
theorem ev_dict_ne_str (l : Addr) (es : Array DictEntry) (n : Nat) (dd : Option Addr) (sl : Array (Option Value)) (b : Str) (u : Tok) :
    Meets (Builtin.«dict.__ne__» ⟨[.ref l, .str b u], []⟩)
      (fun _ R s => s.heap.get? l = some { cls := .type "dict", dict := dd, data := .dict es n, slots := sl } ∧ R (.ok (.ret .notImplemented)) s) :=
  .of_wp fun prog w A R s h => by
    obtain ⟨hp, g, d, tk, os⟩ := s
    obtain ⟨hl, h⟩ := h
    have f1 := ev_sub_sd
    wp_walk using wpAny_loadPart' hl, wpAny_load hl
    exact ⟨_, rfl, h⟩
theorem ev_str_eq_dict (b : Str) (u : Tok) (l : Addr) (c : Value) (es : Array DictEntry) (n : Nat) (dd : Option Addr) (sl : Array (Option Value)) :
    Meets (Builtin.«str.__eq__» ⟨[.str b u, .ref l], []⟩) (fun _ R s => s.heap.get? l = some { cls := c, dict := dd, data := .dict es n, slots := sl } ∧ R (.ok (.ret .notImplemented)) s) :=
  .of_wp fun prog w A R s h => by
    obtain ⟨hp, g, d, tk, os⟩ := s
    obtain ⟨hl, h⟩ := h
    wp_walk using wpAny_loadPart' hl, wpAny_load hl
    exact ⟨_, rfl, h⟩
theorem ev_str_ne_dict (b : Str) (u : Tok) (l : Addr) (c : Value) (es : Array DictEntry) (n : Nat) (dd : Option Addr) (sl : Array (Option Value)) :
    Meets (Builtin.«str.__ne__» ⟨[.str b u, .ref l], []⟩) (fun _ R s => s.heap.get? l = some { cls := c, dict := dd, data := .dict es n, slots := sl } ∧ R (.ok (.ret .notImplemented)) s) :=
  .of_wp fun prog w A R s h => by
    obtain ⟨hp, g, d, tk, os⟩ := s
    obtain ⟨hl, h⟩ := h
    wp_walk using wpAny_loadPart' hl, wpAny_load hl
    exact ⟨_, rfl, h⟩
theorem ev_rc_dict_str {l : Addr} {o : Obj} {es : Array DictEntry} {n : Nat} (b : Str) (u : Tok) (ho : s.heap.get? l = some o) (hc : o.cls = .type "dict") (hd : o.data = .dict es n) (hu : A.units < cLine) :
    RcAt A s (.ref l) (.str b u) false := fun prog w E Q h => by
  obtain ⟨cls, dd, data, sl⟩ := o
  simp only at hc hd
  subst hc hd
  exact rc_eq_decline_or (k := false) ⟨_, ho, rfl⟩ (typeIs_str s b u) (by decide) ev_sub_sd F.slot_dict_eq F.slot_str_eq_refl
    (fun _ hq => call_meets F.slot_dict_eq ⟨_, ho, rfl⟩ F.entry_dict_eq (F.args_dict_eq_2 _ _) (ev_dict_eq_str l es n dd sl b u) ⟨ho, hq⟩)
    (fun _ hq => call_meets F.slot_str_eq_refl (typeIs_str s b u) F.entry_str_eq (F.args_str_eq_2 _ _) (ev_str_eq_dict b u l (.type "dict") es n dd sl) ⟨ho, hq⟩)
    (fun _ hq => wpAny_of_eq (rfl : isSame (.ref l) (.str b u) = pure false) hq) (.inr hu) h
theorem ev_rn_dict_str {l : Addr} {o : Obj} {es : Array DictEntry} {n : Nat} (b : Str) (u : Tok) (ho : s.heap.get? l = some o) (hc : o.cls = .type "dict") (hd : o.data = .dict es n) (hu : A.units < cLine) :
    RcNeAt A s (.ref l) (.str b u) true := fun prog w E Q h => by
  obtain ⟨cls, dd, data, sl⟩ := o
  simp only at hc hd
  subst hc hd
  exact rc_ne_decline_or (k := false) ⟨_, ho, rfl⟩ (typeIs_str s b u) (by decide) ev_sub_sd F.slot_dict_ne F.slot_str_ne_refl
    (fun _ hq => call_meets F.slot_dict_ne ⟨_, ho, rfl⟩ F.entry_dict_ne (F.args_dict_ne_2 _ _) (ev_dict_ne_str l es n dd sl b u) ⟨ho, hq⟩)
    (fun _ hq => call_meets F.slot_str_ne_refl (typeIs_str s b u) F.entry_str_ne (F.args_str_ne_2 _ _) (ev_str_ne_dict b u l (.type "dict") es n dd sl) ⟨ho, hq⟩)
    (fun _ hq => wpAny_of_eq (rfl : isSame (.ref l) (.str b u) = pure false) hq) (.inr hu) h
end
end PySem.SeqAt
namespace Ev
open PySem PySem.Spec PyProof.Rows L2
def isStrD (t : Str) : PyData → Bool
  | .str x => x == t
  | _ => false
def rEqS (K : PySem.W.Frag) : R2 := fun x y H Q => ∃ (d : PyData) (t : Str), Da K H x d ∧ y = .str t ∧ Q (.bl (isStrD t d)) H
def rNeS (K : PySem.W.Frag) : R2 := fun x y H Q => ∃ (d : PyData) (t : Str), Da K H x d ∧ y = .str t ∧ Q (.bl (!isStrD t d)) H
section
variable {X : Cx}
theorem op_eqS (hu : X.A.units < cLine) : OpR X (compareOp .Eq) (rEqS X.K) := by
  intro pins s σ H x y v u Q I rx ry h
  obtain ⟨d, t, hd, rfl, q⟩ := h
  obtain ⟨tk, rfl⟩ := ry
  have fin : ∀ b, b = isStrD t d → EP X pins σ Q (.bool b) s := fun b e => ⟨.bl b, H, I, rfl, by rw [e]; exact q⟩
  cases hd with
  | non =>
    cases rx
    exact SeqAt.RcAt.none_str t tk _ _ _ _ (fin _ rfl)
  | bl b =>
    cases rx
    exact SeqAt.RcAt.bool_str b t tk _ _ _ _ (fin _ rfl)
  | int i =>
    obtain ⟨tk', rfl⟩ := rx
    exact SeqAt.RcAt.int_str i tk' t tk _ _ _ _ (fin _ rfl)
  | str x =>
    obtain ⟨tk', rfl⟩ := rx
    exact SeqAt.RcAt.str_str x tk' t tk _ _ _ _ (fin _ rfl)
  | lst hs ha =>
    cases rx
    obtain ⟨its, rv, ⟨o, n, ho, hc, _, hd⟩, _⟩ := I.list hs
    exact SeqAt.RcAt.list_str t tk ⟨o, ho, hc, n, hd⟩ hu _ _ _ _ (fin _ rfl)
  | tup hs ha =>
    cases rx
    obtain ⟨its, rv, ⟨o, ho, hc, n, hd⟩, _⟩ := I.tuple hs
    exact SeqAt.RcAt.tuple_str t tk ⟨o, ho, hc, n, hd⟩ hu _ _ _ _ (fin _ rfl)
  | @dic a kvs _ he hk =>
    cases rx
    have ok : ObjOk X.prog X.w H s.heap a (.dK kvs) := I.hok a _ he
    obtain ⟨_, ns, vs, kv, o, es, ep, ho, ex, hd, _⟩ := ok
    exact SeqAt.ev_rc_dict_str t tk ho ex.1 hd hu _ _ _ _ (fin _ rfl)
theorem op_neS (hu : X.A.units < cLine) : OpR X (compareOp .NotEq) (rNeS X.K) := by
  intro pins s σ H x y v u Q I rx ry h
  obtain ⟨d, t, hd, rfl, q⟩ := h
  obtain ⟨tk, rfl⟩ := ry
  have fin : ∀ b, b = (!isStrD t d) → EP X pins σ Q (.bool b) s := fun b e => ⟨.bl b, H, I, rfl, by rw [e]; exact q⟩
  cases hd with
  | non =>
    cases rx
    exact SeqAt.RcNeAt.none_str t tk _ _ _ _ (fin _ rfl)
  | bl b =>
    cases rx
    exact SeqAt.RcNeAt.bool_str b t tk _ _ _ _ (fin _ rfl)
  | int i =>
    obtain ⟨tk', rfl⟩ := rx
    exact SeqAt.RcNeAt.int_str i tk' t tk _ _ _ _ (fin _ rfl)
  | str x =>
    obtain ⟨tk', rfl⟩ := rx
    exact SeqAt.RcNeAt.str_str x tk' t tk _ _ _ _ (fin _ rfl)
  | lst hs ha =>
    cases rx
    obtain ⟨its, rv, ⟨o, n, ho, hc, _, hd⟩, _⟩ := I.list hs
    exact SeqAt.RcNeAt.list_str t tk ⟨o, ho, hc, n, hd⟩ hu _ _ _ _ (fin _ rfl)
  | tup hs ha =>
    cases rx
    obtain ⟨its, rv, ⟨o, ho, hc, n, hd⟩, _⟩ := I.tuple hs
    exact SeqAt.RcNeAt.tuple_str t tk ⟨o, ho, hc, n, hd⟩ hu _ _ _ _ (fin _ rfl)
  | @dic a kvs _ he hk =>
    cases rx
    have ok : ObjOk X.prog X.w H s.heap a (.dK kvs) := I.hok a _ he
    obtain ⟨_, ns, vs, kv, o, es, ep, ho, ex, hd, _⟩ := ok
    exact SeqAt.ev_rn_dict_str t tk ho ex.1 hd hu _ _ _ _ (fin _ rfl)
/-- t == () -/
def rEqT0 (K : PySem.W.Frag) : R2 := fun x y H Q => ∃ (a b : Addr) (xs : List V), x = .ref a ∧ y = .ref b ∧ SqT K H a xs ∧ SqT K H b [] ∧ Q (.bl (decide (xs = []))) H
theorem op_eqT0 (hu : X.A.units < cLine) : OpR X (compareOp .Eq) (rEqT0 X.K) := by
  intro pins s σ H x y v u Q I rx ry h
  obtain ⟨a, b, xs, rfl, rfl, h1, h2, q⟩ := h
  cases rx
  cases ry
  obtain ⟨i1, r1, ⟨o1, ho1, hc1, n1, hd1⟩, _⟩ := I.tuple h1
  obtain ⟨i2, r2, ⟨o2, ho2, hc2, n2, hd2⟩, _⟩ := I.tuple h2
  have e2 : i2 = [] := by
    have z := Paired.length r2
    exact List.length_eq_zero_iff.mp z.symm
  subst e2
  have l1 : i1.length = xs.length := (Paired.length r1).symm
  refine SeqAt.rcIn_tuples (e := fun _ => true) ⟨o1, ho1, hc1, n1, hd1⟩ ⟨o2, ho2, hc2, n2, hd2⟩ hu (fun j j1 j2 => absurd j2 (by simp)) ?_
  have z : ((List.range (min i1.toArray.size ([] : List Value).toArray.size)).all (fun _ => true) && i1.toArray.size == ([] : List Value).toArray.size) = decide (xs = []) := by
    cases xs with
    | nil =>
      have : i1 = [] := List.length_eq_zero_iff.mp l1
      subst this
      rfl
    | cons x r =>
      have : i1.length = r.length + 1 := l1
      simp [this]
  rw [z]
  exact ⟨.bl _, H, I, rfl, q⟩
end
end Ev

/-! ## Which values are programs -/
namespace Ev
open PySem PySem.Spec PyProof.Rows L2
def tyD : PyData → String
  | .none => "NoneType"
  | .bool _ => "bool"
  | .int _ => "int"
  | .str _ => "str"
  | .list _ => "list"
  | .tuple _ => "tuple"
  | .dict _ => "dict"
theorem Da.ty {K : PySem.W.Frag} {H : Hp} {x : V} {d : PyData} (h : Da K H x d) : TyX K H x (.type (tyD d)) := by
  cases h with
  | non => exact .base .non
  | bl b => exact .base (.bl b)
  | int i => exact .base (.int i)
  | str x => exact .base (.str x)
  | lst hs ha =>
    rcases hs with (e | ⟨o, e⟩) | ⟨o, its, n, e, hc, _⟩
    · exact .base (.lst e)
    · exact .base (.frz e)
    · exact .kList e hc
  | tup hs ha =>
    rcases hs with (e | ⟨o, e⟩) | ⟨o, its, n, e, hc, _⟩
    · exact .base (.tup e)
    · exact .fTuple e
    · exact .kTuple e hc
  | dic e hk => exact .base (.dK e)
def isD (T : String) (d : PyData) : Bool := (kitB (tyD d) T).getD false
def OkT (T : String) : Prop := T = "int" ∨ T = "bool" ∨ T = "tuple" ∨ T = "str"
theorem kit_D {T : String} (hT : OkT T) (d : PyData) : kitB (tyD d) T = some (isD T d) := by
  rcases hT with rfl | rfl | rfl | rfl <;> cases d <;> kernel_rfl
theorem isD_int (d : PyData) : isD "int" d = (match d with | .int _ => true | .bool _ => true | _ => false) := by
  cases d <;> kernel_rfl
theorem isD_bool (d : PyData) : isD "bool" d = (match d with | .bool _ => true | _ => false) := by
  cases d <;> kernel_rfl
theorem isD_tuple (d : PyData) : isD "tuple" d = (match d with | .tuple _ => true | _ => false) := by
  cases d <;> kernel_rfl
theorem isD_str (d : PyData) : isD "str" d = (match d with | .str _ => true | _ => false) := by
  cases d <;> kernel_rfl
def tIsT (K : PySem.W.Frag) (T : String) (i : Nat) : TE := fun σ H Q => ∃ (x : V) (d : PyData), σ[i]? = some (some x) ∧ Da K H x d ∧ Q (.bl (isD T d)) H
section
variable {X : Cx} {x y : Str} {i : Nat} {p1 p2 q1 q2 : Pos}
theorem pe_isT {T : String} (hT : OkT T) (m : X.mg "isinstance" = none) (hv : ∀ pos, PE X (.Name y pos) (tVar i)) (hx : ∀ pos, PE X (.Name x pos) (tC (.ty T))) (hg : Gl X "isinstance" := by rfl) :
    PE X (.Call (.Name "isinstance" p1) [.Name y q1, .Name x q2] [] p2) (tIsT X.K T i) := by
  refine PE.imp (pe_callB call_isi hg m (by decide +kernel) (pa_cons (hv q1) (pa_cons (hx q2) pa_nil))) ?_
  rintro σ H Q ⟨x, d, h1, h2, h3⟩
  exact ⟨x, h1, x, .ty T, .type (tyD d), .type T, isD T d, rfl, .ty T, h2.ty, kit_ty (kit_D hT d), h3⟩
end
section
variable {K : PySem.W.Frag} {H0 : Hp} {σ : L2.St} {i : Nat} {x : V} {d : PyData} {T : String} {b c : Bool} {tt uu : TT} {t rest : TS} {D : Ends}
theorem t_isT (h : σ[i]? = some (some x)) (hd : Da K H0 x d) : GivesT H0 (tB (tIsT K T i)) (isD T d) σ := fun H Q s q => ⟨x, d, h, hd.mono s, _, rfl, q H Same.rfl'⟩
theorem t_or (h : GivesT H0 tt b σ) (k : b = false → GivesT H0 uu c σ) : GivesT H0 (tOr tt uu) (b || c) σ := fun H Q s q =>
  h H _ s fun H1 s1 => by
    cases b with
    | true => exact iteT (q H1 s1)
    | false => exact iteF (k rfl H1 Q (s.trans s1) fun H2 s2 => q H2 (s1.trans s2))
theorem s_ifB (h : GivesT H0 tt b σ) (k1 : b = true → ∀ H', Same H0 H' → t { D with nx := rest D } σ H') (k2 : b = false → ∀ H', Same H0 H' → rest D σ H') : tSeq (tIfS tt t tNext) rest D σ H0 :=
  h H0 _ Same.rfl' fun H' s => by
    cases b with
    | true => exact iteT (k1 rfl H' s)
    | false => exact iteF (k2 rfl H' s)
end
def intD (lo hi : Int) : PyData → Bool
  | .int i => decide (lo ≤ i) && decide (i ≤ hi)
  | _ => false
def nameD : PyData → Bool
  | .str x => decide (1 ≤ x.length) && (decide (x.length ≤ 8) && x.cps.toList.all fun c => decide (97 ≤ c) && decide (c ≤ 122))
  | _ => false
def spIn (K : PySem.W.Frag) : Sp := fun vs H Q _ => ∃ (x : V) (d : PyData) (lo hi : Int), vs = [x, .int lo, .int hi] ∧ Da K H x d ∧ ∀ H', Same H H' → Q (.bl (intD lo hi d)) H'
mutual
/-- its texts are not long -/
def okS : PyData → Bool
  | .str x => decide (x.length ≤ 1000)
  | .list xs | .tuple xs => okSs xs
  | .dict kvs => okSk kvs
  | _ => true
def okSs : List PyData → Bool
  | [] => true
  | x :: xs => okS x && okSs xs
def okSk : List (PyData × PyData) → Bool
  | [] => true
  | (k, v) :: r => okS k && (okS v && okSk r)
end
theorem okSs_mem : ∀ {ds : List PyData}, okSs ds = true → ∀ d ∈ ds, okS d = true
  | [], _, _, h => nomatch h
  | x :: xs, h, d, hd => by
    rw [okSs, Bool.and_eq_true] at h
    rcases List.mem_cons.mp hd with rfl | hd
    · exact h.1
    · exact okSs_mem h.2 d hd
def spName (K : PySem.W.Frag) : Sp := fun vs H Q _ => ∃ (x : V) (d : PyData), vs = [x] ∧ Da K H x d ∧ okS d = true ∧ ∀ H', Same H H' → Q (.bl (nameD d)) H'
theorem scIn : FnScope ["value", "least", "most"] ["value", "least", "most"] (defScope (topS 2)) := ⟨rfl, rfl, rfl, by decide +kernel, rfl, by decide +kernel, by decide +kernel⟩
section
variable {P : Program} {w : World} {K : PySem.W.Frag} {mg : Str → Option Value} {base : Heap} {f fW : Addr} {fd fdW : FuncData}
theorem ty_of {X : Cx} {x : Str} {T : String} {pos : Pos} (hg : Gl X x) (hm : X.mg x = none) (hb : bootBuiltins x = some (.type T)) (hn : x ≠ "__name__" := by decide) (hd : (x == ("__debug__" : Str)) = false := by decide) :
    PE X (.Name x pos) (tC (.ty T)) := pe_bltn (v := .ty T) hg hm hb (show RelV (.ty T) (.type T) from rfl) hn hd
def spWh1 (K : PySem.W.Frag) : Sp := fun vs H Q _ => ∃ (x : V) (d : PyData), vs = [x] ∧ Da K H x d ∧ Q (.bl (isD "int" d && !isD "bool" d)) H
theorem scWh1 : FnScope ["value"] ["value"] (defScope (topS 1)) := ⟨rfl, rfl, rfl, by decide +kernel, rfl, by decide +kernel, by decide +kernel⟩
theorem ok_iw (F : Fun K "is_whole" "is_whole" (topS 1) f fd) (mI : mg "isinstance" = none) (mi : mg "int" = none) (mb : mg "bool" = none) : FnOk P w K mg base CX0 1 f fd ["value"] (spWh1 K) := by
  refine F.ok scWh1 (fun vs H Q E h => ?_) (fun cdv A outer s H vs Q E hr h => ?_)
  · obtain ⟨x, d, rfl, _⟩ := h
    rfl
  · obtain ⟨x, d, rfl, hd, q⟩ := h
    refine ⟨_, pss_one (ps_ret (pe_and (pe_isT (.inl rfl) mI (fun _ => pv 0) (fun _ => ty_of rfl mi (by decide +kernel))) (pe_one (pe_not (pe_isT (.inr (.inl rfl)) mI (fun _ => pv 0) (fun _ => ty_of rfl mb (by decide +kernel))))))), ?_⟩
    refine ⟨x, d, rfl, hd, _, rfl, ite2 (fun e => ?_) (fun e => ?_)⟩
    · rw [e, Bool.true_and] at q
      exact ⟨x, d, rfl, hd, _, rfl, q⟩
    · rw [Bool.eq_false_iff.mpr e, Bool.false_and] at q
      exact q
theorem ok_in (F : Fun K "is_integer_within" "is_integer_within" (topS 2) f fd) (GW : FnOk P w K mg base CX0 1 fW fdW ["value"] (spWh1 K)) (bW : Binds K fdW ["value"] []) (mW : mg "is_whole" = some (.ref fW)) (vW : PySem.W.keepIn K (.ref fW) = true) :
    FnOk P w K mg base CX0 2 f fd ["value", "least", "most"] (spIn K) := by
  refine F.ok scIn (fun vs H Q E h => ?_) (fun cdv A outer s H vs Q E hr h => ?_)
  · obtain ⟨x, d, lo, hi, rfl, _⟩ := h
    rfl
  · obtain ⟨x, d, lo, hi, rfl, hd, q⟩ := h
    refine ⟨_, pss_one (ps_ret (pe_and (pe_call GW hr (by rfl) mW vW bW .nil pass0 (pa_cons (pv 0) pa_nil)) (pe_one (pe_chain op_le op_le (pv 1) (pv 0) (pv 2))))), ?_⟩
    have qq := q H Same.rfl'
    refine ⟨_, rfl, x, d, rfl, hd, _, rfl, ite2 (fun e => ?_) (fun e => ?_)⟩
    · rw [isD_int, isD_bool] at e
      obtain ⟨i, rfl⟩ : ∃ i, d = .int i := by
        cases d <;> first | exact ⟨_, rfl⟩ | simp at e
      have ex : x = .int i := by
        cases hd
        rfl
      subst ex
      refine ⟨_, rfl, _, rfl, _, _, rfl, rfl, _, rfl, ?_⟩
      refine ite2 (fun z => ?_) (fun z => ?_)
      · refine ⟨_, rfl, _, _, rfl, rfl, ?_⟩
        have y : intD lo hi (.int i) = decide (i ≤ hi) := by
          show (decide (lo ≤ i) && decide (i ≤ hi)) = _
          rw [z, Bool.true_and]
        rw [y] at qq
        exact qq
      · have y : intD lo hi (.int i) = false := by
          show (decide (lo ≤ i) && decide (i ≤ hi)) = _
          rw [Bool.eq_false_iff.mpr z, Bool.false_and]
        rw [y] at qq
        exact qq
    · have z : intD lo hi d = false := by
        rw [isD_int, isD_bool] at e
        cases d <;> first | rfl | simp at e
      rw [z] at qq
      exact qq
/-! ### names -/
abbrev rLeI : R2 := rI0 fun i j => .bl (decide (i ≤ j))
abbrev rLeS : R2 := fun x y H Q => ∃ i j, x = .str i ∧ y = .str j ∧ Q (.bl (!decide (j.cps.toList < i.cps.toList))) H
abbrev rLenS : List V → Hp → VK → Prop := fun xs H Q => ∃ z, xs = [.str z] ∧ z.length ≤ sizeLine ∧ Q (.int z.length) H
theorem t_chainI {H0 : Hp} {σ : L2.St} {tb : TE} {a b c : Int} (h : Gives H0 tb (gEq (.int b)) σ) :
    GivesT H0 (tTest (tChain rLeI rLeI (tC (.int a)) tb (tC (.int c)))) (decide (a ≤ b) && decide (b ≤ c)) σ := fun H Q s q =>
  h H _ s fun H1 u s1 e => by
    have e : u = .int b := e
    subst e
    refine ⟨_, _, rfl, rfl, _, rfl, ite2 (fun z => ?_) (fun z => ?_)⟩
    · refine ⟨_, _, rfl, rfl, _, rfl, ?_⟩
      have qq := q H1 s1
      rw [z, Bool.true_and] at qq
      exact qq
    · refine ⟨_, rfl, ?_⟩
      have qq := q H1 s1
      rw [Bool.eq_false_iff.mpr z, Bool.false_and] at qq
      exact qq
theorem g_lenS {H0 : Hp} {σ : L2.St} {i : Nat} {x : Str} (h : σ[i]? = some (some (.str x))) (hx : x.length ≤ 1000) : Gives H0 (tCB rLenS (tCons (tVar i) tNil)) (gEq (.int x.length)) σ := fun H Q s q => by
  have y := sizeLine_eq
  exact ⟨_, h, x, rfl, by omega, q H _ Same.rfl' rfl⟩
theorem lt_one (a b : Nat) : decide (([a] : List Nat) < [b]) = decide (a < b) := by
  rw [decide_eq_decide]
  constructor
  · intro h
    cases h with
    | rel h => exact h
    | cons h => cases h
  · intro h
    exact List.Lex.rel h
theorem g_lcS {H0 : Hp} {σ : L2.St} {te : TE} {x : Str} {ys : List V} {i : Nat} {g : TG} {vs : List Nat} (hi : σ[i]? = some (some (.str x))) (hz : x.cps.size ≤ 1000) (hl : ys.length = x.cps.size)
    (he : ∀ (j c : Nat) (y : V), x.cps[j]? = some c → ys[j]? = some y → ∀ (H : Hp) (R : VK), Same H0 H → R y H →
      g (.str ⟨#[c]⟩) (wipe σ vs) H fun σ2 H2 => wipe σ2 vs = wipe σ vs ∧ te σ2 H2 R) :
    Gives H0 (tLc (iStr (tVar i)) g tYes te vs) (gLst (ys.map gEq)) σ := fun H Q s q => by
  have y := sizeLine_eq
  refine ⟨_, hi, x, rfl, fun D nD => ⟨fun k m H' => m = x.cps.size - k ∧ k ≤ x.cps.size ∧ Same H H' ∧ H' D = some (.lst (ys.take k)), ⟨_, rfl, Nat.zero_le _, same_put nD, upd_same⟩, ?_⟩⟩
  rintro k m H' ⟨rfl, hk, s', eD⟩
  by_cases hlt : k < x.cps.size
  · have hky : k < ys.length := by omega
    have hy := List.getElem?_eq_getElem hky
    refine .inr ⟨hlt, fun H'' => Same H H'' ∧ H'' D = some (.lst (ys.take (k + 1))), fun H'' p' => ⟨x.cps.size - (k + 1), by omega, rfl, hlt, p'.1, p'.2⟩, ?_⟩
    rintro v H'' ⟨rfl, c, hc, rfl⟩
    refine cast ?_ (he k c ys[k] hc hy H'' (fun y H4 => ∃ acc, H4 D = some (.lst acc) ∧ acc.length < sizeLine ∧ Same H (upd H4 D (.lst (acc ++ [y]))) ∧ upd H4 D (.lst (acc ++ [y])) D = some (.lst (ys.take (k + 1)))) (s.trans s') ⟨_, eD, ?_, ?_, ?_⟩)
    · rfl
    · rw [List.length_take]
      omega
    · intro b o e
      rw [upd_ne (ne_of_none e nD)]
      exact s' _ _ e
    · rw [upd_same, List.take_add_one, hy]
      rfl
  · refine .inl ⟨by show x.cps.size ≤ k; omega, ?_⟩
    have hk' : k = ys.length := by omega
    rw [hk', List.take_length] at eD
    exact q H' _ s' ⟨D, ys, rfl, eD, allEq⟩
theorem g_all {K : PySem.W.Frag} {H0 : Hp} {σ : L2.St} {te : TE} {bs : List Bool} (h : Gives H0 te (gLst (bs.map fun b => gEq (.bl b))) σ) : Gives H0 (tCB (rAll K) (tCons te tNil)) (gEq (.bl (bs.all id))) σ := fun H Q s q =>
  h H _ s fun H1 u s1 g1 => by
    obtain ⟨p, us, rfl, hp, ha⟩ := g1
    have eu := all_bl ha
    subst eu
    exact ⟨p, bs, rfl, .inl (.inl hp), q H1 _ s1 rfl⟩
theorem scName : FnScope ["value", "letter"] ["value"] (defScope (topS 13)) := ⟨rfl, rfl, rfl, by decide +kernel, rfl, by decide +kernel, by decide +kernel⟩
theorem ok_name (F : Fun K "is_name" "is_name" (topS 13) f fd) (mI : mg "isinstance" = none) (ms : mg "str" = none) (ml : mg "len" = none) (ma : mg "all" = none) {tML : Tok} (gML : mg "MOST_LETTERS" = some (.int 8 tML)) :
    FnOk P w K mg base CX0 1 f fd ["value"] (spName K) := by
  refine F.ok scName (fun vs H Q E h => ?_) (fun cdv A outer s H vs Q E hr h => ?_)
  · obtain ⟨x, d, rfl, _⟩ := h
    rfl
  · obtain ⟨x, d, rfl, hd, ho, q⟩ := h
    refine ⟨_, pss_cons (ps_if (PW.pt (pw_or (pt_not (pt_val (pe_isT (.inr (.inr (.inr rfl))) mI (fun _ => pv 0) (fun _ => ty_of rfl ms (by decide +kernel)))))
        (pw_or1 (pt_not (pt_chain op_le op_le pe_int (pe_callB call_len_str (by rfl) ml PySem.boot_len (pa_cons (pv 0) pa_nil)) (pe_glob (v := .int 8) rfl gML ⟨_, rfl⟩)))))) (pss_one (ps_ret pe_bl)) pss_nil)
      (pss_one (ps_ret (pe_callB (cr_all rfl) (by rfl) ma (by decide +kernel) (pa_cons (pe_lc (own := [("letter", 1)]) (g := gName 1) (tt := tYes) (te := tChain rLeS rLeS (tC (.str "a")) (tVar 1) (tC (.str "z"))) rfl scName.nd (pi_str (pv 0))
        (blkOk_by (N := ["value", "letter"]) (sc := defScope (topS 13)) (by decide +kernel)) (fun _ _ _ _ _ => pg_name (i := 1) scName.nd rfl (Or.inl rfl)) (fun _ _ _ _ _ => pts_nil) (fun _ _ _ _ _ => pe_chain op_le_str op_le_str pe_str (pv 1) pe_str)) pa_nil)))), ?_⟩
    by_cases hs : ∃ z, d = .str z
    · obtain ⟨z, rfl⟩ := hs
      have ex : x = .str z := by
        cases hd
        rfl
      subst ex
      have hz : z.length ≤ 1000 := by
        rw [okS] at ho
        exact of_decide_eq_true ho
      refine s_ifB (t_or (t_not (t_isT rfl hd)) fun _ => t_not (t_chainI (g_lenS rfl hz))) (fun e H' s' => ?_) (fun e H' s' => ?_)
      · rw [isD_str] at e
        have e' : (decide ((1 : Int) ≤ z.length) && decide ((z.length : Int) ≤ 8)) = false := by
          revert e
          cases (decide ((1 : Int) ≤ z.length) && decide ((z.length : Int) ≤ 8)) <;> simp
        have w0 : nameD (.str z) = false := by
          show (decide (1 ≤ z.length) && (decide (z.length ≤ 8) && _)) = false
          rw [← Bool.and_assoc]
          have e2 : (decide (1 ≤ z.length) && decide (z.length ≤ 8)) = false := by
            rw [Bool.and_eq_false_iff] at e' ⊢
            rcases e' with h | h
            · left
              have := of_decide_eq_false h
              exact decide_eq_false (by omega)
            · right
              have := of_decide_eq_false h
              exact decide_eq_false (by omega)
          rw [e2, Bool.false_and]
        have qq := q H' s'
        rw [w0] at qq
        exact qq
      · rw [isD_str] at e
        have e' : (decide ((1 : Int) ≤ z.length) && decide ((z.length : Int) ≤ 8)) = true := by
          revert e
          cases (decide ((1 : Int) ≤ z.length) && decide ((z.length : Int) ≤ 8)) <;> simp
        rw [Bool.and_eq_true] at e'
        have l1 := of_decide_eq_true e'.1
        have l2 := of_decide_eq_true e'.2
        let bs : List Bool := z.cps.toList.map fun c => decide (97 ≤ c) && decide (c ≤ 122)
        have hlc : Gives H' (tLc (iStr (tVar 0)) (gName 1) tYes (tChain rLeS rLeS (tC (.str "a")) (tVar 1) (tC (.str "z"))) [1]) (gLst ((bs.map V.bl).map gEq)) [some (.str z), none] := by
          refine g_lcS rfl hz (by simp [bs]) fun j c y hc hy HH R sH hR => ⟨rfl, ?_⟩
          have ey : y = .bl (decide (97 ≤ c) && decide (c ≤ 122)) := by
            rw [List.getElem?_map, List.getElem?_map, Array.getElem?_toList, hc] at hy
            exact (Option.some.inj hy).symm
          have b1 : (!decide (([c] : List Nat) < [97])) = decide (97 ≤ c) := by
            rw [lt_one, ← decide_not, decide_eq_decide]
            omega
          have b2 : (!decide (([122] : List Nat) < [c])) = decide (c ≤ 122) := by
            rw [lt_one, ← decide_not, decide_eq_decide]
            omega
          refine ⟨_, rfl, _, _, rfl, rfl, _, rfl, ?_⟩
          show if (!decide (([c] : List Nat) < [97])) = true then _ else _
          rw [b1]
          refine ite2 (fun h => ?_) (fun h => ?_)
          · refine ⟨_, _, rfl, rfl, ?_⟩
            show R (.bl (!decide (([122] : List Nat) < [c]))) HH
            rw [b2]
            rw [ey, h, Bool.true_and] at hR
            exact hR
          · rw [ey, Bool.eq_false_iff.mpr h, Bool.false_and] at hR
            exact hR
        have hlc : Gives H' (tLc (iStr (tVar 0)) (gName 1) tYes (tChain rLeS rLeS (tC (.str "a")) (tVar 1) (tC (.str "z"))) [1]) (gLst (bs.map fun b => gEq (.bl b))) [some (.str z), none] := by
          rw [List.map_map] at hlc
          exact hlc
        refine s_ret (g_all (K := K) hlc) fun H2 u s2 g2 => ?_
        have eu : u = .bl (bs.all id) := g2
        subst eu
        have w1 : nameD (.str z) = bs.all id := by
          show (decide (1 ≤ z.length) && (decide (z.length ≤ 8) && _)) = _
          rw [decide_eq_true (show 1 ≤ z.length by omega), decide_eq_true (show z.length ≤ 8 by omega), Bool.true_and, Bool.true_and, List.all_map]
          rfl
        have qq := q H2 (s'.trans s2)
        rw [w1] at qq
        exact qq
    · have w0 : nameD d = false := by
        cases d <;> first | rfl | exact absurd ⟨_, rfl⟩ hs
      have w1 : isD "str" d = false := by
        rw [isD_str]
        cases d <;> first | rfl | exact absurd ⟨_, rfl⟩ hs
      have t1 := t_not (t_isT (T := "str") (σ := [some x, none]) (i := 0) rfl hd)
      rw [w1] at t1
      refine s_ifB (b := true) (t_or (c := true) t1 fun z => (nomatch z)) (fun e H' s' => ?_) (fun e => nomatch e)
      have qq := q H' s'
      rw [w0] at qq
      exact qq
end
end Ev

/-! ## room_behind, room_behind_items, is_program -/
namespace Ev
open PySem PySem.Spec PyProof.Rows L2
section
variable {K : PySem.W.Frag} {H0 : Hp} {σ : L2.St} {te tf : TE} {i : Nat} {x : V} {d : PyData} {b c : Bool}
theorem t_eqI {r k : Int} (h : σ[i]? = some (some (.int r))) : GivesT H0 (tTest (tOp rEq (tVar i) (tC (.int k)))) (decide (r = k)) σ := fun H Q s q => by
  refine ⟨_, h, rfl, _, rfl, ?_⟩
  have z : decide (V.int r = V.int k) = decide (r = k) := decide_eq_decide.mpr ⟨fun h => V.int.inj h, fun h => by rw [h]⟩
  rw [z]
  exact q H Same.rfl'
theorem g_lenT {a : Addr} {ds : List PyData} (h : σ[i]? = some (some (.ref a))) (hd : Da K H0 (.ref a) (.tuple ds)) : Gives H0 (tCB (rLenK K) (tCons (tVar i) tNil)) (gEq (.int (ds.length : Nat))) σ := fun H Q s q => by
  cases hd.mono s with
  | @tup _ xs _ hs ha =>
    have hl : xs.length = ds.length := daAll_len ha
    refine ⟨_, h, a, xs, rfl, .inr hs, ?_⟩
    rw [hl]
    exact q H _ Same.rfl' rfl
theorem t_neI {r k : Int} (h : Gives H0 te (gEq (.int r)) σ) : GivesT H0 (tTest (tOp rNe te (tC (.int k)))) (!decide (r = k)) σ := fun H Q s q =>
  h H _ s fun H1 u s1 e => by
    have e : u = .int r := e
    subst e
    refine ⟨rfl, _, rfl, ?_⟩
    have z : decide (V.int r = V.int k) = decide (r = k) := decide_eq_decide.mpr ⟨fun h => V.int.inj h, fun h => by rw [h]⟩
    rw [z]
    exact q H1 s1
theorem t_eqS {t : Str} (h : σ[i]? = some (some x)) (hd : Da K H0 x d) : GivesT H0 (tTest (tOp (rEqS K) (tVar i) (tC (.str t)))) (isStrD t d) σ := fun H Q s q =>
  ⟨_, h, d, t, hd.mono s, rfl, _, rfl, q H Same.rfl'⟩
theorem t_neSt {t : Str} (h : σ[i]? = some (some x)) (hd : Da K H0 x d) : GivesT H0 (tTest (tOp (rNeS K) (tVar i) (tC (.str t)))) (!isStrD t d) σ := fun H Q s q =>
  ⟨_, h, d, t, hd.mono s, rfl, _, rfl, q H Same.rfl'⟩
theorem g_in {lo hi : Int} (h : σ[i]? = some (some x)) (hd : Da K H0 x d) : Gives H0 (tCall (spIn K) [] E0 (tCons (tVar i) (tCons (tC (.int lo)) (tCons (tC (.int hi)) tNil)))) (gEq (.bl (intD lo hi d))) σ := fun H Q s q =>
  ⟨_, h, x, d, lo, hi, rfl, hd.mono s, fun H' s' => q H' _ s' rfl⟩
theorem g_name (h : σ[i]? = some (some x)) (hd : Da K H0 x d) (ho : okS d = true) : Gives H0 (tCall (spName K) [] E0 (tCons (tVar i) tNil)) (gEq (.bl (nameD d))) σ := fun H Q s q =>
  ⟨_, h, x, d, rfl, hd.mono s, ho, fun H' s' => q H' _ s' rfl⟩
theorem g_and (h : Gives H0 te (gEq (.bl b)) σ) (k : b = true → Gives H0 tf (gEq (.bl c)) σ) : Gives H0 (tAndV te tf) (gEq (.bl (b && c))) σ := fun H Q s q =>
  h H _ s fun H1 u s1 e => by
    refine ⟨b, e, ?_⟩
    cases b with
    | true => exact iteT (k rfl H1 Q (s.trans s1) fun H2 u2 s2 e2 => q H2 u2 (s1.trans s2) e2)
    | false => exact iteF (q H1 _ s1 rfl)
theorem t_valB (h : Gives H0 te (gEq (.bl b)) σ) : GivesT H0 (tB te) b σ := fun H Q s q => h H _ s fun H1 u s1 e => ⟨b, e, q H1 s1⟩
end
/-! ### the mirror -/
def foldR (f : PyData → Int → Option Int) : List PyData → Int → Option Int
  | [], r => some r
  | d :: ds, r => (f d r).bind (foldR f ds)
def itemR (rec : PyData → Int → Option Int) (dep : Nat) (d : PyData) (room : Int) : Option Int :=
  if room = 0 then none else match d with
  | .tuple [k, a, b] =>
    if isStrD "line" k = true then (if (nameD a && intD 1 1000000000000 b) = true then some (room - 1) else none)
    else if (!isStrD "loop" k || (decide (dep = 0) || !intD 1 1000000000000000000 a)) = true then none else rec b (room - 1)
  | _ => none
def itemsW (rec : PyData → Int → Option Int) (dep : Nat) (d : PyData) (room : Int) : Option Int := match d with
  | .tuple ds => if (decide ((1 : Int) ≤ (ds.length : Nat)) && decide (((ds.length : Nat) : Int) ≤ 20)) = true then foldR (itemR rec dep) ds room else none
  | _ => none
def itemsR : Nat → PyData → Int → Option Int
  | 0 => itemsW (fun _ _ => none) 0
  | n + 1 => itemsW (itemsR n) (n + 1)
def recR : Nat → PyData → Int → Option Int
  | 0 => fun _ _ => none
  | n + 1 => itemsR n
theorem itemsR_eq (dep : Nat) : itemsR dep = itemsW (recR dep) dep := by
  cases dep <;> rfl
def optV : Option Int → V
  | none => .non
  | some r => .int r
theorem itemR_bound {rec : PyData → Int → Option Int} {dep : Nat} (hrec : ∀ d r r', 0 ≤ r → rec d r = some r' → 0 ≤ r' ∧ r' ≤ r) {d : PyData} {r r' : Int} (h0 : 0 ≤ r) (h : itemR rec dep d r = some r') : 0 ≤ r' ∧ r' ≤ r := by
  unfold itemR at h
  by_cases hr : r = 0
  · rw [if_pos hr] at h
    cases h
  · rw [if_neg hr] at h
    split at h
    · split at h
      · split at h
        · cases h
          omega
        · cases h
      · split at h
        · cases h
        · have z := hrec _ _ _ (by omega) h
          omega
    · cases h
theorem foldR_bound {f : PyData → Int → Option Int} (hf : ∀ d r r', 0 ≤ r → f d r = some r' → 0 ≤ r' ∧ r' ≤ r) : ∀ {ds : List PyData} {r r' : Int}, 0 ≤ r → foldR f ds r = some r' → 0 ≤ r' ∧ r' ≤ r
  | [], r, r', h0, h => by
    cases h
    omega
  | d :: ds, r, r', h0, h => by
    unfold foldR at h
    cases e : f d r with
    | none =>
      rw [e] at h
      cases h
    | some r1 =>
      rw [e] at h
      have z1 := hf d r r1 h0 e
      have z2 := foldR_bound hf z1.1 h
      omega
theorem itemsR_bound : ∀ (dep : Nat) (d : PyData) (r r' : Int), 0 ≤ r → itemsR dep d r = some r' → 0 ≤ r' ∧ r' ≤ r := by
  have key : ∀ (rec : PyData → Int → Option Int) (dep : Nat), (∀ d r r', 0 ≤ r → rec d r = some r' → 0 ≤ r' ∧ r' ≤ r) → ∀ d r r', 0 ≤ r → itemsW rec dep d r = some r' → 0 ≤ r' ∧ r' ≤ r := by
    intro rec dep hrec d r r' h0 h
    unfold itemsW at h
    split at h
    · split at h
      · exact foldR_bound (fun d r r' a b => itemR_bound hrec a b) h0 h
      · cases h
    · cases h
  intro dep
  induction dep with
  | zero => exact key _ 0 fun d r r' _ h => (nomatch h)
  | succ n ih => exact key _ (n + 1) ih
def spRB (K : PySem.W.Frag) (dep : Nat) : Sp := fun vs H Q _ => ∃ (x : V) (d : PyData) (room : Int), vs = [x, .int (dep : Nat), .int room] ∧ Da K H x d ∧ okS d = true ∧ 0 ≤ room ∧ room ≤ 1000 ∧
  ∀ H', Same H H' → Q (optV (itemR (recR dep) dep d room)) H'
def spRI (K : PySem.W.Frag) (dep : Nat) : Sp := fun vs H Q _ => ∃ (x : V) (d : PyData) (room : Int), vs = [x, .int (dep : Nat), .int room] ∧ Da K H x d ∧ okS d = true ∧ 0 ≤ room ∧ room ≤ 1000 ∧
  ∀ H', Same H H' → Q (optV (itemsR dep d room)) H'
theorem scRB : FnScope ["item", "depth", "room", "kind", "first", "second", "is_line"] ["item", "depth", "room"] (defScope (topS 12)) := ⟨rfl, rfl, rfl, by decide +kernel, rfl, by decide +kernel, by decide +kernel⟩
theorem scRI : FnScope ["items", "depth", "room", "item"] ["items", "depth", "room"] (defScope (topS 11)) := ⟨rfl, rfl, rfl, by decide +kernel, rfl, by decide +kernel, by decide +kernel⟩
section
variable {P : Program} {w : World} {K : PySem.W.Frag} {mg : Str → Option Value} {base : Heap} {f fN fW fI : Addr} {fd fdN fdW fdI : FuncData}
theorem rb_step {k dep : Nat} {spR : Sp} {tT tR : Tok} (F : Fun K "room_behind" "room_behind" (topS 12) f fd) (GN : FnOk P w K mg base CX0 1 fN fdN ["value"] (spName K)) (bN : Binds K fdN ["value"] []) (gN : mg "is_name" = some (.ref fN)) (kN : PySem.W.keepIn K (.ref fN) = true)
    (GW : FnOk P w K mg base CX0 2 fW fdW ["value", "least", "most"] (spIn K)) (bW : Binds K fdW ["value", "least", "most"] []) (gW : mg "is_integer_within" = some (.ref fW)) (kW : PySem.W.keepIn K (.ref fW) = true)
    (GI : FnOk P w K mg base CX0 k fI fdI ["items", "depth", "room"] spR) (bI : Binds K fdI ["items", "depth", "room"] []) (gI : mg "room_behind_items" = some (.ref fI)) (kI : PySem.W.keepIn K (.ref fI) = true)
    (hk : 2 ≤ k) (hR : dep = 0 ∨ ∃ d, dep = d + 1 ∧ spR = spRI K d) (mI : mg "isinstance" = none) (mt : mg "tuple" = none) (ml : mg "len" = none) (gT : mg "MOST_TICKS" = some (.int 1000000000000 tT)) (gR : mg "MOST_ROUNDS" = some (.int 1000000000000000000 tR)) :
    FnOk P w K mg base CX0 (k + 1) f fd ["item", "depth", "room"] (spRB K dep) := by
  refine F.ok scRB (fun vs H Q E h => ?_) (fun cdv A outer s H vs Q E hr h => ?_)
  · obtain ⟨x, d, room, rfl, _⟩ := h
    rfl
  · obtain ⟨x, d, room, rfl, hd, ho, r0, r1, q⟩ := h
    have hr1 : Room 1 _ := hr.mono (Nat.le_trans (by decide) hk)
    have hr2 : Room 2 _ := hr.mono hk
    have hu : (A.deeper (envOfC "room_behind" (defScope (topS 12)) s.heap.objs.size f cdv)).units < cLine := hr.units0
    refine ⟨_, (pss_cons (ps_if (PW.pt (pw_or (pt_cmpR op_eq (pv 2) pe_int (nomark _)) (pw_or (pt_not (pt_val (pe_isT (.inr (.inr (.inl rfl))) mI (fun _ => pv 0) (fun _ => ty_of rfl mt (by decide +kernel))))) (pw_or1 (pt_cmpR op_ne (pe_callB call_len_seq (by rfl) ml PySem.boot_len (pa_cons (pv 0) pa_nil)) pe_int (nomark _)))))) (pss_one (ps_ret pe_non)) pss_nil) (pss_cons (ps_asg (pv 0) (pg_tup rfl (pgs_cons (pg_name (i := 3) scRB.nd rfl (.inl rfl)) (pgs_cons (pg_name (i := 4) scRB.nd rfl (.inl rfl)) (pgs_cons (pg_name (i := 5) scRB.nd rfl (.inl rfl)) pgs_nil))))) (pss_cons (ps_if (pt_cmpR (op_eqS hu) (pv 3) pe_str (nomark _)) (pss_cons (ps_set (i := 6) scRB.nd rfl (.inl rfl) (pe_and (pe_call GN hr1 (by rfl) gN kN bN .nil pass0 (pa_cons (pv 4) pa_nil)) (pe_one (pe_call GW hr2 (by rfl) gW kW bW .nil pass0 (pa_cons (pv 5) (pa_cons pe_int (pa_cons (pe_glob (v := .int 1000000000000) rfl gT ⟨_, rfl⟩) pa_nil))))))) (pss_one (ps_ret (pe_ifExp (pt_val (pv 6)) (pe_op op_sub (pv 2) pe_int) pe_non)))) pss_nil) (pss_cons (ps_if (PW.pt (pw_or (pt_cmpR (op_neS hu) (pv 3) pe_str (nomark _)) (pw_or (pt_cmpR op_eq (pv 1) pe_int (nomark _)) (pw_or1 (pt_not (pt_val (pe_call GW hr2 (by rfl) gW kW bW .nil pass0 (pa_cons (pv 4) (pa_cons pe_int (pa_cons (pe_glob (v := .int 1000000000000000000) rfl gR ⟨_, rfl⟩) pa_nil)))))))))) (pss_one (ps_ret pe_non)) pss_nil) (pss_one (ps_ret (pe_call GI hr (by rfl) gI kI bI .nil pass0 (pa_cons (pv 5) (pa_cons (pe_op op_sub (pv 1) pe_int) (pa_cons (pe_op op_sub (pv 2) pe_int) pa_nil)))))))))), ?_⟩
    by_cases ht : ∃ ds, d = .tuple ds
    · obtain ⟨ds, rfl⟩ := ht
      obtain ⟨a, rfl⟩ : ∃ a, x = .ref a := by
        cases hd
        exact ⟨_, rfl⟩
      have e1 : isD "tuple" (.tuple ds) = true := isD_tuple _
      refine s_ifB (t_or (t_eqI rfl) fun _ => t_or (t_not (t_isT rfl hd)) fun _ => t_neI (g_lenT rfl hd)) (fun e H' s' => ?_) (fun e H' s' => ?_)
      · rw [e1] at e
        have w0 : itemR (recR dep) dep (.tuple ds) room = none := by
          unfold itemR
          by_cases hz : room = 0
          · rw [if_pos hz]
          · rw [if_neg hz]
            have h3 : ds.length ≠ 3 := fun z => by
              rw [decide_eq_false hz, decide_eq_true (show ((ds.length : Nat) : Int) = 3 by omega)] at e
              cases e
            match ds, h3 with
            | [], _ => rfl
            | [_], _ => rfl
            | [_, _], _ => rfl
            | [_, _, _], h => exact absurd rfl h
            | _ :: _ :: _ :: _ :: _, _ => rfl
        have qq := q H' s'
        rw [w0] at qq
        exact qq
      · rw [e1] at e
        have hz : room ≠ 0 := fun z => by
          rw [decide_eq_true z] at e
          cases e
        have h3 : ds.length = 3 := by
          rw [decide_eq_false hz] at e
          by_cases z : ((ds.length : Nat) : Int) = 3
          · omega
          · rw [decide_eq_false z] at e
            cases e
        match ds, h3, hd, ho, q with
        | [kd, ad, bd], _, hd, ho, q =>
        have hd' := hd.mono s'
        cases hd' with
        | @tup _ xs _ hs ha =>
        cases ha with
        | @cons v1 _ _ _ d1 ha =>
        cases ha with
        | @cons v2 _ _ _ d2 ha =>
        cases ha with
        | @cons v3 _ _ _ d3 ha =>
        cases ha
        have o2 : okS ad = true := okSs_mem (ds := [kd, ad, bd]) (by rw [okS] at ho; exact ho) ad (by simp)
        have o3 : okS bd = true := okSs_mem (ds := [kd, ad, bd]) (by rw [okS] at ho; exact ho) bd (by simp)
        refine ⟨_, rfl, a, [v1, v2, v3], rfl, hs, rfl, v1, [v2, v3], rfl, v2, [v3], rfl, v3, [], rfl, rfl, ?_⟩
        have w0 : itemR (recR dep) dep (.tuple [kd, ad, bd]) room = (if isStrD "line" kd = true then (if (nameD ad && intD 1 1000000000000 bd) = true then some (room - 1) else none)
            else if (!isStrD "loop" kd || (decide (dep = 0) || !intD 1 1000000000000000000 ad)) = true then none else recR dep bd (room - 1)) := by
          unfold itemR
          rw [if_neg hz]
        rw [w0] at q
        dsimp only
        refine s_ifB (t_eqS (K := K) (x := v1) (d := kd) rfl d1) (fun eL H2 s2 => ?_) (fun eL H2 s2 => ?_)
        · rw [if_pos eL] at q
          refine s_set (i := 6) (g_and (g_name (K := K) (x := v2) (d := ad) rfl (d2.mono s2) o2) fun _ => g_in (K := K) (x := v3) (d := bd) rfl (d3.mono s2)) fun H3 u s3 gu => ?_
          have eu : u = .bl (nameD ad && intD 1 1000000000000 bd) := gu
          subst eu
          have qq := q H3 ((s'.trans s2).trans s3)
          refine ⟨_, rfl, _, rfl, ?_⟩
          by_cases hb : (nameD ad && intD 1 1000000000000 bd) = true
          · rw [if_pos hb] at qq ⊢
            exact ⟨_, rfl, _, _, rfl, rfl, qq⟩
          · rw [if_neg hb] at qq ⊢
            exact qq
        · rw [eL, if_neg Bool.false_ne_true] at q
          refine s_ifB (t_or (t_neSt (K := K) (x := v1) (d := kd) rfl (d1.mono s2)) fun _ => t_or (t_eqI (r := (dep : Nat)) (k := 0) rfl) fun _ => t_not (t_valB (g_in (K := K) (x := v2) (d := ad) rfl (d2.mono s2)))) (fun e5 H3 s3 => ?_) (fun e5 H3 s3 => ?_)
          · have qq := q H3 ((s'.trans s2).trans s3)
            have e6 : (!isStrD "loop" kd || (decide (dep = 0) || !intD 1 1000000000000000000 ad)) = true := by
              rw [← e5]
              congr 2
              rw [decide_eq_decide]
              omega
            rw [if_pos e6] at qq
            exact qq
          · have e6 : (!isStrD "loop" kd || (decide (dep = 0) || !intD 1 1000000000000000000 ad)) = false := by
              rw [← e5]
              congr 2
              rw [decide_eq_decide]
              omega
            rw [e6, if_neg Bool.false_ne_true] at q
            have hdep : dep ≠ 0 := fun z => by
              rw [z] at e6
              simp at e6
            obtain ⟨dd, rfl, rfl⟩ : ∃ dd, dep = dd + 1 ∧ spR = spRI K dd := by
              rcases hR with h | h
              · exact absurd h hdep
              · exact h
            refine ⟨_, rfl, _, rfl, _, _, rfl, rfl, _, rfl, _, _, rfl, rfl, v3, bd, room - 1, ?_, d3.mono (s2.trans s3), o3, by omega, by omega, fun H4 s4 => q H4 (((s'.trans s2).trans s3).trans s4)⟩
            show [v3, V.int (((dd + 1 : Nat) : Int) - 1), V.int (room - 1)] = [v3, V.int (dd : Nat), V.int (room - 1)]
            have z : (((dd + 1 : Nat) : Int) - 1) = (dd : Nat) := by omega
            rw [z]
    · have w0 : itemR (recR dep) dep d room = none := by
        unfold itemR
        by_cases hz : room = 0
        · rw [if_pos hz]
        · rw [if_neg hz]
          cases d <;> first | rfl | exact absurd ⟨_, rfl⟩ ht
      have w1 : isD "tuple" d = false := by
        rw [isD_tuple]
        cases d <;> first | rfl | exact absurd ⟨_, rfl⟩ ht
      have t1 := t_not (t_isT (T := "tuple") (σ := [some x, some (.int (dep : Nat)), some (.int room), none, none, none, none]) (i := 0) rfl hd)
      rw [w1] at t1
      refine s_ifB (b := decide (room = 0) || (true || true)) (t_or (t_eqI rfl) fun _ => t_or (c := true) t1 fun z => (nomatch z)) (fun e H' s' => ?_) (fun e => ?_)
      · have qq := q H' s'
        rw [w0] at qq
        exact qq
      · rw [Bool.true_or, Bool.or_true] at e
        cases e
theorem fold_at {f : PyData → Int → Option Int} {ds : List PyData} {i : Nat} {d : PyData} {r : Int} (h : ds[i]? = some d) : foldR f (ds.drop i) r = (f d r).bind (foldR f (ds.drop (i + 1))) := by
  obtain ⟨hi, e⟩ := List.getElem?_eq_some_iff.mp h
  rw [List.drop_eq_getElem_cons hi, e]
  rfl
theorem daAll_get {H : Hp} : ∀ {vs : List V} {ds : List PyData} {i : Nat} {v : V}, DaAll K H vs ds → vs[i]? = some v → ∃ d, ds[i]? = some d ∧ Da K H v d
  | _, _, _, _, .nil, h => by simp at h
  | _, _, 0, _, .cons a _, h => by
    simp at h
    subst h
    exact ⟨_, rfl, a⟩
  | _, _, i + 1, _, .cons _ t, h => daAll_get (i := i) t (by simpa using h)
theorem recR_bound (dep : Nat) : ∀ d r r', 0 ≤ r → recR dep d r = some r' → 0 ≤ r' ∧ r' ≤ r := by
  cases dep with
  | zero => exact fun d r r' _ h => (nomatch h)
  | succ n => exact itemsR_bound n
theorem ri_step {k dep : Nat} {tB : Tok} {fB : Addr} {fdB : FuncData} (F : Fun K "room_behind_items" "room_behind_items" (topS 11) f fd) (GB : FnOk P w K mg base CX0 k fB fdB ["item", "depth", "room"] (spRB K dep)) (bB : Binds K fdB ["item", "depth", "room"] []) (gB : mg "room_behind" = some (.ref fB))
    (kB : PySem.W.keepIn K (.ref fB) = true) (mI : mg "isinstance" = none) (mt : mg "tuple" = none) (ml : mg "len" = none) (gE : mg "MOST_BESIDE" = some (.int 20 tB)) :
    FnOk P w K mg base CX0 (k + 1) f fd ["items", "depth", "room"] (spRI K dep) := by
  refine F.ok scRI (fun vs H Q E h => ?_) (fun cdv A outer s H vs Q E hr h => ?_)
  · obtain ⟨x, d, room, rfl, _⟩ := h
    rfl
  · obtain ⟨x, d, room, rfl, hd, ho, r0, r1, q⟩ := h
    refine ⟨_, (pss_cons (ps_if (PW.pt (pw_or (pt_not (pt_val (pe_isT (.inr (.inr (.inl rfl))) mI (fun _ => pv 0) (fun _ => ty_of rfl mt (by decide +kernel))))) (pw_or1 (pt_not (pt_chain op_le op_le pe_int (pe_callB call_len_seq (by rfl) ml PySem.boot_len (pa_cons (pv 0) pa_nil)) (pe_glob (v := .int 20) rfl gE ⟨_, rfl⟩)))))) (pss_one (ps_ret pe_non)) pss_nil) (pss_cons (ps_for PassesOwn.never rfl (pi_tup (pv 0)) (pg_name (i := 3) scRI.nd rfl (.inl rfl)) (pss_cons (ps_set (i := 2) scRI.nd rfl (.inl rfl) (pe_call GB hr (by rfl) gB kB bB .nil pass0 (pa_cons (pv 3) (pa_cons (pv 1) (pa_cons (pv 2) pa_nil))))) (pss_one (ps_if (pt_cmpR op_isN (pv 2) pe_non (nomark _)) (pss_one (ps_ret pe_non)) pss_nil)))) (pss_one (ps_ret (pv 2))))), ?_⟩
    rw [itemsR_eq] at q
    by_cases ht : ∃ ds, d = .tuple ds
    · obtain ⟨ds, rfl⟩ := ht
      obtain ⟨a, rfl⟩ : ∃ a, x = .ref a := by
        cases hd
        exact ⟨_, rfl⟩
      have e1 : isD "tuple" (.tuple ds) = true := isD_tuple _
      refine s_ifB (t_or (t_not (t_isT rfl hd)) fun _ => t_not (t_chainI (g_lenT rfl hd))) (fun e H' s' => ?_) (fun e H' s' => ?_)
      · rw [e1, Bool.not_true, Bool.false_or, Bool.not_eq_true'] at e
        have w0 : itemsW (recR dep) dep (.tuple ds) room = none := by
          unfold itemsW
          dsimp only
          rw [e, if_neg Bool.false_ne_true]
        have qq := q H' s'
        rw [w0] at qq
        exact qq
      · rw [e1, Bool.not_true, Bool.false_or, Bool.not_eq_false'] at e
        have w0 : itemsW (recR dep) dep (.tuple ds) room = foldR (itemR (recR dep) dep) ds room := by
          unfold itemsW
          dsimp only
          rw [if_pos e]
        rw [w0] at q
        have hd' := hd.mono s'
        cases hd' with
        | @tup _ xs _ hs ha =>
        refine ⟨_, rfl, a, rfl, ⟨_, hs⟩, for_tup (K := K) (a := a) (xs := xs) (fun i σ' H'' => ∃ (r : Int) (y3 : Option V), σ' = [some (.ref a), some (.int (dep : Nat)), some (.int r), y3] ∧ 0 ≤ r ∧ r ≤ 1000 ∧
          foldR (itemR (recR dep) dep) ds room = foldR (itemR (recR dep) dep) (ds.drop i) r ∧ Same H' H'') ⟨room, none, rfl, r0, r1, rfl, Same.rfl'⟩ (fun i σ' H'' _ ⟨_, _, _, _, _, _, sA⟩ => seqT_mono sA hs) ?_ ?_⟩
        · rintro i y σ' HA hi ⟨r, y3, rfl, q0, q1, qf, sA⟩
          obtain ⟨di, hdi, hDi⟩ := daAll_get ha hi
          have hoi : okS di = true := okSs_mem (by rw [okS] at ho; exact ho) di (List.mem_of_getElem? hdi)
          refine ⟨_, rfl, _, rfl, _, rfl, y, di, r, rfl, hDi.mono sA, hoi, q0, q1, fun HB sB => ?_⟩
          have st := fold_at (f := itemR (recR dep) dep) (r := r) hdi
          rw [st] at qf
          cases er : itemR (recR dep) dep di r with
          | none =>
            rw [er] at qf
            refine ⟨_, rfl, rfl, _, rfl, ?_⟩
            refine iteT ?_
            have qq := q HB ((s'.trans sA).trans sB)
            rw [qf] at qq
            exact qq
          | some r' =>
            rw [er] at qf
            have hb := itemR_bound (recR_bound dep) q0 er
            refine ⟨_, rfl, rfl, _, rfl, ?_⟩
            refine iteF ?_
            exact ⟨r', _, rfl, hb.1, by omega, qf, sA.trans sB⟩
        · rintro σ' HA ⟨r, y3, rfl, q0, q1, qf, sA⟩
          have hl := daAll_len ha
          rw [hl, List.drop_length] at qf
          have qq := q HA (s'.trans sA)
          rw [qf] at qq
          exact ⟨_, rfl, qq⟩
    · have w0 : itemsW (recR dep) dep d room = none := by
        unfold itemsW
        cases d <;> first | rfl | exact absurd ⟨_, rfl⟩ ht
      have w1 : isD "tuple" d = false := by
        rw [isD_tuple]
        cases d <;> first | rfl | exact absurd ⟨_, rfl⟩ ht
      have t1 := t_not (t_isT (T := "tuple") (σ := [some x, some (.int (dep : Nat)), some (.int room), none]) (i := 0) rfl hd)
      rw [w1] at t1
      refine s_ifB (b := true || true) (t_or (c := true) t1 fun z => (nomatch z)) (fun e H' s' => ?_) (fun e => nomatch e)
      have qq := q H' s'
      rw [w0] at qq
      exact qq
/-- both, at every depth -/
theorem ok_ri {tT tR tB : Tok} {fB : Addr} {fdB : FuncData} (FI : Fun K "room_behind_items" "room_behind_items" (topS 11) fI fdI) (FB : Fun K "room_behind" "room_behind" (topS 12) fB fdB)
    (GN : FnOk P w K mg base CX0 1 fN fdN ["value"] (spName K)) (bN : Binds K fdN ["value"] []) (gN : mg "is_name" = some (.ref fN)) (kN : PySem.W.keepIn K (.ref fN) = true)
    (GW : FnOk P w K mg base CX0 2 fW fdW ["value", "least", "most"] (spIn K)) (bW : Binds K fdW ["value", "least", "most"] []) (gW : mg "is_integer_within" = some (.ref fW)) (kW : PySem.W.keepIn K (.ref fW) = true)
    (bI : Binds K fdI ["items", "depth", "room"] []) (gI : mg "room_behind_items" = some (.ref fI)) (bB : Binds K fdB ["item", "depth", "room"] []) (gB : mg "room_behind" = some (.ref fB))
    (mI : mg "isinstance" = none) (mt : mg "tuple" = none) (ml : mg "len" = none) (gT : mg "MOST_TICKS" = some (.int 1000000000000 tT)) (gR : mg "MOST_ROUNDS" = some (.int 1000000000000000000 tR)) (gE : mg "MOST_BESIDE" = some (.int 20 tB)) :
    ∀ dep : Nat, FnOk P w K mg base CX0 (2 * dep + 4) fI fdI ["items", "depth", "room"] (spRI K dep)
  | 0 => ri_step FI (rb_step (k := 2) FB GN bN gN kN GW bW gW kW no_fn bI gI FI.kp (Nat.le_refl 2) (.inl rfl) mI mt ml gT gR) bB gB FB.kp mI mt ml gE
  | n + 1 => ri_step FI (rb_step (k := 2 * n + 4) FB GN bN gN kN GW bW gW kW (ok_ri FI FB GN bN gN kN GW bW gW kW bI gI bB gB mI mt ml gT gR gE n) bI gI FI.kp (by omega) (.inr ⟨n, rfl, rfl⟩) mI mt ml gT gR) bB gB FB.kp mI mt ml gE
def spProg (K : PySem.W.Frag) : Sp := fun vs H Q _ => ∃ (x : V) (d : PyData), vs = [x] ∧ Da K H x d ∧ okS d = true ∧ ∀ H', Same H H' → Q (.bl (itemsR 5 d 60).isSome) H'
theorem scProg : FnScope ["value"] ["value"] (defScope (topS 10)) := ⟨rfl, rfl, rfl, by decide +kernel, rfl, by decide +kernel, by decide +kernel⟩
theorem ok_prog {tD tI : Tok} (F : Fun K "is_program" "is_program" (topS 10) f fd) (GI : FnOk P w K mg base CX0 14 fI fdI ["items", "depth", "room"] (spRI K 5)) (bI : Binds K fdI ["items", "depth", "room"] []) (gI : mg "room_behind_items" = some (.ref fI)) (kI : PySem.W.keepIn K (.ref fI) = true)
    (gD : mg "MOST_DEEP" = some (.int 5 tD)) (gM : mg "MOST_ITEMS" = some (.int 60 tI)) : FnOk P w K mg base CX0 15 f fd ["value"] (spProg K) := by
  refine F.ok scProg (fun vs H Q E h => ?_) (fun cdv A outer s H vs Q E hr h => ?_)
  · obtain ⟨x, d, rfl, _⟩ := h
    rfl
  · obtain ⟨x, d, rfl, hd, ho, q⟩ := h
    refine ⟨_, pss_one (ps_ret (pe_cmpR op_notN (pe_call GI hr (by rfl) gI kI bI .nil pass0 (pa_cons (pv 0) (pa_cons (pe_glob (v := .int 5) rfl gD ⟨_, rfl⟩) (pa_cons (pe_glob (v := .int 60) rfl gM ⟨_, rfl⟩) pa_nil)))) pe_non (nomark _))), ?_⟩
    refine ⟨_, rfl, x, d, 60, rfl, hd, ho, by decide, by decide, fun H' s' => ⟨rfl, ?_⟩⟩
    have qq := q H' s'
    have z : (!decide (optV (itemsR 5 d 60) = V.non)) = (itemsR 5 d 60).isSome := by
      cases itemsR 5 d 60 with
      | none => rfl
      | some r => rfl
    rw [z]
    exact qq
end
end Ev

/-! ## The law's own count, and why it tells the same -/
namespace Ev
open PySem
def innerC (rec : PyData → Int) (dep : Nat) : PyData → Int
  | .tuple [.str x, a, b] =>
    if (x == "line" && (nameD a && intD 1 1000000000000 b)) = true then 0
    else if (x == "loop" && (decide (0 < dep) && intD 1 1000000000000000000 a)) = true then rec b else -1
  | _ => -1
def cntF (g : PyData → Int) : List PyData → Int → Int
  | [], acc => acc
  | d :: ds, acc => if g d < 0 then -1 else cntF g ds (acc + 1 + g d)
def cntW (rec : PyData → Int) (dep : Nat) : PyData → Int
  | .tuple ds => if (decide (0 < ds.length) && decide (ds.length < 21)) = true then cntF (innerC rec dep) ds 0 else -1
  | _ => -1
def cntI : Nat → PyData → Int
  | 0 => cntW (fun _ => -1) 0
  | n + 1 => cntW (cntI n) (n + 1)
/-- room and count tell the same -/
def Alike (r : PyData → Int → Option Int) (c : PyData → Int) : Prop := ∀ d room, 0 ≤ room → r d room = if 0 ≤ c d ∧ c d ≤ room then some (room - c d) else none
theorem item_alike {r : PyData → Int → Option Int} {c : PyData → Int} {dep : Nat} (h : dep ≠ 0 → Alike r c) (d : PyData) (room : Int) (h0 : 0 ≤ room) :
    itemR r dep d room = if 0 ≤ innerC c dep d ∧ innerC c dep d + 1 ≤ room then some (room - 1 - innerC c dep d) else none := by
  unfold itemR
  by_cases hz : room = 0
  · rw [if_pos hz, if_neg]
    omega
  · rw [if_neg hz]
    have bad : innerC c dep d = -1 → (none : Option Int) = if 0 ≤ innerC c dep d ∧ innerC c dep d + 1 ≤ room then some (room - 1 - innerC c dep d) else none := fun e => by
      rw [e, if_neg]
      omega
    split
    · rename_i k a b
      by_cases hk : ∃ x, k = .str x
      · obtain ⟨x, rfl⟩ := hk
        have e1 : isStrD "line" (.str x) = (x == "line") := rfl
        have e2 : isStrD "loop" (.str x) = (x == "loop") := rfl
        have e3 : innerC c dep (.tuple [.str x, a, b]) = (if (x == "line" && (nameD a && intD 1 1000000000000 b)) = true then 0
            else if (x == "loop" && (decide (0 < dep) && intD 1 1000000000000000000 a)) = true then c b else -1) := rfl
        rw [e1, e2, e3]
        by_cases hl : (x == "line") = true
        · rw [if_pos hl, hl, Bool.true_and]
          have hx : x = "line" := beq_iff_eq.mp hl
          have hlo : (x == "loop") = false := by
            rw [hx]
            decide
          rw [hlo, Bool.false_and, if_neg Bool.false_ne_true]
          by_cases hn : (nameD a && intD 1 1000000000000 b) = true
          · rw [if_pos hn, if_pos hn, if_pos (by omega)]
            congr 1
            omega
          · rw [if_neg hn, if_neg hn, if_neg (by omega)]
        · have hl' : (x == "line") = false := Bool.eq_false_iff.mpr hl
          rw [if_neg hl, hl', Bool.false_and, if_neg Bool.false_ne_true]
          by_cases hd : dep = 0
          · rw [decide_eq_true hd, Bool.true_or, Bool.or_true, if_pos rfl, decide_eq_false (show ¬ 0 < dep by omega), Bool.false_and, Bool.and_false, if_neg Bool.false_ne_true, if_neg (by omega)]
          · rw [decide_eq_false hd, Bool.false_or, decide_eq_true (show 0 < dep by omega), Bool.true_and]
            cases (x == "loop") <;> cases intD 1 1000000000000000000 a
            · simp
            · simp
            · simp
            · simp only [Bool.not_true, Bool.or_false, Bool.and_true, Bool.false_eq_true, if_false, if_true]
              rw [h hd b (room - 1) (by omega)]
              by_cases hc : 0 ≤ c b ∧ c b ≤ room - 1
              · rw [if_pos hc, if_pos (by omega)]
              · rw [if_neg hc, if_neg (by omega)]
      · have e1 : isStrD "line" k = false := by
          cases k <;> first | rfl | exact absurd ⟨_, rfl⟩ hk
        have e2 : isStrD "loop" k = false := by
          cases k <;> first | rfl | exact absurd ⟨_, rfl⟩ hk
        rw [e1, e2, if_neg Bool.false_ne_true, Bool.not_false, Bool.true_or, if_pos rfl]
        refine bad ?_
        cases k <;> first | rfl | exact absurd ⟨_, rfl⟩ hk
    · rename_i hno
      refine bad ?_
      unfold innerC
      split
      · exact absurd rfl (hno _ _ _)
      · rfl
theorem cntF_ge {g : PyData → Int} : ∀ (ds : List PyData) (acc : Int), 0 ≤ acc → cntF g ds acc = -1 ∨ acc + ds.length ≤ cntF g ds acc
  | [], acc, _ => .inr (by unfold cntF; simp)
  | d :: ds, acc, h => by
    unfold cntF
    by_cases hd : g d < 0
    · rw [if_pos hd]
      exact .inl rfl
    · rw [if_neg hd]
      rcases cntF_ge (g := g) ds (acc + 1 + g d) (by omega) with z | z
      · exact .inl z
      · refine .inr ?_
        rw [List.length_cons]
        omega
theorem fold_alike {f : PyData → Int → Option Int} {g : PyData → Int} (h : ∀ d room, 0 ≤ room → f d room = if 0 ≤ g d ∧ g d + 1 ≤ room then some (room - 1 - g d) else none) :
    ∀ (ds : List PyData) (room acc : Int), 0 ≤ room → 0 ≤ acc → foldR f ds room = if 0 ≤ cntF g ds acc ∧ cntF g ds acc - acc ≤ room then some (room - (cntF g ds acc - acc)) else none
  | [], room, acc, h0, ha => by
    unfold foldR cntF
    rw [if_pos (by omega)]
    congr 1
    omega
  | d :: ds, room, acc, h0, ha => by
    unfold foldR cntF
    rw [h d room h0]
    by_cases hd : g d < 0
    · rw [if_pos hd, if_neg (by omega), if_neg (by omega)]
      rfl
    · rw [if_neg hd]
      rcases cntF_ge (g := g) ds (acc + 1 + g d) (by omega) with z | z
      · by_cases hr : g d + 1 ≤ room
        · rw [if_pos (by omega)]
          show foldR f ds _ = _
          rw [fold_alike h ds (room - 1 - g d) (acc + 1 + g d) (by omega) (by omega), z, if_neg (by omega), if_neg (by omega)]
        · rw [if_neg (by omega), z, if_neg (by omega)]
          rfl
      · by_cases hr : g d + 1 ≤ room
        · rw [if_pos (by omega)]
          show foldR f ds _ = _
          rw [fold_alike h ds (room - 1 - g d) (acc + 1 + g d) (by omega) (by omega)]
          by_cases hc : cntF g ds (acc + 1 + g d) - acc ≤ room
          · rw [if_pos (by omega), if_pos (by omega)]
            congr 1
            omega
          · rw [if_neg (by omega), if_neg (by omega)]
        · rw [if_neg (by omega), if_neg (by omega)]
          rfl
theorem items_alike {r : PyData → Int → Option Int} {c : PyData → Int} {dep : Nat} (h : dep ≠ 0 → Alike r c) : Alike (itemsW r dep) (cntW c dep) := by
  intro d room h0
  unfold itemsW cntW
  split
  · rename_i ds
    have e : (decide ((1 : Int) ≤ (ds.length : Nat)) && decide (((ds.length : Nat) : Int) ≤ 20)) = (decide (0 < ds.length) && decide (ds.length < 21)) := by
      congr 1
      · rw [decide_eq_decide]
        omega
      · rw [decide_eq_decide]
        omega
    rw [e]
    show _ = if (0 ≤ (if (decide (0 < ds.length) && decide (ds.length < 21)) = true then cntF (innerC c dep) ds 0 else -1)) ∧ (if (decide (0 < ds.length) && decide (ds.length < 21)) = true then cntF (innerC c dep) ds 0 else -1) ≤ room then some (room - (if (decide (0 < ds.length) && decide (ds.length < 21)) = true then cntF (innerC c dep) ds 0 else -1)) else none
    by_cases hl : (decide (0 < ds.length) && decide (ds.length < 21)) = true
    · rw [if_pos hl, if_pos hl, fold_alike (item_alike h) ds room 0 h0 (Int.le_refl 0)]
      simp only [Int.sub_zero]
    · rw [if_neg hl, if_neg hl, if_neg (by omega)]
  · rename_i hno
    first
      | rw [if_neg (by omega)]
      | (split
         · exact absurd rfl (hno _)
         · rw [if_neg (by omega)])
theorem alike : ∀ dep : Nat, Alike (itemsR dep) (cntI dep)
  | 0 => items_alike fun h => absurd rfl h
  | n + 1 => items_alike fun _ => alike n
theorem cntI_pos (dep : Nat) (d : PyData) : cntI dep d = -1 ∨ 1 ≤ cntI dep d := by
  have key : ∀ (c : PyData → Int) (n : Nat), cntW c n d = -1 ∨ 1 ≤ cntW c n d := by
    intro c n
    unfold cntW
    split
    · rename_i ds
      by_cases hl : (decide (0 < ds.length) && decide (ds.length < 21)) = true
      · rw [if_pos hl]
        rw [Bool.and_eq_true] at hl
        have h1 := of_decide_eq_true hl.1
        rcases cntF_ge (g := innerC c n) ds 0 (Int.le_refl 0) with z | z
        · exact .inl z
        · exact .inr (by omega)
      · rw [if_neg hl]
        exact .inl rfl
    · exact .inl rfl
  cases dep with
  | zero => exact key _ 0
  | succ n => exact key _ (n + 1)
/-- is_program tells what the law's count tells -/
theorem same_answer (d : PyData) : (itemsR 5 d 60).isSome = (decide (0 < cntI 5 d) && decide (cntI 5 d < 61)) := by
  rw [alike 5 d 60 (by decide)]
  rcases cntI_pos 5 d with z | z
  · rw [z]
    rfl
  · by_cases h : cntI 5 d ≤ 60
    · rw [if_pos (by omega), decide_eq_true (show 0 < cntI 5 d by omega), decide_eq_true (show cntI 5 d < 61 by omega)]
      rfl
    · rw [if_neg (by omega), decide_eq_false (show ¬ cntI 5 d < 61 by omega), Bool.and_false]
      rfl
end Ev

/-! ## The law's own check: whole numbers, words, the count -/
namespace Ev
open PySem PySem.Spec PyProof.Rows L2
section
variable {K : PySem.W.Frag} {H0 : Hp} {σ : L2.St} {te tf : TE} {i : Nat} {x : V} {d : PyData} {b c : Bool} {T : String}
theorem g_isT (h : σ[i]? = some (some x)) (hd : Da K H0 x d) : Gives H0 (tIsT K T i) (gEq (.bl (isD T d))) σ := fun H Q s q => ⟨x, d, h, hd.mono s, q H _ Same.rfl' rfl⟩
theorem g_notV (h : Gives H0 te (gEq (.bl b)) σ) : Gives H0 (tNotV te) (gEq (.bl (!b))) σ := fun H Q s q => h H _ s fun H1 u s1 e => ⟨b, e, q H1 _ s1 rfl⟩
theorem g_chainV {a k m : Int} (h1 : Gives H0 te (gEq (.int a)) σ) (hi : σ[i]? = some (some (.int k))) (h2 : Gives H0 tf (gEq (.int m)) σ) : Gives H0 (tChain rLeI rLeI te (tVar i) tf) (gEq (.bl (decide (a ≤ k) && decide (k ≤ m)))) σ := fun H Q s q =>
  h1 H _ s fun H1 u s1 e => by
    have e : u = .int a := e
    subst e
    refine ⟨_, hi, _, _, rfl, rfl, _, rfl, ite2 (fun z => ?_) (fun z => ?_)⟩
    · refine h2 H1 _ (s.trans s1) fun H2 u2 s2 e2 => ?_
      have e2 : u2 = .int m := e2
      subst e2
      refine ⟨_, _, rfl, rfl, q H2 _ (s1.trans s2) ?_⟩
      show _ = _
      rw [z, Bool.true_and]
    · refine q H1 _ s1 ?_
      show _ = _
      rw [Bool.eq_false_iff.mpr z, Bool.false_and]
abbrev rLtI : R2 := rI0 fun i j => .bl (decide (i < j))
theorem t_chainL {tb : TE} {a b c : Int} (h : Gives H0 tb (gEq (.int b)) σ) :
    GivesT H0 (tTest (tChain rLtI rLtI (tC (.int a)) tb (tC (.int c)))) (decide (a < b) && decide (b < c)) σ := fun H Q s q =>
  h H _ s fun H1 u s1 e => by
    have e : u = .int b := e
    subst e
    refine ⟨_, _, rfl, rfl, _, rfl, ite2 (fun z => ?_) (fun z => ?_)⟩
    · refine ⟨_, _, rfl, rfl, _, rfl, ?_⟩
      have qq := q H1 s1
      rw [z, Bool.true_and] at qq
      exact qq
    · refine ⟨_, rfl, ?_⟩
      have qq := q H1 s1
      rw [Bool.eq_false_iff.mpr z, Bool.false_and] at qq
      exact qq
end
abbrev rInZ : R2 := fun x y H Q => ∃ (c : Nat) (z : Str), x = .str ⟨#[c]⟩ ∧ y = .str z ∧ Q (.bl (decide (c ∈ z.cps.toList))) H
def spWh (K : PySem.W.Frag) : Sp := fun vs H Q _ => ∃ (x : V) (d : PyData) (hi : Int), vs = [x, .int hi] ∧ Da K H x d ∧ ∀ H', Same H H' → Q (.bl (intD 1 hi d)) H'
theorem scWh : FnScope ["_law_thing", "_law_most"] ["_law_thing", "_law_most"] (defScope (topS 21)) := ⟨rfl, rfl, rfl, by decide +kernel, rfl, by decide +kernel, by decide +kernel⟩
theorem scWd : FnScope ["_law_thing", "_law_letter"] ["_law_thing"] (defScope (topS 22)) := ⟨rfl, rfl, rfl, by decide +kernel, rfl, by decide +kernel, by decide +kernel⟩
section
variable {P : Program} {w : World} {K : PySem.W.Frag} {mg : Str → Option Value} {base : Heap} {f fN fW fI : Addr} {fd fdN fdW fdI : FuncData}
theorem ok_wh (F : Fun K "_law_is_whole" "_law_is_whole" (topS 21) f fd) (mI : mg "isinstance" = none) (mi : mg "int" = none) (mb : mg "bool" = none) :
    FnOk P w K mg base CX0 1 f fd ["_law_thing", "_law_most"] (spWh K) := by
  refine F.ok scWh (fun vs H Q E h => ?_) (fun cdv A outer s H vs Q E hr h => ?_)
  · obtain ⟨x, d, hi, rfl, _⟩ := h
    rfl
  · obtain ⟨x, d, hi, rfl, hd, q⟩ := h
    refine ⟨_, pss_one (ps_ret (pe_and (pe_isT (.inl rfl) mI (fun _ => pv 0) (fun _ => ty_of rfl mi (by decide +kernel)))
      (pe_and (pe_not (pe_isT (.inr (.inl rfl)) mI (fun _ => pv 0) (fun _ => ty_of rfl mb (by decide +kernel)))) (pe_one (pe_chain op_le op_le pe_int (pv 0) (pv 1)))))), ?_⟩
    have key : Gives H (tAndV (tIsT K "int" 0) (tAndV (tNotV (tIsT K "bool" 0)) (tChain rLeI rLeI (tC (.int 1)) (tVar 0) (tVar 1)))) (gEq (.bl (isD "int" d && (!isD "bool" d && intD 1 hi d)))) [some x, some (.int hi)] := by
      refine g_and (g_isT rfl hd) fun e1 => g_and (g_notV (g_isT rfl hd)) fun e2 => ?_
      rw [isD_int] at e1
      rw [isD_bool] at e2
      obtain ⟨i, rfl⟩ : ∃ i, d = .int i := by
        cases d <;> first | exact ⟨_, rfl⟩ | simp at e1 e2
      have ex : x = .int i := by
        cases hd
        rfl
      subst ex
      exact g_chainV (g_c fun _ => rfl) rfl (g_eq rfl)
    refine s_ret key fun H' u s' g => ?_
    have eu : u = .bl (isD "int" d && (!isD "bool" d && intD 1 hi d)) := g
    subst eu
    have z : (isD "int" d && (!isD "bool" d && intD 1 hi d)) = intD 1 hi d := by
      rw [isD_int, isD_bool]
      cases d <;> simp [intD]
    rw [z]
    exact q H' s'
theorem az_list : ("abcdefghijklmnopqrstuvwxyz" : Str).cps.toList = (List.range 26).map (· + 97) := by decide +kernel
theorem az (c : Nat) : decide (c ∈ ("abcdefghijklmnopqrstuvwxyz" : Str).cps.toList) = (decide (97 ≤ c) && decide (c ≤ 122)) := by
  rw [az_list, ← Bool.decide_and, decide_eq_decide, List.mem_map]
  constructor
  · rintro ⟨a, ha, rfl⟩
    have := List.mem_range.mp ha
    omega
  · intro h
    exact ⟨c - 97, List.mem_range.mpr (by omega), by omega⟩
theorem ok_wd (F : Fun K "_law_is_word" "_law_is_word" (topS 22) f fd) (mI : mg "isinstance" = none) (ms : mg "str" = none) (ml : mg "len" = none) (ma : mg "all" = none) :
    FnOk P w K mg base CX0 1 f fd ["_law_thing"] (spName K) := by
  refine F.ok scWd (fun vs H Q E h => ?_) (fun cdv A outer s H vs Q E hr h => ?_)
  · obtain ⟨x, d, rfl, _⟩ := h
    rfl
  · obtain ⟨x, d, rfl, hd, ho, q⟩ := h
    refine ⟨_, pss_cons (ps_if (PW.pt (pw_or (pt_not (pt_val (pe_isT (.inr (.inr (.inr rfl))) mI (fun _ => pv 0) (fun _ => ty_of rfl ms (by decide +kernel)))))
        (pw_or1 (pt_not (pt_chain op_lt op_lt pe_int (pe_callB call_len_str (by rfl) ml PySem.boot_len (pa_cons (pv 0) pa_nil)) pe_int))))) (pss_one (ps_ret pe_bl)) pss_nil)
      (pss_one (ps_ret (pe_callB (cr_all rfl) (by rfl) ma (by decide +kernel) (pa_cons (pe_lc (own := [("_law_letter", 1)]) (g := gName 1) (tt := tYes) (te := tOp rInZ (tVar 1) (tC (.str "abcdefghijklmnopqrstuvwxyz"))) rfl scWd.nd (pi_str (pv 0))
        (blkOk_by (N := ["_law_thing", "_law_letter"]) (sc := defScope (topS 22)) (by decide +kernel)) (fun _ _ _ _ _ => pg_name (i := 1) scWd.nd rfl (Or.inl rfl)) (fun _ _ _ _ _ => pts_nil) (fun _ _ _ _ _ => pe_cmpR op_in_sign (pv 1) pe_str (by rfl))) pa_nil)))), ?_⟩
    by_cases hs : ∃ z, d = .str z
    · obtain ⟨z, rfl⟩ := hs
      have ex : x = .str z := by
        cases hd
        rfl
      subst ex
      have hz : z.length ≤ 1000 := by
        rw [okS] at ho
        exact of_decide_eq_true ho
      refine s_ifB (t_or (t_not (t_isT rfl hd)) fun _ => t_not (t_chainL (g_lenS rfl hz))) (fun e H' s' => ?_) (fun e H' s' => ?_)
      · rw [isD_str] at e
        have e' : (decide ((0 : Int) < z.length) && decide ((z.length : Int) < 9)) = false := by
          revert e
          cases (decide ((0 : Int) < z.length) && decide ((z.length : Int) < 9)) <;> simp
        have w0 : nameD (.str z) = false := by
          show (decide (1 ≤ z.length) && (decide (z.length ≤ 8) && _)) = false
          rw [← Bool.and_assoc]
          have e2 : (decide (1 ≤ z.length) && decide (z.length ≤ 8)) = false := by
            rw [Bool.and_eq_false_iff] at e' ⊢
            rcases e' with h | h
            · left
              have := of_decide_eq_false h
              exact decide_eq_false (by omega)
            · right
              have := of_decide_eq_false h
              exact decide_eq_false (by omega)
          rw [e2, Bool.false_and]
        have qq := q H' s'
        rw [w0] at qq
        exact qq
      · rw [isD_str] at e
        have e' : (decide ((0 : Int) < z.length) && decide ((z.length : Int) < 9)) = true := by
          revert e
          cases (decide ((0 : Int) < z.length) && decide ((z.length : Int) < 9)) <;> simp
        rw [Bool.and_eq_true] at e'
        have l1 := of_decide_eq_true e'.1
        have l2 := of_decide_eq_true e'.2
        let bs : List Bool := z.cps.toList.map fun c => decide (97 ≤ c) && decide (c ≤ 122)
        have hlc : Gives H' (tLc (iStr (tVar 0)) (gName 1) tYes (tOp rInZ (tVar 1) (tC (.str "abcdefghijklmnopqrstuvwxyz"))) [1]) (gLst ((bs.map V.bl).map gEq)) [some (.str z), none] := by
          refine g_lcS rfl hz (by simp [bs]) fun j c y hc hy HH R sH hR => ⟨rfl, ?_⟩
          have ey : y = .bl (decide (97 ≤ c) && decide (c ≤ 122)) := by
            rw [List.getElem?_map, List.getElem?_map, Array.getElem?_toList, hc] at hy
            exact (Option.some.inj hy).symm
          refine ⟨_, rfl, c, _, rfl, rfl, ?_⟩
          rw [az, ← ey]
          exact hR
        have hlc : Gives H' (tLc (iStr (tVar 0)) (gName 1) tYes (tOp rInZ (tVar 1) (tC (.str "abcdefghijklmnopqrstuvwxyz"))) [1]) (gLst (bs.map fun b => gEq (.bl b))) [some (.str z), none] := by
          rw [List.map_map] at hlc
          exact hlc
        refine s_ret (g_all (K := K) hlc) fun H2 u s2 g2 => ?_
        have eu : u = .bl (bs.all id) := g2
        subst eu
        have w1 : nameD (.str z) = bs.all id := by
          show (decide (1 ≤ z.length) && (decide (z.length ≤ 8) && _)) = _
          rw [decide_eq_true (show 1 ≤ z.length by omega), decide_eq_true (show z.length ≤ 8 by omega), Bool.true_and, Bool.true_and, List.all_map]
          rfl
        have qq := q H2 (s'.trans s2)
        rw [w1] at qq
        exact qq
    · have w0 : nameD d = false := by
        cases d <;> first | rfl | exact absurd ⟨_, rfl⟩ hs
      have w1 : isD "str" d = false := by
        rw [isD_str]
        cases d <;> first | rfl | exact absurd ⟨_, rfl⟩ hs
      have t1 := t_not (t_isT (T := "str") (σ := [some x, none]) (i := 0) rfl hd)
      rw [w1] at t1
      refine s_ifB (b := true) (t_or (c := true) t1 fun z => (nomatch z)) (fun e H' s' => ?_) (fun e => nomatch e)
      have qq := q H' s'
      rw [w0] at qq
      exact qq

end
end Ev

/-! ## The law's count -/
namespace Ev
open PySem PySem.Spec PyProof.Rows L2
def tIsI (K : PySem.W.Frag) (T : String) (i : Nat) (k : Int) : TE := fun σ H Q => ∃ (a : Addr) (xs : List V) (v : V) (d : PyData), σ[i]? = some (some (.ref a)) ∧ SqT K H a xs ∧ atI xs k = some v ∧ Da K H v d ∧ Q (.bl (isD T d)) H
section
variable {X : Cx} {x y : Str} {i : Nat} {p1 p2 p3 p4 q1 q2 : Pos} {k : Int} {j}
theorem pe_isI {T : String} (hT : OkT T) (m : X.mg "isinstance" = none) (hv : ∀ pos, PE X (.Name y pos) (tVar i)) (hx : ∀ pos, PE X (.Name x pos) (tC (.ty T))) (hg : Gl X "isinstance" := by rfl) :
    PE X (.Call (.Name "isinstance" p1) [.Subscript (.Name y q1) (.Constant (.int k) j p3) p4, .Name x q2] [] p2) (tIsI X.K T i k) := by
  refine PE.imp (pe_callB call_isi hg m (by decide +kernel) (pa_cons (pe_ix ix_tup (hv q1) pe_int (fun _ _ => rfl)) (pa_cons (hx q2) pa_nil))) ?_
  rintro σ H Q ⟨a, xs, v, d, h0, h1, h2, h3, h4⟩
  exact ⟨_, h0, a, xs, k, v, rfl, rfl, h1, h2, v, .ty T, .type (tyD d), .type T, isD T d, rfl, .ty T, h3.ty, kit_ty (kit_D hT d), h4⟩
end
section
variable {K : PySem.W.Frag} {H0 : Hp} {σ : L2.St} {te tf : TE} {i : Nat} {x v : V} {d : PyData} {b c : Bool} {T : String} {tt uu : TT} {t rest : TS} {D : Ends} {a : Addr} {xs : List V} {k : Int} {G : GP}
theorem t_andB (h : GivesT H0 tt b σ) (k : b = true → GivesT H0 uu c σ) : GivesT H0 (tAnd tt uu) (b && c) σ := fun H Q s q =>
  h H _ s fun H1 s1 => by
    cases b with
    | true => exact iteT (k rfl H1 Q (s.trans s1) fun H2 s2 => q H2 (s1.trans s2))
    | false => exact iteF (q H1 s1)
theorem s_ifB1 (h : GivesT H0 tt b σ) (k1 : b = true → ∀ H', Same H0 H' → t D σ H') (k2 : b = false → ∀ H', Same H0 H' → D.nx σ H') : tIfS tt t tNext D σ H0 :=
  h H0 _ Same.rfl' fun H' s => by
    cases b with
    | true => exact iteT (k1 rfl H' s)
    | false => exact iteF (k2 rfl H' s)
theorem s_set1 (h : Gives H0 te G σ) (k : ∀ H' u, Same H0 H' → G.p H' u → D.nx (σ.set i (some u)) H') : tAsg te (gName i) D σ H0 :=
  h H0 _ Same.rfl' fun H' u s g => k H' u s g
theorem t_isI (h : σ[i]? = some (some (.ref a))) (hs : SqT K H0 a xs) (hx : atI xs k = some v) (hd : Da K H0 v d) : GivesT H0 (tB (tIsI K T i k)) (isD T d) σ := fun H Q s q => ⟨a, xs, v, d, h, seqT_mono s hs, hx, hd.mono s, _, rfl, q H Same.rfl'⟩
theorem t_eqI2 {r k : Int} (h : Gives H0 te (gEq (.int r)) σ) : GivesT H0 (tTest (tOp rEq te (tC (.int k)))) (decide (r = k)) σ := fun H Q s q =>
  h H _ s fun H1 u s1 e => by
    have e : u = .int r := e
    subst e
    refine ⟨rfl, _, rfl, ?_⟩
    have z : decide (V.int r = V.int k) = decide (r = k) := decide_eq_decide.mpr ⟨fun h => V.int.inj h, fun h => by rw [h]⟩
    rw [z]
    exact q H1 s1
abbrev rGtI : R2 := rI0 fun i j => .bl (decide (j < i))
theorem t_gtI {r k : Int} (h : σ[i]? = some (some (.int r))) : GivesT H0 (tTest (tOp rGtI (tVar i) (tC (.int k)))) (decide (k < r)) σ := fun H Q s q =>
  ⟨_, h, _, _, rfl, rfl, _, rfl, q H Same.rfl'⟩
theorem t_gtN {n : Nat} (h : σ[i]? = some (some (.int (n : Nat)))) : GivesT H0 (tTest (tOp rGtI (tVar i) (tC (.int 0)))) (decide (0 < n)) σ := by
  have t := t_gtI (H0 := H0) (k := 0) h
  have z : decide ((0 : Int) < (n : Nat)) = decide (0 < n) := by
    rw [decide_eq_decide]
    omega
  rw [z] at t
  exact t
theorem t_eqSI {y : Str} (h : σ[i]? = some (some (.ref a))) (hs : SqT K H0 a xs) (hx : atI xs k = some v) (hd : Da K H0 v d) : GivesT H0 (tTest (tOp (rEqS K) (tOp (rIxT K) (tVar i) (tC (.int k))) (tC (.str y)))) (isStrD y d) σ := fun H Q s q =>
  ⟨_, h, a, xs, k, v, rfl, rfl, seqT_mono s hs, hx, d, y, hd.mono s, rfl, _, rfl, q H Same.rfl'⟩
theorem g_nameI (h : σ[i]? = some (some (.ref a))) (hs : SqT K H0 a xs) (hx : atI xs k = some v) (hd : Da K H0 v d) (ho : okS d = true) : Gives H0 (tCall (spName K) [] E0 (tCons (tOp (rIxT K) (tVar i) (tC (.int k))) tNil)) (gEq (.bl (nameD d))) σ := fun H Q s q =>
  ⟨_, h, a, xs, k, v, rfl, rfl, seqT_mono s hs, hx, v, d, rfl, hd.mono s, ho, fun H' s' => q H' _ s' rfl⟩
theorem g_whI {m : Nat} {hi : Int} (h : σ[i]? = some (some (.ref a))) (hs : SqT K H0 a xs) (hx : atI xs k = some v) (hd : Da K H0 v d) (hm : CPow 10 (m : Nat)) (he : (10 : Int) ^ m = hi) :
    Gives H0 (tCall (spWh K) [] E0 (tCons (tOp (rIxT K) (tVar i) (tC (.int k))) (tCons (tOp (rI CPow fun i j => .int (i ^ j.toNat)) (tC (.int 10)) (tC (.int (m : Nat)))) tNil))) (gEq (.bl (intD 1 hi d))) σ := fun H Q s q =>
  ⟨_, h, a, xs, k, v, rfl, rfl, seqT_mono s hs, hx, _, _, rfl, rfl, hm, v, d, hi, by rw [← he]; rfl, hd.mono s, fun H' s' => q H' _ s' rfl⟩
/-- a tuple of three, a text first -/
def shD : PyData → Bool
  | .tuple [.str _, _, _] => true
  | _ => false
theorem t_shape (h : σ[i]? = some (some x)) (hd : Da K H0 x d) : GivesT H0 (tAnd (tB (tIsT K "tuple" i)) (tAnd (tTest (tOp rEq (tCB (rLenK K) (tCons (tVar i) tNil)) (tC (.int 3)))) (tB (tIsI K "str" i 0)))) (shD d) σ := by
  by_cases ht : ∃ ds, d = .tuple ds
  · obtain ⟨ds, rfl⟩ := ht
    obtain ⟨a, rfl⟩ : ∃ a, x = .ref a := by
      cases hd
      exact ⟨_, rfl⟩
    by_cases h3 : ds.length = 3
    · match ds, h3, hd with
      | [kd, ad, bd], _, hd =>
      have hd' := hd
      cases hd' with
      | @tup _ xs _ hs ha =>
      cases ha with
      | @cons v1 _ _ _ d1 ha =>
      cases ha with
      | @cons v2 _ _ _ d2 ha =>
      cases ha with
      | @cons v3 _ _ _ d3 ha =>
      cases ha
      have t1 : GivesT H0 _ (isD "tuple" (.tuple [kd, ad, bd]) && (decide ((([kd, ad, bd] : List PyData).length : Nat) = (3 : Int)) && isD "str" kd)) σ := t_andB (t_isT (K := K) (T := "tuple") h hd) fun _ => t_andB (t_eqI2 (k := 3) (g_lenT (K := K) h hd)) fun _ => t_isI (K := K) (T := "str") (k := 0) h hs rfl d1
      have z : (isD "tuple" (.tuple [kd, ad, bd]) && (decide ((([kd, ad, bd] : List PyData).length : Nat) = (3 : Int)) && isD "str" kd)) = shD (.tuple [kd, ad, bd]) := by
        rw [isD_tuple, isD_str]
        cases kd <;> rfl
      rw [z] at t1
      exact t1
    · have t1 : GivesT H0 _ (isD "tuple" (.tuple ds) && (decide ((ds.length : Nat) = (3 : Int)) && false)) σ := t_andB (uu := tAnd (tTest (tOp rEq (tCB (rLenK K) (tCons (tVar i) tNil)) (tC (.int 3)))) (tB (tIsI K "str" i 0))) (t_isT (K := K) (T := "tuple") h hd) fun _ => t_andB (t_eqI2 (k := 3) (g_lenT (K := K) h hd)) fun e => absurd (of_decide_eq_true e) (by omega)
      have z : (isD "tuple" (.tuple ds) && (decide ((ds.length : Nat) = (3 : Int)) && false)) = shD (.tuple ds) := by
        rw [Bool.and_false, Bool.and_false]
        unfold shD
        split
        · rename_i e
          cases e
          exact absurd rfl h3
        · rfl
      rw [z] at t1
      exact t1
  · have e0 : isD "tuple" d = false := by
      rw [isD_tuple]
      cases d <;> first | rfl | exact absurd ⟨_, rfl⟩ ht
    have t1 : GivesT H0 _ (isD "tuple" d && false) σ := t_andB (uu := tAnd (tTest (tOp rEq (tCB (rLenK K) (tCons (tVar i) tNil)) (tC (.int 3)))) (tB (tIsI K "str" i 0))) (t_isT (K := K) (T := "tuple") h hd) fun e => by
      rw [e0] at e
      cases e
    have z : (isD "tuple" d && false) = shD d := by
      rw [Bool.and_false]
      cases d <;> first | rfl | exact absurd ⟨_, rfl⟩ ht
    rw [z] at t1
    exact t1
end
def recC : Nat → PyData → Int
  | 0 => fun _ => -1
  | n + 1 => cntI n
theorem cntI_eq (dep : Nat) : cntI dep = cntW (recC dep) dep := by
  cases dep <;> rfl
def spCnt (K : PySem.W.Frag) (dep : Nat) : Sp := fun vs H Q _ => ∃ (x : V) (d : PyData), vs = [x, .int (dep : Nat)] ∧ Da K H x d ∧ okS d = true ∧ ∀ H', Same H H' → Q (.int (cntI dep d)) H'
theorem scCn : FnScope ["_law_items_here", "_law_deep", "_law_found", "_law_item", "_law_inner"] ["_law_items_here", "_law_deep"] (defScope (topS 23)) := ⟨rfl, rfl, rfl, by decide +kernel, rfl, by decide +kernel, by decide +kernel⟩
theorem cntF_at {g : PyData → Int} {ds : List PyData} {i : Nat} {d : PyData} {r : Int} (h : ds[i]? = some d) : cntF g (ds.drop i) r = if g d < 0 then -1 else cntF g (ds.drop (i + 1)) (r + 1 + g d) := by
  obtain ⟨hi, e⟩ := List.getElem?_eq_some_iff.mp h
  rw [List.drop_eq_getElem_cons hi, e]
  rfl
section
variable {P : Program} {w : World} {K : PySem.W.Frag} {mg : Str → Option Value} {base : Heap} {f fN fW fI : Addr} {fd fdN fdW fdI : FuncData}
theorem cn_step {k dep : Nat} {spR : Sp} (F : Fun K "_law_count" "_law_count" (topS 23) f fd) (GN : FnOk P w K mg base CX0 1 fN fdN ["_law_thing"] (spName K)) (bN : Binds K fdN ["_law_thing"] []) (gN : mg "_law_is_word" = some (.ref fN)) (kN : PySem.W.keepIn K (.ref fN) = true)
    (GW : FnOk P w K mg base CX0 1 fW fdW ["_law_thing", "_law_most"] (spWh K)) (bW : Binds K fdW ["_law_thing", "_law_most"] []) (gW : mg "_law_is_whole" = some (.ref fW)) (kW : PySem.W.keepIn K (.ref fW) = true)
    (GI : FnOk P w K mg base CX0 k f fd ["_law_items_here", "_law_deep"] spR) (bI : Binds K fd ["_law_items_here", "_law_deep"] []) (gI : mg "_law_count" = some (.ref f)) (kI : PySem.W.keepIn K (.ref f) = true)
    (hk : 1 ≤ k) (hR : dep = 0 ∨ ∃ d, dep = d + 1 ∧ spR = spCnt K d) (mI : mg "isinstance" = none) (mt : mg "tuple" = none) (ms : mg "str" = none) (ml : mg "len" = none) :
    FnOk P w K mg base CX0 (k + 1) f fd ["_law_items_here", "_law_deep"] (spCnt K dep) := by
  refine F.ok scCn (fun vs H Q E h => ?_) (fun cdv A outer s H vs Q E hr h => ?_)
  · obtain ⟨x, d, rfl, _⟩ := h
    rfl
  · obtain ⟨x, d, rfl, hd, ho, q⟩ := h
    have hr1 : Room 1 _ := hr.mono hk
    have hu : (A.deeper (envOfC "_law_count" (defScope (topS 23)) s.heap.objs.size f cdv)).units < cLine := hr.units0
    refine ⟨_, (pss_cons (ps_if (PW.pt (pw_or (pt_not (pt_val (pe_isT (.inr (.inr (.inl rfl))) mI (fun _ => pv 0) (fun _ => ty_of rfl mt (by decide +kernel))))) (pw_or1 (pt_not (pt_chain op_lt op_lt pe_int (pe_callB call_len_seq (by rfl) ml PySem.boot_len (pa_cons (pv 0) pa_nil)) pe_int))))) (pss_one (ps_ret (pe_un un_neg pe_int))) pss_nil) (pss_cons (ps_set (i := 2) scCn.nd rfl (.inl rfl) pe_int) (pss_cons (ps_for PassesOwn.never rfl (pi_tup (pv 0)) (pg_name (i := 3) scCn.nd rfl (.inl rfl)) (pss_cons (ps_set (i := 4) scCn.nd rfl (.inl rfl) (pe_un un_neg pe_int)) (pss_cons (ps_if (PW.pt (pw_and (pt_val (pe_isT (.inr (.inr (.inl rfl))) mI (fun _ => pv 3) (fun _ => ty_of rfl mt (by decide +kernel)))) (pw_and (pt_cmpR op_eq (pe_callB call_len_seq (by rfl) ml PySem.boot_len (pa_cons (pv 3) pa_nil)) pe_int (nomark _)) (pw_and1 (pt_val (pe_isI (.inr (.inr (.inr rfl))) mI (fun _ => pv 3) (fun _ => ty_of rfl ms (by decide +kernel)))))))) (pss_cons (ps_if (PW.pt (pw_and (pt_cmpR (op_eqS hu) (pe_ix ix_tup (pv 3) pe_int (fun _ _ => rfl)) pe_str (nomark _)) (pw_and (pt_val (pe_call GN hr1 (by rfl) gN kN bN .nil pass0 (pa_cons (pe_ix ix_tup (pv 3) pe_int (fun _ _ => rfl)) pa_nil))) (pw_and1 (pt_val (pe_call GW hr1 (by rfl) gW kW bW .nil pass0 (pa_cons (pe_ix ix_tup (pv 3) pe_int (fun _ _ => rfl)) (pa_cons (pe_op op_pow pe_int pe_int) pa_nil)))))))) (pss_one (ps_set (i := 4) scCn.nd rfl (.inl rfl) pe_int)) pss_nil) (pss_one (ps_if (PW.pt (pw_and (pt_cmpR (op_eqS hu) (pe_ix ix_tup (pv 3) pe_int (fun _ _ => rfl)) pe_str (nomark _)) (pw_and (pt_cmpR op_gt (pv 1) pe_int (nomark _)) (pw_and1 (pt_val (pe_call GW hr1 (by rfl) gW kW bW .nil pass0 (pa_cons (pe_ix ix_tup (pv 3) pe_int (fun _ _ => rfl)) (pa_cons (pe_op op_pow pe_int pe_int) pa_nil)))))))) (pss_one (ps_set (i := 4) scCn.nd rfl (.inl rfl) (pe_call GI hr (by rfl) gI kI bI .nil pass0 (pa_cons (pe_ix ix_tup (pv 3) pe_int (fun _ _ => rfl)) (pa_cons (pe_op op_sub (pv 1) pe_int) pa_nil))))) pss_nil))) pss_nil) (pss_cons (ps_if (pt_cmpR op_lt (pv 4) pe_int (nomark _)) (pss_one (ps_ret (pe_un un_neg pe_int))) pss_nil) (pss_one (ps_set (i := 2) scCn.nd rfl (.inl rfl) (pe_op op_add (pe_op op_add (pv 2) pe_int) (pv 4)))))))) (pss_one (ps_ret (pv 2)))))), ?_⟩
    rw [cntI_eq] at q
    by_cases ht : ∃ ds, d = .tuple ds
    · obtain ⟨ds, rfl⟩ := ht
      obtain ⟨a, rfl⟩ : ∃ a, x = .ref a := by
        cases hd
        exact ⟨_, rfl⟩
      have e1 : isD "tuple" (.tuple ds) = true := isD_tuple _
      have el : (decide ((0 : Int) < (ds.length : Nat)) && decide (((ds.length : Nat) : Int) < 21)) = (decide (0 < ds.length) && decide (ds.length < 21)) := by
        congr 1
        · rw [decide_eq_decide]
          omega
        · rw [decide_eq_decide]
          omega
      have w0 : cntW (recC dep) dep (.tuple ds) = if (decide (0 < ds.length) && decide (ds.length < 21)) = true then cntF (innerC (recC dep) dep) ds 0 else -1 := rfl
      rw [w0] at q
      refine s_ifB (t_or (t_not (t_isT rfl hd)) fun _ => t_not (t_chainL (g_lenT rfl hd))) (fun e H' s' => ?_) (fun e H' s' => ?_)
      · rw [e1, Bool.not_true, Bool.false_or, Bool.not_eq_true', el] at e
        rw [e, if_neg Bool.false_ne_true] at q
        exact ⟨_, rfl, q H' s'⟩
      · rw [e1, Bool.not_true, Bool.false_or, Bool.not_eq_false', el] at e
        rw [if_pos e] at q
        have hd' := hd.mono s'
        cases hd' with
        | @tup _ xs _ hs ha =>
        refine ⟨_, rfl, a, rfl, ⟨_, hs⟩, for_tup (K := K) (a := a) (xs := xs) (fun i σ' H'' => ∃ (r : Int) (y3 y4 : Option V), σ' = [some (.ref a), some (.int (dep : Nat)), some (.int r), y3, y4] ∧
          cntF (innerC (recC dep) dep) ds 0 = cntF (innerC (recC dep) dep) (ds.drop i) r ∧ Same H' H'') ⟨0, none, none, rfl, rfl, Same.rfl'⟩ (fun i σ' H'' _ ⟨_, _, _, _, _, sA⟩ => seqT_mono sA hs) ?_ ?_⟩
        · rintro i y σ' HA hi ⟨r, y3, y4, rfl, qf, sA⟩
          obtain ⟨di, hdi, hDi0⟩ := daAll_get ha hi
          have hDi := hDi0.mono sA
          have hoi : okS di = true := okSs_mem (by rw [okS] at ho; exact ho) di (List.mem_of_getElem? hdi)
          have st := cntF_at (g := innerC (recC dep) dep) (r := r) hdi
          refine ⟨_, rfl, ?_⟩
          refine s_ifB (t_shape (K := K) (x := y) (d := di) rfl hDi) (fun e5 HB sB => ?_) (fun e5 HB sB => ?_)
          · obtain ⟨x, ad, bd, rfl⟩ : ∃ x ad bd, di = .tuple [.str x, ad, bd] := by
              unfold shD at e5
              split at e5
              · exact ⟨_, _, _, rfl⟩
              · cases e5
            have hDb := hDi.mono sB
            obtain ⟨p, rfl⟩ : ∃ p, y = .ref p := by
              cases hDb
              exact ⟨_, rfl⟩
            cases hDb with
            | @tup _ zs _ hz hza =>
            cases hza with
            | @cons v1 _ _ _ d1 hza =>
            cases hza with
            | @cons v2 _ _ _ d2 hza =>
            cases hza with
            | @cons v3 _ _ _ d3 hza =>
            cases hza
            have o2 : okS ad = true := okSs_mem (ds := [.str x, ad, bd]) (by rw [okS] at hoi; exact hoi) ad (by simp)
            have o3 : okS bd = true := okSs_mem (ds := [.str x, ad, bd]) (by rw [okS] at hoi; exact hoi) bd (by simp)
            have ei : innerC (recC dep) dep (.tuple [.str x, ad, bd]) = (if (x == "line" && (nameD ad && intD 1 1000000000000 bd)) = true then 0
              else if (x == "loop" && (decide (0 < dep) && intD 1 1000000000000000000 ad)) = true then recC dep bd else -1) := rfl
            refine s_ifB (b := (x == "line") && (nameD ad && intD 1 1000000000000 bd)) (t_andB (t_eqSI (K := K) (a := p) (xs := [v1, v2, v3]) (v := v1) (d := .str x) rfl hz rfl d1) fun _ => t_andB (t_valB (g_nameI (K := K) (a := p) (xs := [v1, v2, v3]) (v := v2) (d := ad) rfl hz rfl d2 o2)) fun _ => t_valB (g_whI (K := K) (m := 12) (a := p) (xs := [v1, v2, v3]) (v := v3) (d := bd) rfl hz rfl d3 ⟨by decide, by decide, by decide⟩ (by decide))) (fun e6 HC sC => ?_) (fun e6 HC sC => ?_)
            · have hx : x = "line" := by
                rw [Bool.and_eq_true] at e6
                exact beq_iff_eq.mp e6.1
              have hlo : (x == "loop") = false := by
                rw [hx]
                decide
              rw [if_pos e6] at ei
              have hz' := seqT_mono sC hz
              have t2 := t_eqSI (K := K) (H0 := HC) (σ := [some (.ref a), some (.int (dep : Nat)), some (.int r), some (.ref p), some (.int 0)]) (i := 3) (k := 0) (y := "loop") (a := p) (xs := [v1, v2, v3]) (v := v1) (d := .str x) rfl hz' rfl (d1.mono sC)
              rw [show isStrD "loop" (.str x) = false from hlo] at t2
              refine s_ifB1 (b := false && false) (t_andB t2 fun z => nomatch z) (fun e => nomatch e) (fun _ HD sD => ?_)
              have qs := st
              rw [ei] at qs
              by_cases hneg : (0 : Int) < 0
              · rw [if_pos hneg] at qs
                refine ⟨_, rfl, _, _, rfl, rfl, _, rfl, ?_⟩
                rw [decide_eq_true hneg]
                refine iteT ⟨_, rfl, ?_⟩
                have qq := q HD ((s'.trans sA).trans ((sB.trans sC).trans sD))
                rw [qf, qs] at qq
                exact qq
              · rw [if_neg hneg] at qs
                refine ⟨_, rfl, _, _, rfl, rfl, _, rfl, ?_⟩
                rw [decide_eq_false hneg]
                refine iteF ?_
                refine ⟨_, rfl, _, _, rfl, rfl, _, rfl, _, _, rfl, rfl, ?_⟩
                exact ⟨_, _, _, rfl, qf.trans qs, sA.trans ((sB.trans sC).trans sD)⟩
            · rw [e6, if_neg Bool.false_ne_true] at ei
              have hz' := seqT_mono sC hz
              refine s_ifB1 (b := (x == "loop") && (decide (0 < dep) && intD 1 1000000000000000000 ad)) (t_andB (t_eqSI (K := K) (a := p) (xs := [v1, v2, v3]) (v := v1) (d := .str x) rfl hz' rfl (d1.mono sC)) fun _ => t_andB (t_gtN (n := dep) rfl) fun _ => t_valB (g_whI (K := K) (m := 18) (a := p) (xs := [v1, v2, v3]) (v := v2) (d := ad) rfl hz' rfl (d2.mono sC) ⟨by decide, by decide, by decide⟩ (by decide))) (fun e7 HD sD => ?_) (fun e7 HD sD => ?_)
              · rw [if_pos e7] at ei
                have hdep : dep ≠ 0 := fun z => by
                  rw [z] at e7
                  simp at e7
                obtain ⟨dd, rfl, rfl⟩ : ∃ dd, dep = dd + 1 ∧ spR = spCnt K dd := by
                  rcases hR with h | h
                  · exact absurd h hdep
                  · exact h
                refine ⟨_, rfl, p, [v1, v2, v3], 2, v3, rfl, rfl, seqT_mono sD hz', rfl, _, rfl, _, _, rfl, rfl, v3, bd, ?_, d3.mono (sC.trans sD), o3, fun HE sE => ?_⟩
                · show [v3, V.int (((dd + 1 : Nat) : Int) - 1)] = [v3, V.int (dd : Nat)]
                  have z : (((dd + 1 : Nat) : Int) - 1) = (dd : Nat) := by omega
                  rw [z]
                · have ei : innerC (recC (dd + 1)) (dd + 1) (.tuple [.str x, ad, bd]) = cntI dd bd := ei
                  have qs := st
                  rw [ei] at qs
                  by_cases hneg : (cntI dd bd : Int) < 0
                  · rw [if_pos hneg] at qs
                    refine ⟨_, rfl, _, _, rfl, rfl, _, rfl, ?_⟩
                    rw [decide_eq_true hneg]
                    refine iteT ⟨_, rfl, ?_⟩
                    have qq := q HE ((s'.trans sA).trans (((sB.trans sC).trans sD).trans sE))
                    rw [qf, qs] at qq
                    exact qq
                  · rw [if_neg hneg] at qs
                    refine ⟨_, rfl, _, _, rfl, rfl, _, rfl, ?_⟩
                    rw [decide_eq_false hneg]
                    refine iteF ?_
                    refine ⟨_, rfl, _, _, rfl, rfl, _, rfl, _, _, rfl, rfl, ?_⟩
                    exact ⟨_, _, _, rfl, qf.trans qs, sA.trans (((sB.trans sC).trans sD).trans sE)⟩
              · rw [e7, if_neg Bool.false_ne_true] at ei
                have qs := st
                rw [ei] at qs
                by_cases hneg : (-1 : Int) < 0
                · rw [if_pos hneg] at qs
                  refine ⟨_, rfl, _, _, rfl, rfl, _, rfl, ?_⟩
                  rw [decide_eq_true hneg]
                  refine iteT ⟨_, rfl, ?_⟩
                  have qq := q HD ((s'.trans sA).trans ((sB.trans sC).trans sD))
                  rw [qf, qs] at qq
                  exact qq
                · rw [if_neg hneg] at qs
                  refine ⟨_, rfl, _, _, rfl, rfl, _, rfl, ?_⟩
                  rw [decide_eq_false hneg]
                  refine iteF ?_
                  refine ⟨_, rfl, _, _, rfl, rfl, _, rfl, _, _, rfl, rfl, ?_⟩
                  exact ⟨_, _, _, rfl, qf.trans qs, sA.trans ((sB.trans sC).trans sD)⟩
          · have ei : innerC (recC dep) dep di = -1 := by
              unfold shD at e5
              unfold innerC
              split at e5
              · cases e5
              · rename_i hno
                first
                  | rfl
                  | (split
                     · exact absurd rfl (hno _ _ _)
                     · rfl)
            have qs := st
            rw [ei] at qs
            by_cases hneg : (-1 : Int) < 0
            · rw [if_pos hneg] at qs
              refine ⟨_, rfl, _, _, rfl, rfl, _, rfl, ?_⟩
              rw [decide_eq_true hneg]
              refine iteT ⟨_, rfl, ?_⟩
              have qq := q HB ((s'.trans sA).trans sB)
              rw [qf, qs] at qq
              exact qq
            · rw [if_neg hneg] at qs
              refine ⟨_, rfl, _, _, rfl, rfl, _, rfl, ?_⟩
              rw [decide_eq_false hneg]
              refine iteF ?_
              refine ⟨_, rfl, _, _, rfl, rfl, _, rfl, _, _, rfl, rfl, ?_⟩
              exact ⟨_, _, _, rfl, qf.trans qs, sA.trans sB⟩
        · rintro σ' HA ⟨r, y3, y4, rfl, qf, sA⟩
          have hl := daAll_len ha
          rw [hl, List.drop_length] at qf
          have qq := q HA (s'.trans sA)
          rw [qf] at qq
          exact ⟨_, rfl, qq⟩
    · have w0 : cntW (recC dep) dep d = -1 := by
        unfold cntW
        cases d <;> first | rfl | exact absurd ⟨_, rfl⟩ ht
      have w1 : isD "tuple" d = false := by
        rw [isD_tuple]
        cases d <;> first | rfl | exact absurd ⟨_, rfl⟩ ht
      have t1 := t_not (t_isT (T := "tuple") (σ := [some x, some (.int (dep : Nat)), none, none, none]) (i := 0) rfl hd)
      rw [w1] at t1
      refine s_ifB (b := true || true) (t_or (c := true) t1 fun z => (nomatch z)) (fun e H' s' => ?_) (fun e => nomatch e)
      have qq := q H' s'
      rw [w0] at qq
      exact ⟨_, rfl, qq⟩
theorem ok_cn (F : Fun K "_law_count" "_law_count" (topS 23) f fd) (GN : FnOk P w K mg base CX0 1 fN fdN ["_law_thing"] (spName K)) (bN : Binds K fdN ["_law_thing"] []) (gN : mg "_law_is_word" = some (.ref fN)) (kN : PySem.W.keepIn K (.ref fN) = true)
    (GW : FnOk P w K mg base CX0 1 fW fdW ["_law_thing", "_law_most"] (spWh K)) (bW : Binds K fdW ["_law_thing", "_law_most"] []) (gW : mg "_law_is_whole" = some (.ref fW)) (kW : PySem.W.keepIn K (.ref fW) = true)
    (bI : Binds K fd ["_law_items_here", "_law_deep"] []) (gI : mg "_law_count" = some (.ref f)) (mI : mg "isinstance" = none) (mt : mg "tuple" = none) (ms : mg "str" = none) (ml : mg "len" = none) :
    ∀ dep : Nat, FnOk P w K mg base CX0 (dep + 2) f fd ["_law_items_here", "_law_deep"] (spCnt K dep)
  | 0 => cn_step (k := 1) F GN bN gN kN GW bW gW kW no_fn bI gI F.kp (Nat.le_refl 1) (.inl rfl) mI mt ms ml
  | n + 1 => cn_step (k := n + 2) F GN bN gN kN GW bW gW kW (ok_cn F GN bN gN kN GW bW gW kW bI gI mI mt ms ml n) bI gI F.kp (by omega) (.inr ⟨n, rfl, rfl⟩) mI mt ms ml
end
end Ev

/-! ## repr of all data, a call by keyword, the law's question -/
namespace Ev
open PySem PySem.Spec PyProof.Rows L2
def rReprA (K : PySem.W.Frag) : List V → Hp → VK → Prop := fun xs H Q =>
  ∃ (x : V) (d : PyData), xs = [x] ∧ Da K H x d ∧ d.showable = true ∧ d.depth ≤ 64 ∧ d.shown.length ≤ sizeLine ∧ Q (.str d.shown) H
theorem call_reprA {X : Cx} (hm : ∃ mm, X.base.Ns sysModules mm) (gd : X.A.guards = some []) (hu : X.A.units + 70 < cLine) :
    CallR X (.builtin "repr") (rReprA X.K) := by
  intro pins s σ H xs us Q I r h
  obtain ⟨x, d, rfl, hs, sh, dp, sz, q⟩ := h
  have big : ∀ a, x = .ref a → wpAny (model X.prog X.w) X.A (call (.builtin "repr") us) (EP X pins σ Q) X.xe s := by
    rintro a rfl
    exact call_repr hm gd hu pins s σ H _ us Q I r ⟨a, d, rfl, hs, sh, dp, sz, q⟩
  cases hs with
  | non =>
    cases r with
    | cons r1 r2 =>
      cases r2
      cases r1
      rw [PyData.shown] at q
      exact PySem.P.repr_of_none ⟨.str _, H, I.tok _, ⟨_, rfl⟩, q⟩
  | bl b =>
    cases r with
    | cons r1 r2 =>
      cases r2
      cases r1
      rw [PyData.shown] at q
      exact PySem.P.repr_of_bool ⟨.str _, H, I.tok _, ⟨_, rfl⟩, q⟩
  | int i =>
    cases r with
    | cons r1 r2 =>
      cases r2
      obtain ⟨t, rfl⟩ := r1
      rw [PyData.shown] at q
      exact PySem.P.repr_of_int (by rw [PyData.showable] at sh; exact of_decide_eq_true sh) ⟨.str _, H, I.tok _, ⟨_, rfl⟩, q⟩
  | str z =>
    cases r with
    | cons r1 r2 =>
      cases r2
      obtain ⟨t, rfl⟩ := r1
      rw [PyData.shown] at q sz
      exact PySem.P.repr_of_str ⟨.str _, H, I.tok _, ⟨_, rfl⟩, q⟩ sz
  | lst h1 h2 => exact big _ rfl
  | tup h1 h2 => exact big _ rfl
  | dic h1 h2 => exact big _ rfl
/-! ### f(k = v) -/
def tCallK1 (sp : Sp) (E : XK) (tk : TA) : TE := fun σ H Q => tk σ H fun zs H2 => sp zs H2 Q E
section
variable {X : Cx} {CX : CXT} {k : Nat} {f : Addr} {fd : FuncData} {y : Str} {sp : Sp} {E : XK} {x : Str} {p pos : Pos} {kws : List Keyword} {tk : TA}
theorem pe_callK1 (F : FnOk X.prog X.w X.K X.mg X.base CX k f fd [y] sp) (hr : Room k X.A) (hg : Gl X x) (hm : X.mg x = some (.ref f)) (hk : PySem.W.keepIn X.K (.ref f) = true) (hb : ∀ (s : Shared) (u : Value), BindsTo s fd ⟨[], [(y, u)]⟩ [(y, u)]) (hx : Passes CX X E)
    (hkw : PK X kws tk) (hall : (backToKw pos (keywordEach kws X.env)).all (·.1.isSome) = true := by rfl) (hks : (backToKw pos (keywordEach kws X.env)).filterMap (·.1) = [y] := by rfl)
    (hdb : (x == ("__debug__" : Str)) = false := by decide) (hpl : ((backTo pos (starEach [] X.env)).any (·.1) || (backToKw pos (keywordEach kws X.env)).any (·.1.isNone)) = false := by rfl) :
    PE X (.Call (.Name x p) [] kws pos) (tCallK1 sp E tk) := by
  refine ⟨fun pins s σ H Q I h => ?_⟩
  refine wpAny_Call_Name_kw (ld_glob I hg hm ?_ hdb)
  refine PySem.W.callWith_KW0 (h₀ := X.base) I.ok.mod.kin hk hall ?_ hpl
  refine thn (hkw.run pos pins s σ H _ I h) fun ws s2 ⟨zs, H2, I2, rz, q2⟩ => ⟨I2.kIn, ?_⟩
  rw [hks]
  have hl := F.len _ _ _ _ q2
  obtain ⟨z, rfl⟩ : ∃ z, zs = [z] := List.length_eq_one_iff.mp hl
  obtain ⟨u, rfl⟩ : ∃ u, ws = [u] := List.length_eq_one_iff.mp (rz.length.symm.trans hl)
  refine wpAny_call (codeAny_mono (F.run X.A X.stack s2 H2 ⟨[], [(y, u)]⟩ [u] [z] Q E hr I2.env0 (hb s2 u) rz q2) fun r s' hq => ?_)
  cases r with
  | error e => exact hx pins σ H2 s2 e s' I2 hq
  | ok fl =>
    cases fl with
    | ret u => exact I2.after hq
    | next => exact False.elim hq
    | brk => exact False.elim hq
    | cont => exact False.elim hq
end
/-! ### the question -/
section
variable {K : PySem.W.Frag} {H0 : Hp} {σ : L2.St} {te tf : TE} {i : Nat} {x v : V} {d : PyData} {b c : Bool}
theorem g_reprA (h : σ[i]? = some (some x)) (hd : Da K H0 x d) (h1 : d.showable = true) (h2 : d.depth ≤ 64) (h3 : d.shown.length ≤ sizeLine) : Gives H0 (tCB (rReprA K) (tCons (tVar i) tNil)) (gEq (.str d.shown)) σ := fun H Q s q =>
  ⟨_, h, x, d, rfl, hd.mono s, h1, h2, h3, q H _ Same.rfl' rfl⟩
theorem g_chainLV {a k m : Int} (h1 : Gives H0 te (gEq (.int k)) σ) : Gives H0 (tChain rLtI rLtI (tC (.int a)) te (tC (.int m))) (gEq (.bl (decide (a < k) && decide (k < m)))) σ := fun H Q s q =>
  h1 H _ s fun H1 u s1 e => by
    have e : u = .int k := e
    subst e
    refine ⟨_, _, rfl, rfl, _, rfl, ite2 (fun z => ?_) (fun z => ?_)⟩
    · refine ⟨_, _, rfl, rfl, q H1 _ s1 ?_⟩
      show _ = _
      rw [z, Bool.true_and]
    · refine q H1 _ s1 ?_
      show _ = _
      rw [Bool.eq_false_iff.mpr z, Bool.false_and]
theorem g_cnt (h : σ[i]? = some (some x)) (hd : Da K H0 x d) (ho : okS d = true) : Gives H0 (tCall (spCnt K 5) [] E0 (tCons (tVar i) (tCons (tC (.int 5)) tNil))) (gEq (.int (cntI 5 d))) σ := fun H Q s q =>
  ⟨_, h, x, d, rfl, hd.mono s, ho, fun H' s' => q H' _ s' rfl⟩
theorem g_prog (h : σ[i]? = some (some x)) (hd : Da K H0 x d) (ho : okS d = true) : Gives H0 (tCall (spProg K) [] E0 (tCons (tVar i) tNil)) (gEq (.bl (itemsR 5 d 60).isSome)) σ := fun H Q s q =>
  ⟨_, h, x, d, rfl, hd.mono s, ho, fun H' s' => q H' _ s' rfl⟩
theorem g_progK (h : σ[i]? = some (some x)) (hd : Da K H0 x d) (ho : okS d = true) : Gives H0 (tCallK1 (spProg K) E0 (tCons (tVar i) tNil)) (gEq (.bl (itemsR 5 d 60).isSome)) σ := fun H Q s q =>
  ⟨_, h, x, d, rfl, hd.mono s, ho, fun H' s' => q H' _ s' rfl⟩
theorem g_eqS {y z : Str} (h : Gives H0 te (gEq (.str y)) σ) (h' : Gives H0 tf (gEq (.str z)) σ) : Gives H0 (tOp rEq te tf) (gEq (.bl (decide (y = z)))) σ := fun H Q s q =>
  h H _ s fun H1 u s1 e1 => h' H1 _ (s.trans s1) fun H2 u' s2 e2 => by
    have e1 : u = .str y := e1
    have e2 : u' = .str z := e2
    subst e1
    subst e2
    refine ⟨rfl, q H2 _ (s1.trans s2) ?_⟩
    show _ = _
    congr 1
    exact decide_eq_decide.mpr ⟨fun h => V.str.inj h, fun h => by rw [h]⟩
def two (b c : Bool) : PyData := .list [.bool b, .bool c]
theorem two_ok (b c : Bool) : (two b c).showable = true ∧ (two b c).depth ≤ 64 ∧ (two b c).shown.length ≤ sizeLine := by
  refine ⟨?_, ?_, ?_⟩
  · simp only [two, PyData.showable, PyData.showableAll, Bool.and_true]
  · simp [two, PyData.depth, PyData.depthAll]
  · have y := sizeLine_eq
    have z : (two b c).shown.length ≤ 1000 := by
      simp only [two, PyData.shown, PyData.shownAll]
      cases b <;> cases c <;> decide +kernel
    omega
theorem g_two (h : Gives H0 te (gEq (.bl b)) σ) (h' : Gives H0 tf (gEq (.bl c)) σ) : Gives H0 (tCB (rRepr K) (tCons (tLst (tCons te (tCons tf tNil))) tNil)) (gEq (.str (two b c).shown)) σ := by
  refine g_repr (g_lst (g_cons h (g_cons h' g_nil))) ?_ (two_ok b c).1 (two_ok b c).2.1 (two_ok b c).2.2
  rintro H u s ⟨p, us, rfl, hp, ha⟩
  refine ⟨p, rfl, ?_⟩
  cases ha with
  | cons h1 ha =>
  cases ha with
  | cons h2 ha =>
  cases ha
  have h1 : _ = _ := h1
  have h2 : _ = _ := h2
  rw [h1, h2] at hp
  exact .lst (.inl (.inl hp)) (.cons (.bl b) (.cons (.bl c) .nil))
end
end Ev

/-! ## The law's question -/
namespace Ev
open PySem PySem.Spec PyProof.Rows L2
theorem s_par {H0 : Hp} {σ : L2.St} {ta : TA} {G1 G2 : GP} {i j : Nat} {D : Ends} {rest : TS} (h : GivesL H0 ta [G1, G2] σ) (k : ∀ H' u1 u2, Same H0 H' → G1.p H' u1 → G2.p H' u2 → rest D ((σ.set i (some u1)).set j (some u2)) H') : tSeq (tPar i j ta) rest D σ H0 :=
  h H0 _ Same.rfl' fun H' us s g => by
    cases g with
    | @cons _ u1 _ _ g1 g =>
    cases g with
    | @cons _ u2 _ _ g2 g =>
    cases g
    exact ⟨u1, u2, rfl, k H' u1 u2 s g1 g2⟩
/-- what may be asked about -/
def okD (d : PyData) : Prop := okS d = true ∧ d.showable = true ∧ d.depth ≤ 64 ∧ d.shown.length ≤ sizeLine
def spRight (K : PySem.W.Frag) : Sp := fun vs H Q _ => ∃ (x : V) (d : PyData), vs = [x] ∧ Da K H x d ∧ okD d ∧ ∀ H', Same H H' → Q (.bl true) H'
theorem scRt : FnScope ["_law_thing", "_law_held", "_law_due"] ["_law_thing"] (defScope (topS 26)) := ⟨rfl, rfl, rfl, by decide +kernel, rfl, by decide +kernel, by decide +kernel⟩
section
variable {P : Program} {w : World} {K : PySem.W.Frag} {mg : Str → Option Value} {base : Heap} {f fC fP : Addr} {fd fdC fdP : FuncData}
theorem ok_rt (hm : ∃ mm, base.Ns sysModules mm) (F : Fun K "_law_right" "_law_right" (topS 26) f fd) (GC : FnOk P w K mg base CX0 7 fC fdC ["_law_items_here", "_law_deep"] (spCnt K 5)) (bC : Binds K fdC ["_law_items_here", "_law_deep"] []) (gC : mg "_law_count" = some (.ref fC)) (kC : PySem.W.keepIn K (.ref fC) = true)
    (GP : FnOk P w K mg base CX0 15 fP fdP ["value"] (spProg K)) (bP : Binds K fdP ["value"] []) (kbP : ∀ (s : Shared) (u : Value), BindsTo s fdP ⟨[], [("value", u)]⟩ [("value", u)]) (gP : mg "is_program" = some (.ref fP)) (kP : PySem.W.keepIn K (.ref fP) = true) (mP : mg "repr" = none) :
    FnG P w K mg base CX0 16 f fd ["_law_thing"] (spRight K) := by
  refine okG F scRt (fun vs H Q E h => ?_) (fun cdv A outer s H vs Q E hr gd h => ?_)
  · obtain ⟨x, d, rfl, _⟩ := h
    rfl
  · obtain ⟨x, d, rfl, hd, ⟨ho, o1, o2, o3⟩, q⟩ := h
    have hr7 : Room 7 (A.deeper (envOfC "_law_right" (defScope (topS 26)) s.heap.objs.size f cdv)) := hr.mono (by omega)
    have hu : (A.deeper (envOfC "_law_right" (defScope (topS 26)) s.heap.objs.size f cdv)).units + 70 < cLine := by
      have := hr.un
      omega
    refine ⟨_, pss_cons (ps_par (i := 1) (j := 2) rfl scRt.nd rfl rfl (by decide) rfl rfl (pa_cons (pe_callB (call_reprA hm gd hu) (by rfl) mP (by decide +kernel) (pa_cons (pv 0) pa_nil)) (pa_cons (pe_chain op_lt op_lt pe_int (pe_call GC hr7 (by rfl) gC kC bC .nil pass0 (pa_cons (pv 0) (pa_cons pe_int pa_nil))) pe_int) pa_nil)) (by rfl))
      (pss_one (ps_ret (pe_and (pe_cmpR op_eq (pe_callB (call_repr hm gd hu) (by rfl) mP (by decide +kernel) (pa_cons (pe_lst (pa_cons (pe_call GP hr (by rfl) gP kP bP .nil pass0 (pa_cons (pv 0) pa_nil)) (pa_cons (pe_callK1 GP hr (by rfl) gP kP kbP pass0 (pk_cons (pv 0) pk_nil)) pa_nil))) pa_nil))
          (pe_callB (call_repr hm gd hu) (by rfl) mP (by decide +kernel) (pa_cons (pe_lst (pa_cons (pv 2) (pa_cons (pv 2) pa_nil))) pa_nil)) (nomark _))
        (pe_one (pe_cmpR op_eq (pe_callB (call_reprA hm gd hu) (by rfl) mP (by decide +kernel) (pa_cons (pv 0) pa_nil)) (pv 1) (nomark _)))))), ?_⟩
    have hdue := same_answer d
    have a1 : GivesL H (tCons (tCB (rReprA K) (tCons (tVar 0) tNil)) (tCons (tChain rLtI rLtI (tC (.int 0)) (tCall (spCnt K 5) [] E0 (tCons (tVar 0) (tCons (tC (.int 5)) tNil))) (tC (.int 61))) tNil)) [gEq (.str d.shown), gEq (.bl (decide (0 < cntI 5 d) && decide (cntI 5 d < 61)))] [some x, none, none] :=
      g_cons (g_reprA rfl hd o1 o2 o3) (g_cons (g_chainLV (g_cnt rfl hd ho)) g_nil)
    refine s_par a1 fun H1 u1 u2 s1 e1 e2 => ?_
    have e1 : u1 = V.str d.shown := e1
    have e2 : u2 = V.bl (decide (0 < cntI 5 d) && decide (cntI 5 d < 61)) := e2
    subst e1
    subst e2
    rw [← hdue]
    have s2 : Same H H1 := s1
    have hd2 := hd.mono s2
    have key := g_and (g_eqS (g_two (K := K) (σ := [some x, some (.str d.shown), some (.bl (itemsR 5 d 60).isSome)]) (g_prog (K := K) (i := 0) rfl hd2 ho) (g_progK (K := K) (i := 0) rfl hd2 ho)) (g_two (K := K) (g_eq (i := 2) rfl) (g_eq (i := 2) rfl))) fun _ => g_eqS (g_reprA (K := K) (i := 0) rfl hd2 o1 o2 o3) (g_eq (i := 1) rfl)
    refine s_ret key fun H3 u s3 g3 => ?_
    have g3 : u = _ := g3
    subst g3
    have z : (decide ((two (itemsR 5 d 60).isSome (itemsR 5 d 60).isSome).shown = (two (itemsR 5 d 60).isSome (itemsR 5 d 60).isSome).shown) && decide (d.shown = d.shown)) = true := by
      rw [decide_eq_true rfl, decide_eq_true rfl]
      rfl
    rw [z]
    exact q H3 (s2.trans s3)
end
end Ev

/-! ## Data that are made of new objects alone -/
namespace Ev
open PySem PySem.Spec PyProof.Rows L2
theorem newer_same {B H H' : Hp} (s : Same H H') : Same (newer B H) (newer B H') := newer_le (fun _ z => z) fun b o _ e => s b o e
theorem newer_in {B H : Hp} : Same (newer B H) H := newer_sub fun _ _ _ e => e
theorem same_none {B H : Hp} (s : Same B H) {b : Addr} (h : H b = none) : B b = none := by
  cases e : B b with
  | none => rfl
  | some o =>
    rw [s _ _ e] at h
    cases h
/-- what B tracks, H tracks -/
def Dm (B H : Hp) : Prop := ∀ b, H b = none → B b = none
theorem Dm.rfl' {B : Hp} : Dm B B := fun _ e => e
theorem Dm.go {B H H' : Hp} (h : Dm B H) (s : Same H H') : Dm B H' := fun b e => h b (same_none s e)
/-- data of objects that B does not track -/
def gNw (K : PySem.W.Frag) (B : Hp) (d : PyData) : GP := ⟨fun H u => Da K (newer B H) u d, fun s h => h.mono (newer_same s)⟩
section
variable {K : PySem.W.Frag} {B H0 : Hp} {σ : L2.St} {te tf : TE} {ta : TA} {d : PyData} {ds es : List PyData} {i : Nat} {v : V}
theorem allNw {H : Hp} : ∀ {ds : List PyData} {us : List V}, AllG (ds.map (gNw K B)) H us → DaAll K (newer B H) us ds
  | [], _, .nil => .nil
  | _ :: _, _, .cons h t => .cons h (allNw t)
theorem n_non : Gives H0 (tC .non) (gNw K B .none) σ := g_c fun _ => Da.non
theorem n_bl {b : Bool} : Gives H0 (tC (.bl b)) (gNw K B (.bool b)) σ := g_c fun _ => Da.bl b
theorem n_int {i : Int} : Gives H0 (tC (.int i)) (gNw K B (.int i)) σ := g_c fun _ => Da.int i
theorem n_str {x : Str} : Gives H0 (tC (.str x)) (gNw K B (.str x)) σ := g_c fun _ => Da.str x
theorem n_neg {i : Int} : Gives H0 (tUn (rU fun i => .int (-i)) (tC (.int i))) (gNw K B (.int (-i))) σ := fun H Q _ q => ⟨i, rfl, q H _ Same.rfl' (.int _)⟩
theorem n_pow {i j : Int} (h : CPow i j) : Gives H0 (tOp (rI CPow fun i j => .int (i ^ j.toNat)) (tC (.int i)) (tC (.int j))) (gNw K B (.int (i ^ j.toNat))) σ :=
  fun H Q _ q => ⟨i, j, rfl, rfl, h, q H _ Same.rfl' (.int _)⟩
theorem n_powAdd {i j k : Int} (h : CPow i j) : Gives H0 (tOp (rI0 fun i j => .int (i + j)) (tOp (rI CPow fun i j => .int (i ^ j.toNat)) (tC (.int i)) (tC (.int j))) (tC (.int k))) (gNw K B (.int (i ^ j.toNat + k))) σ :=
  fun H Q _ q => ⟨i, j, rfl, rfl, h, _, _, rfl, rfl, q H _ Same.rfl' (.int _)⟩
theorem n_tup (hB : Dm B H0) (h : GivesL H0 ta (ds.map (gNw K B)) σ) (hz : ds.length ≤ 1000 := by simp) : Gives H0 (tTup ta) (gNw K B (.tuple ds)) σ := fun H Q s q =>
  h H _ s fun H1 us s1 g1 => by
    have hl : us.length = ds.length := by rw [← Paired.length g1, List.length_map]
    refine ⟨?_, fun r nr => ?_⟩
    · have y := sizeLine_eq
      omega
    · have s2 := same_put (o := .tup us) nr
      have nB : B r = none := ((hB.go s).go s1) _ nr
      refine q _ _ (s1.trans s2) (.tup (.inl (.inl ?_)) ((allNw g1).mono (newer_same s2)))
      rw [newer_at nB, upd_same]
theorem n_lst (hB : Dm B H0) (h : GivesL H0 ta (ds.map (gNw K B)) σ) (hz : ds.length ≤ 1000 := by simp) : Gives H0 (tLst ta) (gNw K B (.list ds)) σ := fun H Q s q =>
  h H _ s fun H1 us s1 g1 => by
    have hl : us.length = ds.length := by rw [← Paired.length g1, List.length_map]
    refine ⟨?_, fun r nr => ?_⟩
    · have y := sizeLine_eq
      omega
    · have s2 := same_put (o := .lst us) nr
      have nB : B r = none := ((hB.go s).go s1) _ nr
      refine q _ _ (s1.trans s2) (.lst (.inl (.inl ?_)) ((allNw g1).mono (newer_same s2)))
      rw [newer_at nB, upd_same]
theorem n_dnew (hB : Dm B H0) : Gives H0 tDNewK (gNw K B (.dict [])) σ := fun H Q s q r nr => by
  have nB : B r = none := (hB.go s) _ nr
  refine q _ _ (same_put nr) (.dic ?_ .nil)
  rw [newer_at nB, upd_same]
theorem n_var (hv : σ[i]? = some (some v)) (hd : Da K (newer B H0) v d) : Gives H0 (tVar i) (gNw K B d) σ := g_var hv hd
theorem da_app {H : Hp} : ∀ {us vs : List V} {ds es : List PyData}, DaAll K H us ds → DaAll K H vs es → DaAll K H (us ++ vs) (ds ++ es)
  | _, _, _, _, .nil, k => k
  | _, _, _, _, .cons h t, k => .cons h (da_app t k)
theorem da_rep {H : Hp} {us : List V} {ds : List PyData} (h : DaAll K H us ds) : ∀ n : Nat, DaAll K H (List.replicate n us).flatten (List.replicate n ds).flatten
  | 0 => .nil
  | n + 1 => by
    rw [List.replicate_succ, List.replicate_succ, List.flatten_cons, List.flatten_cons]
    exact da_app h (da_rep h n)
/-- tuple * k -/
theorem n_rep {k : Int} (hB : Dm B H0) (h : Gives H0 te (gNw K B (.tuple ds)) σ) (hn : ds ≠ []) (hk : 2 ≤ k) (hk2 : k ≤ 1000) (hz : ds.length ≤ 1000) :
    Gives H0 (tOp (rRepT K) te (tC (.int k))) (gNw K B (.tuple (List.replicate k.toNat ds).flatten)) σ := fun H Q s q =>
  h H _ s fun H1 u s1 g1 => by
    have g1 : Da K (newer B H1) u (.tuple ds) := g1
    cases g1 with
    | @tup a xs _ hs ha =>
    have hl := daAll_len ha
    refine ⟨a, k, xs, rfl, rfl, seqT_mono newer_in hs, fun e => hn ?_, hk, hk2, by omega, fun r nr => ?_⟩
    · rw [e] at hl
      exact List.eq_nil_of_length_eq_zero hl.symm
    · have s2 := same_put (o := .tup (List.replicate k.toNat xs).flatten) nr
      have nB : B r = none := ((hB.go s).go s1) _ nr
      refine q _ _ (s1.trans s2) (.tup (.inl (.inl ?_)) ((da_rep ha k.toNat).mono (newer_same s2)))
      rw [newer_at nB, upd_same]
/-- tuple + tuple -/
theorem n_cat (hB : Dm B H0) (h : Gives H0 te (gNw K B (.tuple ds)) σ) (h' : Gives H0 tf (gNw K B (.tuple es)) σ) (hn : ds ≠ []) (hz : ds.length + es.length ≤ 1000) :
    Gives H0 (tOp (rCatT K) te tf) (gNw K B (.tuple (ds ++ es))) σ := fun H Q s q =>
  h H _ s fun H1 u s1 g1 => h' H1 _ (s.trans s1) fun H2 u' s2 g2 => by
    have g1 : Da K (newer B H1) u (.tuple ds) := g1
    have g2 : Da K (newer B H2) u' (.tuple es) := g2
    have g1 := g1.mono (newer_same s2)
    cases g1 with
    | @tup a xs _ hs ha =>
    cases g2 with
    | @tup b ys _ hs' hb =>
    have l1 := daAll_len ha
    have l2 := daAll_len hb
    have y := sizeLine_eq
    refine ⟨a, b, xs, ys, rfl, rfl, seqT_mono newer_in hs, seqT_mono newer_in hs', fun e => hn ?_, by omega, fun e => ?_, fun _ r nr => ?_⟩
    · rw [e] at l1
      exact List.eq_nil_of_length_eq_zero l1.symm
    · rw [e] at l2
      have e2 : es = [] := List.eq_nil_of_length_eq_zero l2.symm
      subst e2
      refine q _ _ (s1.trans s2) ?_
      show Da K _ _ (.tuple (ds ++ []))
      rw [List.append_nil]
      exact .tup hs ha
    · have s3 := same_put (o := .tup (xs ++ ys)) nr
      have nB : B r = none := (((hB.go s).go s1).go s2) _ nr
      refine q _ _ ((s1.trans s2).trans s3) (.tup (.inl (.inl ?_)) ((da_app ha hb).mono (newer_same s3)))
      rw [newer_at nB, upd_same]
/-- a list of its own, of such data -/
def gNl (K : PySem.W.Frag) (B : Hp) (ds : List PyData) : GP := ⟨fun H u => ∃ a us, u = .ref a ∧ H a = some (.lst us) ∧ B a = none ∧ DaAll K (newer B H) us ds,
  fun s ⟨a, us, h1, h2, h3, h4⟩ => ⟨a, us, h1, s _ _ h2, h3, h4.mono (newer_same s)⟩⟩
theorem n_lstL (hB : Dm B H0) (h : GivesL H0 ta (ds.map (gNw K B)) σ) (hz : ds.length ≤ 1000 := by simp) : Gives H0 (tLst ta) (gNl K B ds) σ := fun H Q s q =>
  h H _ s fun H1 us s1 g1 => by
    have hl : us.length = ds.length := by rw [← Paired.length g1, List.length_map]
    refine ⟨?_, fun r nr => ?_⟩
    · have y := sizeLine_eq
      omega
    · have s2 := same_put (o := .lst us) nr
      exact q _ _ (s1.trans s2) ⟨r, us, rfl, upd_same, ((hB.go s).go s1) _ nr, (allNw g1).mono (newer_same s2)⟩
/-- list + list -/
theorem n_catL (hB : Dm B H0) (h : Gives H0 te (gNl K B ds) σ) (h' : Gives H0 tf (gNl K B es) σ) (hz : ds.length + es.length ≤ 1000) :
    Gives H0 (tOp rCat te tf) (gNl K B (ds ++ es)) σ := fun H Q s q =>
  h H _ s fun H1 u s1 ⟨p, us, e1, h1, n1, g1⟩ => h' H1 _ (s.trans s1) fun H2 u' s2 ⟨p', us', e2, h2, n2, g2⟩ => by
    have l1 := daAll_len g1
    have l2 := daAll_len g2
    refine ⟨p, p', us, us', e1, e2, s2 _ _ h1, h2, ?_, fun r nr => ?_⟩
    · have y := sizeLine_eq
      omega
    · have s3 := same_put (o := .lst (us ++ us')) nr
      exact q _ _ ((s1.trans s2).trans s3) ⟨r, us ++ us', rfl, upd_same, (((hB.go s).go s1).go s2) _ nr, da_app (g1.mono (newer_same (s2.trans s3))) (g2.mono (newer_same s3))⟩
/-- [elt for .. in (..)], the elements new data -/
theorem n_lc {ti : TE} {xs : List V} {g : TG} {vs : List Nat} (hB : Dm B H0)
    (hi : ∀ (H : Hp) (Q : VK), Same H0 H → (∀ H' a, Same H H' → SqT K H' a xs → Q (.ref a) H') → ti σ H Q) (hz : xs.length ≤ 1000) (hl : ds.length = xs.length)
    (he : ∀ (j : Nat) (x : V) (d : PyData), xs[j]? = some x → ds[j]? = some d → ∀ (B' H : Hp) (R : VK), Dm B' H → Same H0 H → Same (newer B H0) (newer B' H) → (∀ H' u, Same H H' → Da K (newer B' H') u d → R u H') →
      g x (wipe σ vs) H fun σ2 H2 => wipe σ2 vs = wipe σ vs ∧ te σ2 H2 R) :
    Gives H0 (tLc (iTup K ti) g tYes te vs) (gNl K B ds) σ := fun H Q s q => by
  refine hi H _ s fun H1 a s1 ha => ⟨a, rfl, ⟨xs, ha⟩, fun D nD => ?_⟩
  have y := sizeLine_eq
  have nB : B D = none := ((hB.go s).go s1) _ nD
  let BD : Hp := upd B D (.lst [])
  have bD : BD D = some (.lst []) := upd_same
  have sD : Same H1 (upd H1 D (.lst [])) := same_put nD
  refine lc_tup (K := K) (a := a) (xs := xs) (fun k H' => Same H1 H' ∧ ∃ us, H' D = some (.lst us) ∧ us.length = k ∧ DaAll K (newer BD H') us (ds.take k)) ⟨sD, [], upd_same, rfl, .nil⟩ (fun k H' _ ⟨s', _⟩ => seqT_mono s' ha) ?_ ?_
  · rintro k x H' hk ⟨s', us, eD, hlen, hda⟩
    have hk1 : k < xs.length := (List.getElem?_eq_some_iff.mp hk).1
    have hd := List.getElem?_eq_getElem (show k < ds.length by omega)
    have dm : Dm BD H' := fun b e => by
      have hb : b ≠ D := fun z => by
        rw [z, eD] at e
        cases e
      show upd B D _ b = none
      rw [upd_ne hb]
      exact ((hB.go s).go s1) b (same_none s' e)
    have tr : Same (newer B H0) (newer BD H') := fun b o e => by
      by_cases hb : B b = none
      · rw [newer_at hb] at e
        have e1 : H1 b = some o := s1 _ _ (s _ _ e)
        have hbD : b ≠ D := ne_of_none e1 nD
        have nb : BD b = none := by
          show upd B D _ b = none
          rw [upd_ne hbD]
          exact hb
        rw [newer_at nb]
        exact s' _ _ e1
      · have z : newer B H0 b = none := if_neg hb
        rw [z] at e
        cases e
    refine cast ?_ (he k x ds[k] hk hd BD H' (fun y H4 => ∃ acc, H4 D = some (.lst acc) ∧ acc.length < sizeLine ∧ (Same H1 (upd H4 D (.lst (acc ++ [y]))) ∧
      ∃ us, upd H4 D (.lst (acc ++ [y])) D = some (.lst us) ∧ us.length = k + 1 ∧ DaAll K (newer BD (upd H4 D (.lst (acc ++ [y])))) us (ds.take (k + 1)))) dm (s.trans (s1.trans s')) tr fun H4 u s4 hu => ?_)
    · rfl
    · have eD4 : H4 D = some (.lst us) := s4 _ _ eD
      have lift : ∀ b o, BD b = none → H4 b = some o → upd H4 D (.lst (us ++ [u])) b = some o := fun b o nb e => by
        have hb : b ≠ D := fun z => by
          rw [z, bD] at nb
          cases nb
        rw [upd_ne hb]
        exact e
      refine ⟨us, eD4, by omega, fun b o e => ?_, us ++ [u], upd_same, by rw [List.length_append, hlen]; rfl, ?_⟩
      · rw [upd_ne (ne_of_none e nD)]
        exact s4 _ _ (s' _ _ e)
      · rw [List.take_add_one, hd]
        exact da_app (hda.mono (newer_le (fun _ z => z) fun b o nb e => lift b o nb (s4 _ _ e))) (.cons (hu.mono (newer_le (fun _ z => z) lift)) .nil)
  · rintro H' ⟨s', us, eD, hlen, hda⟩
    rw [← hl, List.take_length] at hda
    have dom : ∀ b, BD b = none → B b = none := fun b e => by
      have hb : b ≠ D := fun z => by
        rw [z, bD] at e
        cases e
      have z : BD b = B b := upd_ne hb
      rw [← z]
      exact e
    exact q H' _ (s1.trans s') ⟨D, us, rfl, eD, nB, hda.mono (newer_le dom fun b o _ e => e)⟩
end
end Ev

/-! ## tuple * 1 -/
namespace Ev
open PySem PySem.Spec PyProof.Rows L2
theorem tuple_mul1 (l : Addr) (items : Array Value) (n : Nat) (dd : Option Addr) (sl : Array (Option Value)) (x : Int) (u : Tok) (c0 : (decide (x < -(2 ^ 63)) || decide (x ≥ 2 ^ 63)) = false) (c1 : (items.isEmpty || x == 1) = true) :
    Meets (Builtin.«tuple.__mul__» ⟨[.ref l, .int x u], []⟩) (fun _ R s => s.heap.get? l = some { cls := .type "tuple", dict := dd, data := .seq items n, slots := sl } ∧
      R (.ok (.ret (Value.ref l))) s) :=
  .of_wp fun prog w A R s h => by
    obtain ⟨hp, g, d, tk, os⟩ := s
    obtain ⟨hl, h⟩ := h
    have f1 := AutoSeq1.idx_int
    wp_walk using wpAny_loadPart' hl
    repeat (first
      | (refine wpAny_ite_false (decide_eq_false (by rw [c0]; exact Bool.false_ne_true)) ?_; wp_walk using wpAny_loadPart' hl)
      | (refine wpAny_ite_true (decide_eq_true c1) ?_; wp_walk using wpAny_loadPart' hl))
    exact ⟨_, rfl, h⟩
def rRepT1 (K : PySem.W.Frag) : R2 := fun x y H Q => ∃ l xs, x = .ref l ∧ y = .int 1 ∧ SqT K H l xs ∧ Q (.ref l) H
theorem op_repT1 {X : Cx} : OpR X (binaryOp .Mult) (rRepT1 X.K) := by
  intro pins s σ H x y v u Q I rx ry h
  obtain ⟨l, xs, rfl, rfl, hT, q⟩ := h
  cases rx
  obtain ⟨t, rfl⟩ := ry
  obtain ⟨its, r, ⟨⟨cls, dd, data, sl⟩, ho, hc, n, hd⟩, hs⟩ := I.tuple hT
  simp only at hc hd
  subst hc hd
  have c0 : (decide ((1 : Int) < -(2 ^ 63)) || decide ((1 : Int) ≥ 2 ^ 63)) = false := by decide
  have c1 : (its.toArray.isEmpty || (1 : Int) == 1) = true := by
    rw [show ((1 : Int) == 1) = true from rfl, Bool.or_true]
  refine wpAny_binaryOp_repeat_ref (T := "tuple") (U := "int") (by decide) ⟨_, ho, rfl⟩ (fun s' => typeIs_int s' 1 t) noFill_tuple_mul F.fills_int_mul F.slot_int_rmul repeat_tuple F.slot_int_index.lookup
    (call_meets F.slot_int_rmul (typeIs_int s 1 t) F.entry_int_rmul (F.args_int_rmul_2 _ _) (int_rmul_tuple 1 t l its.toArray n dd sl)
      ⟨ho, rfl, ⟨_, ho, rfl⟩, call_meets F.slot_tuple_mul ⟨_, ho, rfl⟩ F.entry_tuple_mul (F.args_tuple_mul_2 _ _) (tuple_mul1 l its.toArray n dd sl 1 t c0 c1) ⟨ho, ?_⟩⟩)
  exact ⟨.ref l, H, I, rfl, q⟩
/-- tuple * k, k at least 1 -/
def rRepA (K : PySem.W.Frag) : R2 := fun x y H Q => rRepT1 K x y H Q ∨ rRepT K x y H Q
theorem op_repA {X : Cx} : OpR X (binaryOp .Mult) (rRepA X.K) := by
  intro pins s σ H x y v u Q I rx ry h
  rcases h with h | h
  · exact op_repT1 pins s σ H x y v u Q I rx ry h
  · exact op_repT pins s σ H x y v u Q I rx ry h
section
variable {K : PySem.W.Frag} {B H0 : Hp} {σ : L2.St} {te tf : TE} {ds : List PyData}
theorem n_repA {k : Nat} (hB : Dm B H0) (h : Gives H0 te (gNw K B (.tuple ds)) σ) (h2 : Gives H0 tf (gEq (.int (k : Nat))) σ) (hn : ds ≠ []) (hk : 1 ≤ k) (hk2 : k ≤ 1000) (hz : ds.length ≤ 1000) :
    Gives H0 (tOp (rRepA K) te tf) (gNw K B (.tuple (List.replicate k ds).flatten)) σ := fun H Q s q =>
  h H _ s fun H0' u s0 g1 => h2 H0' _ (s.trans s0) fun H1 u2 s1 e2 => by
    have e2 : u2 = .int (k : Nat) := e2
    subst e2
    have g1 : Da K (newer B H0') u (.tuple ds) := g1
    have g1 := g1.mono (newer_same s1)
    by_cases h1 : k = 1
    · subst h1
      refine .inl ?_
      cases g1 with
      | @tup a xs _ hs ha =>
      refine ⟨a, xs, rfl, rfl, seqT_mono newer_in hs, q _ _ (s0.trans s1) ?_⟩
      show Da K _ _ (.tuple (List.replicate 1 ds).flatten)
      have z : (List.replicate 1 ds).flatten = ds := by simp
      rw [z]
      exact .tup hs ha
    · refine .inr ?_
      cases g1 with
      | @tup a xs _ hs ha =>
      have hl := daAll_len ha
      refine ⟨a, (k : Nat), xs, rfl, rfl, seqT_mono newer_in hs, fun e => hn ?_, by omega, by omega, by omega, fun r nr => ?_⟩
      · rw [e] at hl
        exact List.eq_nil_of_length_eq_zero hl.symm
      · rw [Int.toNat_natCast]
        have s2 := same_put (o := .tup (List.replicate k xs).flatten) nr
        have nB : B r = none := (((hB.go s).go s0).go s1) _ nr
        refine q _ _ ((s0.trans s1).trans s2) (.tup (.inl (.inl ?_)) ((da_rep ha k).mono (newer_same s2)))
        rw [newer_at nB, upd_same]
end
/-! ### loops nested around one line -/
def leafD : PyData := .tuple [.str "line", .str "a", .int 1]
def nestD : Nat → PyData
  | 0 => .tuple [leafD]
  | n + 1 => .tuple [.tuple [.str "loop", .int 2, nestD n]]
def spNest (K : PySem.W.Frag) : Sp := fun vs H Q _ => ∃ m : Nat, vs = [.int (m : Nat)] ∧ m ≤ 1000 ∧ ∀ H' u, Same H H' → Da K (newer H H') u (nestD m) → Q u H'
theorem scNe : FnScope ["_law_deep", "_law_found", "_law_turn"] ["_law_deep"] (defScope (topS 24)) := ⟨rfl, rfl, rfl, by decide +kernel, rfl, by decide +kernel, by decide +kernel⟩
section
variable {P : Program} {w : World} {K : PySem.W.Frag} {mg : Str → Option Value} {base : Heap} {f : Addr} {fd : FuncData}
theorem ok_ne (F : Fun K "_law_nested" "_law_nested" (topS 24) f fd) (mR : mg "range" = none) : FnOk P w K mg base CX0 1 f fd ["_law_deep"] (spNest K) := by
  refine F.ok scNe (fun vs H Q E h => ?_) (fun cdv A outer s H vs Q E hr h => ?_)
  · obtain ⟨m, rfl, _⟩ := h
    rfl
  · obtain ⟨m, rfl, hm, q⟩ := h
    refine ⟨_, pss_cons (ps_set (i := 1) scNe.nd rfl (.inl rfl) (pe_tup (pa_cons (pe_tup (pa_cons pe_str (pa_cons pe_str (pa_cons pe_int pa_nil)))) pa_nil)))
      (pss_cons (ps_for PassesOwn.never rfl (pi_range1 rfl mR (pa_cons (pv 0) pa_nil)) (pg_name (i := 2) scNe.nd rfl (.inl rfl))
        (pss_one (ps_set (i := 1) scNe.nd rfl (.inl rfl) (pe_tup (pa_cons (pe_tup (pa_cons pe_str (pa_cons pe_int (pa_cons (pv 1) pa_nil)))) pa_nil)))))
      (pss_one (ps_ret (pv 1)))), ?_⟩
    refine s_set (G := gNw K H (nestD 0)) (n_tup (ds := [leafD]) Dm.rfl' (g_cons (n_tup (ds := [.str "line", .str "a", .int 1]) Dm.rfl' (g_cons n_str (g_cons n_str (g_cons n_int g_nil)))) g_nil)) fun H1 u s1 hu => ?_
    refine ⟨_, rfl, (m : Nat), rfl, by omega, by omega, ?_⟩
    rw [Int.toNat_natCast]
    refine for_range (lo := 0) (n := m) (fun i σ' H' => ∃ (u : V) (y2 : Option V), σ' = [some (.int (m : Nat)), some u, y2] ∧ Same H H' ∧ Da K (newer H H') u (nestD i)) ⟨u, none, rfl, s1, hu⟩ ?_ ?_
    · rintro i σ' H' hi ⟨u, y2, rfl, s', hu⟩
      refine s_set1 (G := gNw K H (nestD (i + 1))) (n_tup (ds := [.tuple [.str "loop", .int 2, nestD i]]) (Dm.rfl'.go s') (g_cons (n_tup (ds := [.str "loop", .int 2, nestD i]) (Dm.rfl'.go s') (g_cons n_str (g_cons n_int (g_cons (n_var rfl hu) g_nil)))) g_nil)) fun H2 u2 s2 hu2 => ?_
      exact ⟨u2, _, rfl, s'.trans s2, hu2⟩
    · rintro σ' H' ⟨u, y2, rfl, s', hu⟩
      exact ⟨_, rfl, q H' u s' hu⟩
end
end Ev

/-! ## The values at the limits -/
namespace Ev
open PySem PySem.Spec PyProof.Rows L2
def atV : PyData → V
  | .int i => .int i
  | .bool b => .bl b
  | .str x => .str x
  | _ => .non
def isAt : PyData → Bool
  | .int _ | .bool _ | .str _ | .none => true
  | _ => false
theorem da_at {K : PySem.W.Frag} {H : Hp} {p : PyData} (h : isAt p = true) : Da K H (atV p) p := by
  cases p with
  | none => exact .non
  | bool b => exact .bl b
  | int i => exact .int i
  | str x => exact .str x
  | list _ => cases h
  | tuple _ => cases h
  | dict _ => cases h
theorem ne_of {α : Type} {l : List α} (h : 0 < l.length) : l ≠ [] := fun e => by
  rw [e] at h
  cases h
section
variable {K : PySem.W.Frag} {B H0 : Hp} {σ : L2.St} {te : TE} {ta : TA} {ps : List PyData} {i : Nat} {vs : List Nat}
theorem n_lcA {G : PyData → PyData} (hB : Dm B H0) (hi : GivesL H0 ta ((ps.map atV).map gEq) σ) (hz : ps.length ≤ 1000) (hw : ∀ v, wipe ((wipe σ vs).set i (some v)) vs = wipe σ vs)
    (he : ∀ p ∈ ps, ∀ (B' H : Hp), Dm B' H → Same H0 H → Same (newer B H0) (newer B' H) → Gives H te (gNw K B' (G p)) ((wipe σ vs).set i (some (atV p)))) :
    Gives H0 (tLc (iTup K (tTup ta)) (gName i) tYes te vs) (gNl K B (ps.map G)) σ := by
  refine n_lc (xs := ps.map atV) hB (fun H Q s q => ?_) (by rw [List.length_map]; exact hz) (by rw [List.length_map, List.length_map]) (fun j x d hx hd B' H R dm s t k => ?_)
  · refine hi H _ s fun H1 us s1 g => ?_
    have e := all_eq g
    subst e
    refine ⟨?_, fun r nr => q _ r (s1.trans (same_put nr)) (.inl (.inl upd_same))⟩
    have y := sizeLine_eq
    rw [List.length_map]
    omega
  · rw [List.getElem?_map] at hx hd
    cases e : ps[j]? with
    | none =>
      rw [e] at hx
      cases hx
    | some p =>
      rw [e] at hx hd
      cases hx
      cases hd
      exact ⟨hw _, he p (List.mem_of_getElem? e) B' H dm s t H R Same.rfl' k⟩
theorem g_powE {i j v : Int} (h : CPow i j) (e : i ^ j.toNat = v) : Gives H0 (tOp (rI CPow fun i j => .int (i ^ j.toNat)) (tC (.int i)) (tC (.int j))) (gEq (.int v)) σ :=
  fun H Q _ q => ⟨i, j, rfl, rfl, h, q H _ Same.rfl' (by show V.int _ = V.int _; rw [e])⟩
theorem g_powA {i j k v : Int} (h : CPow i j) (e : i ^ j.toNat + k = v) : Gives H0 (tOp (rI0 fun i j => .int (i + j)) (tOp (rI CPow fun i j => .int (i ^ j.toNat)) (tC (.int i)) (tC (.int j))) (tC (.int k))) (gEq (.int v)) σ :=
  fun H Q _ q => ⟨i, j, rfl, rfl, h, _, _, rfl, rfl, q H _ Same.rfl' (by show V.int _ = V.int _; rw [e])⟩
theorem g_k {i : Int} {k : Nat} (h : i = (k : Nat)) : Gives H0 (tC (.int i)) (gEq (.int (k : Nat))) σ := g_c fun _ => by
  show V.int i = V.int _
  rw [h]
theorem n_nest {m : Nat} (hB : Dm B H0) (h : σ[i]? = some (some (.int (m : Nat)))) (hm : m ≤ 1000) : Gives H0 (tCall (spNest K) [] E0 (tCons (tVar i) tNil)) (gNw K B (nestD m)) σ := fun H Q s q =>
  ⟨_, h, m, rfl, hm, fun H' u s' hu => q H' u s' (hu.mono (newer_le (fun b e => (hB.go s) b e) fun b o _ e => e))⟩
end
def nineD : PyData := (.tuple [.str "loop", .int 1, (.tuple (List.replicate 9 [leafD]).flatten)])
def gMany : PyData → PyData
  | .int k => .tuple (List.replicate k.toNat [leafD]).flatten
  | d => d
def gDeep : PyData → PyData
  | .int k => nestD k.toNat
  | d => d
def lim3 : List PyData := [.int 1, .int 20, .int 21].map gMany ++ [.int 4, .int 5, .int 6].map gDeep
def lim4 : List PyData := lim3 ++ [(.tuple (List.replicate 6 [nineD]).flatten), (.tuple ((List.replicate 6 [nineD]).flatten ++ [leafD])), (.tuple ((List.replicate 2 [(.tuple [.str "loop", .int 1, (.tuple (List.replicate 20 [leafD]).flatten)])]).flatten ++ (List.replicate 18 [leafD]).flatten))]
def lim5 : List PyData := lim4 ++ [(.tuple ((List.replicate 2 [(.tuple [.str "loop", .int 1, (.tuple (List.replicate 20 [leafD]).flatten)])]).flatten ++ (List.replicate 19 [leafD]).flatten)), (.tuple [(.tuple [.str "loop", .int 1, (.tuple (List.replicate 21 [leafD]).flatten)])])]
def lim6 : List PyData := lim5 ++ [.int 0, .int 1, .int 1000000000000, .int 1000000000001, .bool true].map fun p => .tuple [.tuple [.str "line", .str "a", p]]
def lim7 : List PyData := lim6 ++ [.int 0, .int 1, .int 1000000000000000000, .int 1000000000000000001, .bool true].map fun p => .tuple [.tuple [.str "loop", p, .tuple [leafD]]]
def lim8 : List PyData := lim7 ++ [.str "", .str "abcdefgh", .str "abcdefghi", .str "aB", .int 1].map fun p => .tuple [.tuple [.str "line", p, .int 1]]
def lim9 : List PyData := lim8 ++ [(.tuple [(.tuple [.str "loop", .int 1, (.tuple [])])]), (.tuple [(.tuple [.str "Line", .str "a", .int 1])]), (.tuple [(.tuple [.str "line", .str "a"])]), (.tuple [(.tuple [.str "line", .str "a", .int 1, .int 1])])]
def limD : List PyData := lim9 ++ [leafD, (.tuple [leafD, .none])]
def spLim (K : PySem.W.Frag) : Sp := fun vs H Q _ => vs = [] ∧ ∀ H' u, Same H H' → (gNl K H limD).p H' u → Q u H'
theorem scLi : FnScope ["_law_leaf", "_law_nine", "_law_found", "_law_many", "_law_deep", "_law_ticks_here", "_law_rounds", "_law_name"] [] (defScope (topS 25)) := ⟨rfl, rfl, rfl, by decide +kernel, rfl, by decide +kernel, by decide +kernel⟩
section
variable {P : Program} {w : World} {K : PySem.W.Frag} {mg : Str → Option Value} {base : Heap} {f fE : Addr} {fd fdE : FuncData}
theorem ok_li (F : Fun K "_law_limits" "_law_limits" (topS 25) f fd) (GE : FnOk P w K mg base CX0 1 fE fdE ["_law_deep"] (spNest K)) (bE : Binds K fdE ["_law_deep"] []) (gE : mg "_law_nested" = some (.ref fE)) (kE : PySem.W.keepIn K (.ref fE) = true) :
    FnOk P w K mg base CX0 2 f fd [] (spLim K) := by
  refine F.ok scLi (fun vs H Q E h => ?_) (fun cdv A outer s H vs Q E hr1 h => ?_)
  · obtain ⟨rfl, _⟩ := h
    rfl
  · obtain ⟨rfl, q⟩ := h
    refine ⟨_, (pss_cons (ps_set (i := 0) scLi.nd rfl (.inr rfl) (pe_tup (pa_cons pe_str (pa_cons pe_str (pa_cons pe_int pa_nil))))) (pss_cons (ps_set (i := 1) scLi.nd rfl (.inl rfl) (pe_tup (pa_cons pe_str (pa_cons pe_int (pa_cons (pe_op op_repA (pe_tup (pa_cons (pv 0) pa_nil)) pe_int) pa_nil))))) (pss_cons (ps_set (i := 2) scLi.nd rfl (.inl rfl) (pe_op op_cat (pe_lc (own := [("_law_many", 3)]) (g := gName 3) (tt := tYes) (te := tOp (rRepA K) (tTup (tCons (tVar 0) tNil)) (tVar 3)) rfl scLi.nd (pi_tup (pe_tup (pa_cons pe_int (pa_cons pe_int (pa_cons pe_int pa_nil))))) (blkOk_by (N := ["_law_leaf", "_law_nine", "_law_found", "_law_many", "_law_deep", "_law_ticks_here", "_law_rounds", "_law_name"]) (sc := defScope (topS 25)) (by decide +kernel)) (fun _ _ _ _ _ => pg_name (i := 3) scLi.nd rfl (Or.inl rfl)) (fun _ _ _ _ _ => pts_nil) (fun _ _ _ _ _ => pe_op op_repA (pe_tup (pa_cons (pv 0) pa_nil)) (pv 3))) (pe_lc (own := [("_law_deep", 4)]) (g := gName 4) (tt := tYes) (te := tCall (spNest K) [] E0 (tCons (tVar 4) tNil)) rfl scLi.nd (pi_tup (pe_tup (pa_cons pe_int (pa_cons pe_int (pa_cons pe_int pa_nil))))) (blkOk_by (N := ["_law_leaf", "_law_nine", "_law_found", "_law_many", "_law_deep", "_law_ticks_here", "_law_rounds", "_law_name"]) (sc := defScope (topS 25)) (by decide +kernel)) (fun _ _ _ _ _ => pg_name (i := 4) scLi.nd rfl (Or.inl rfl)) (fun _ _ _ _ _ => pts_nil) (fun _ _ _ _ _ => pe_call GE hr1 (by rfl) gE kE bE .nil pass0 (pa_cons (pv 4) pa_nil))))) (pss_cons (ps_set (i := 2) scLi.nd rfl (.inl rfl) (pe_op op_cat (pv 2) (pe_lst (pa_cons (pe_op op_repA (pe_tup (pa_cons (pv 1) pa_nil)) pe_int) (pa_cons (pe_op op_catT (pe_op op_repA (pe_tup (pa_cons (pv 1) pa_nil)) pe_int) (pe_tup (pa_cons (pv 0) pa_nil))) (pa_cons (pe_op op_catT (pe_op op_repA (pe_tup (pa_cons (pe_tup (pa_cons pe_str (pa_cons pe_int (pa_cons (pe_op op_repA (pe_tup (pa_cons (pv 0) pa_nil)) pe_int) pa_nil)))) pa_nil)) pe_int) (pe_op op_repA (pe_tup (pa_cons (pv 0) pa_nil)) pe_int)) pa_nil)))))) (pss_cons (ps_set (i := 2) scLi.nd rfl (.inl rfl) (pe_op op_cat (pv 2) (pe_lst (pa_cons (pe_op op_catT (pe_op op_repA (pe_tup (pa_cons (pe_tup (pa_cons pe_str (pa_cons pe_int (pa_cons (pe_op op_repA (pe_tup (pa_cons (pv 0) pa_nil)) pe_int) pa_nil)))) pa_nil)) pe_int) (pe_op op_repA (pe_tup (pa_cons (pv 0) pa_nil)) pe_int)) (pa_cons (pe_tup (pa_cons (pe_tup (pa_cons pe_str (pa_cons pe_int (pa_cons (pe_op op_repA (pe_tup (pa_cons (pv 0) pa_nil)) pe_int) pa_nil)))) pa_nil)) pa_nil))))) (pss_cons (ps_set (i := 2) scLi.nd rfl (.inl rfl) (pe_op op_cat (pv 2) (pe_lc (own := [("_law_ticks_here", 5)]) (g := gName 5) (tt := tYes) (te := tTup (tCons (tTup (tCons (tC (.str "line")) (tCons (tC (.str "a")) (tCons (tVar 5) tNil)))) tNil)) rfl scLi.nd (pi_tup (pe_tup (pa_cons pe_int (pa_cons pe_int (pa_cons (pe_op op_pow pe_int pe_int) (pa_cons (pe_op op_add (pe_op op_pow pe_int pe_int) pe_int) (pa_cons pe_bl pa_nil))))))) (blkOk_by (N := ["_law_leaf", "_law_nine", "_law_found", "_law_many", "_law_deep", "_law_ticks_here", "_law_rounds", "_law_name"]) (sc := defScope (topS 25)) (by decide +kernel)) (fun _ _ _ _ _ => pg_name (i := 5) scLi.nd rfl (Or.inl rfl)) (fun _ _ _ _ _ => pts_nil) (fun _ _ _ _ _ => pe_tup (pa_cons (pe_tup (pa_cons pe_str (pa_cons pe_str (pa_cons (pv 5) pa_nil)))) pa_nil))))) (pss_cons (ps_set (i := 2) scLi.nd rfl (.inl rfl) (pe_op op_cat (pv 2) (pe_lc (own := [("_law_rounds", 6)]) (g := gName 6) (tt := tYes) (te := tTup (tCons (tTup (tCons (tC (.str "loop")) (tCons (tVar 6) (tCons (tTup (tCons (tVar 0) tNil)) tNil)))) tNil)) rfl scLi.nd (pi_tup (pe_tup (pa_cons pe_int (pa_cons pe_int (pa_cons (pe_op op_pow pe_int pe_int) (pa_cons (pe_op op_add (pe_op op_pow pe_int pe_int) pe_int) (pa_cons pe_bl pa_nil))))))) (blkOk_by (N := ["_law_leaf", "_law_nine", "_law_found", "_law_many", "_law_deep", "_law_ticks_here", "_law_rounds", "_law_name"]) (sc := defScope (topS 25)) (by decide +kernel)) (fun _ _ _ _ _ => pg_name (i := 6) scLi.nd rfl (Or.inl rfl)) (fun _ _ _ _ _ => pts_nil) (fun _ _ _ _ _ => pe_tup (pa_cons (pe_tup (pa_cons pe_str (pa_cons (pv 6) (pa_cons (pe_tup (pa_cons (pv 0) pa_nil)) pa_nil)))) pa_nil))))) (pss_cons (ps_set (i := 2) scLi.nd rfl (.inl rfl) (pe_op op_cat (pv 2) (pe_lc (own := [("_law_name", 7)]) (g := gName 7) (tt := tYes) (te := tTup (tCons (tTup (tCons (tC (.str "line")) (tCons (tVar 7) (tCons (tC (.int 1)) tNil)))) tNil)) rfl scLi.nd (pi_tup (pe_tup (pa_cons pe_str (pa_cons pe_str (pa_cons pe_str (pa_cons pe_str (pa_cons pe_int pa_nil))))))) (blkOk_by (N := ["_law_leaf", "_law_nine", "_law_found", "_law_many", "_law_deep", "_law_ticks_here", "_law_rounds", "_law_name"]) (sc := defScope (topS 25)) (by decide +kernel)) (fun _ _ _ _ _ => pg_name (i := 7) scLi.nd rfl (Or.inl rfl)) (fun _ _ _ _ _ => pts_nil) (fun _ _ _ _ _ => pe_tup (pa_cons (pe_tup (pa_cons pe_str (pa_cons (pv 7) (pa_cons pe_int pa_nil)))) pa_nil))))) (pss_cons (ps_set (i := 2) scLi.nd rfl (.inl rfl) (pe_op op_cat (pv 2) (pe_lst (pa_cons (pe_tup (pa_cons (pe_tup (pa_cons pe_str (pa_cons pe_int (pa_cons (pe_tup pa_nil) pa_nil)))) pa_nil)) (pa_cons (pe_tup (pa_cons (pe_tup (pa_cons pe_str (pa_cons pe_str (pa_cons pe_int pa_nil)))) pa_nil)) (pa_cons (pe_tup (pa_cons (pe_tup (pa_cons pe_str (pa_cons pe_str pa_nil))) pa_nil)) (pa_cons (pe_tup (pa_cons (pe_tup (pa_cons pe_str (pa_cons pe_str (pa_cons pe_int (pa_cons pe_int pa_nil))))) pa_nil)) pa_nil))))))) (pss_one (ps_ret (pe_op op_cat (pv 2) (pe_lst (pa_cons (pv 0) (pa_cons (pe_tup (pa_cons (pv 0) (pa_cons pe_non pa_nil))) pa_nil))))))))))))))), ?_⟩
    refine s_set (G := gNw K H leafD) (n_tup (ds := [.str "line", .str "a", .int 1]) Dm.rfl' (g_cons n_str (g_cons n_str (g_cons n_int g_nil)))) fun H1 u1 s1 hL1 => ?_
    have d1 : Dm H H1 := Dm.rfl'.go s1
    refine s_set (G := gNw K H nineD) (n_tup (ds := [.str "loop", .int 1, (.tuple (List.replicate 9 [leafD]).flatten)]) d1 (g_cons n_str (g_cons n_int (g_cons (n_repA (k := 9) (ds := [leafD]) d1 (n_tup (ds := [leafD]) d1 (g_cons (n_var (i := 0) rfl hL1) g_nil)) (g_k (i := 9) (k := 9) rfl) (List.cons_ne_nil _ _) (by decide) (by decide) (by simp)) g_nil)))) fun H2 u2 s2 hN2 => ?_
    have d2 := d1.go s2
    have hL2 : Da K (newer H H2) u1 leafD := hL1.mono (newer_same s2)
    have k1 : Gives H2 _ (gNl K H ([.int 1, .int 20, .int 21].map gMany)) [some u1, some u2, none, none, none, none, none, none] := n_lcA (K := K) (te := tOp (rRepA K) (tTup (tCons (tVar 0) tNil)) (tVar 3)) (i := 3) (vs := [3]) d2 (g_cons (g_c fun _ => rfl) (g_cons (g_c fun _ => rfl) (g_cons (g_c fun _ => rfl) g_nil))) (by decide) (fun _ => rfl) fun p hp B' Hx dm sx tx => by
      have key : ∀ k : Nat, 1 ≤ k → k ≤ 1000 → Gives Hx (tOp (rRepA K) (tTup (tCons (tVar 0) tNil)) (tVar 3)) (gNw K B' (.tuple (List.replicate k [leafD]).flatten)) [some u1, some u2, none, some (.int (k : Nat)), none, none, none, none] := fun k k1 k2 =>
        n_repA (ds := [leafD]) dm (n_tup (ds := [leafD]) dm (g_cons (n_var rfl (hL2.mono tx)) g_nil)) (g_eq rfl) (List.cons_ne_nil _ _) k1 k2 (by simp)
      rcases List.mem_cons.mp hp with rfl | hp
      · exact key 1 (by decide) (by decide)
      rcases List.mem_cons.mp hp with rfl | hp
      · exact key 20 (by decide) (by decide)
      rcases List.mem_cons.mp hp with rfl | hp
      · exact key 21 (by decide) (by decide)
      cases hp
    have k2 : Gives H2 _ (gNl K H ([.int 4, .int 5, .int 6].map gDeep)) [some u1, some u2, none, none, none, none, none, none] := n_lcA (K := K) (te := tCall (spNest K) [] E0 (tCons (tVar 4) tNil)) (i := 4) (vs := [4]) d2 (g_cons (g_c fun _ => rfl) (g_cons (g_c fun _ => rfl) (g_cons (g_c fun _ => rfl) g_nil))) (by decide) (fun _ => rfl) fun p hp B' Hx dm sx tx => by
      rcases List.mem_cons.mp hp with rfl | hp
      · exact n_nest (m := 4) dm rfl (by decide)
      rcases List.mem_cons.mp hp with rfl | hp
      · exact n_nest (m := 5) dm rfl (by decide)
      rcases List.mem_cons.mp hp with rfl | hp
      · exact n_nest (m := 6) dm rfl (by decide)
      cases hp
    refine s_set (G := gNl K H lim3) (n_catL d2 k1 k2 (by decide)) fun H3 u3 s3 hF3 => ?_
    have d3 := d2.go s3
    have hL3 : Da K (newer H H3) u1 leafD := hL2.mono (newer_same s3)
    have hN3 : Da K (newer H H3) u2 nineD := hN2.mono (newer_same s3)
    have k4 : Gives H3 _ (gNl K H [(.tuple (List.replicate 6 [nineD]).flatten), (.tuple ((List.replicate 6 [nineD]).flatten ++ [leafD])), (.tuple ((List.replicate 2 [(.tuple [.str "loop", .int 1, (.tuple (List.replicate 20 [leafD]).flatten)])]).flatten ++ (List.replicate 18 [leafD]).flatten))]) [some u1, some u2, some u3, none, none, none, none, none] := (n_lstL (ds := [(.tuple (List.replicate 6 [nineD]).flatten), (.tuple ((List.replicate 6 [nineD]).flatten ++ [leafD])), (.tuple ((List.replicate 2 [(.tuple [.str "loop", .int 1, (.tuple (List.replicate 20 [leafD]).flatten)])]).flatten ++ (List.replicate 18 [leafD]).flatten))]) d3 (g_cons (n_repA (k := 6) (ds := [nineD]) d3 (n_tup (ds := [nineD]) d3 (g_cons (n_var (i := 1) rfl hN3) g_nil)) (g_k (i := 6) (k := 6) rfl) (List.cons_ne_nil _ _) (by decide) (by decide) (by simp)) (g_cons (n_cat (ds := (List.replicate 6 [nineD]).flatten) (es := [leafD]) d3 (n_repA (k := 6) (ds := [nineD]) d3 (n_tup (ds := [nineD]) d3 (g_cons (n_var (i := 1) rfl hN3) g_nil)) (g_k (i := 6) (k := 6) rfl) (List.cons_ne_nil _ _) (by decide) (by decide) (by simp)) (n_tup (ds := [leafD]) d3 (g_cons (n_var (i := 0) rfl hL3) g_nil)) (ne_of (by decide)) (by decide)) (g_cons (n_cat (ds := (List.replicate 2 [(.tuple [.str "loop", .int 1, (.tuple (List.replicate 20 [leafD]).flatten)])]).flatten) (es := (List.replicate 18 [leafD]).flatten) d3 (n_repA (k := 2) (ds := [(.tuple [.str "loop", .int 1, (.tuple (List.replicate 20 [leafD]).flatten)])]) d3 (n_tup (ds := [(.tuple [.str "loop", .int 1, (.tuple (List.replicate 20 [leafD]).flatten)])]) d3 (g_cons (n_tup (ds := [.str "loop", .int 1, (.tuple (List.replicate 20 [leafD]).flatten)]) d3 (g_cons n_str (g_cons n_int (g_cons (n_repA (k := 20) (ds := [leafD]) d3 (n_tup (ds := [leafD]) d3 (g_cons (n_var (i := 0) rfl hL3) g_nil)) (g_k (i := 20) (k := 20) rfl) (List.cons_ne_nil _ _) (by decide) (by decide) (by simp)) g_nil)))) g_nil)) (g_k (i := 2) (k := 2) rfl) (List.cons_ne_nil _ _) (by decide) (by decide) (by simp)) (n_repA (k := 18) (ds := [leafD]) d3 (n_tup (ds := [leafD]) d3 (g_cons (n_var (i := 0) rfl hL3) g_nil)) (g_k (i := 18) (k := 18) rfl) (List.cons_ne_nil _ _) (by decide) (by decide) (by simp)) (ne_of (by decide)) (by decide)) g_nil))))
    refine s_set (G := gNl K H lim4) (n_catL d3 (g_var rfl hF3) k4 (by decide)) fun H4 u4 s4 hF4 => ?_
    have d4 := d3.go s4
    have hL4 : Da K (newer H H4) u1 leafD := hL3.mono (newer_same s4)
    have hN4 : Da K (newer H H4) u2 nineD := hN3.mono (newer_same s4)
    have k5 : Gives H4 _ (gNl K H [(.tuple ((List.replicate 2 [(.tuple [.str "loop", .int 1, (.tuple (List.replicate 20 [leafD]).flatten)])]).flatten ++ (List.replicate 19 [leafD]).flatten)), (.tuple [(.tuple [.str "loop", .int 1, (.tuple (List.replicate 21 [leafD]).flatten)])])]) [some u1, some u2, some u4, none, none, none, none, none] := (n_lstL (ds := [(.tuple ((List.replicate 2 [(.tuple [.str "loop", .int 1, (.tuple (List.replicate 20 [leafD]).flatten)])]).flatten ++ (List.replicate 19 [leafD]).flatten)), (.tuple [(.tuple [.str "loop", .int 1, (.tuple (List.replicate 21 [leafD]).flatten)])])]) d4 (g_cons (n_cat (ds := (List.replicate 2 [(.tuple [.str "loop", .int 1, (.tuple (List.replicate 20 [leafD]).flatten)])]).flatten) (es := (List.replicate 19 [leafD]).flatten) d4 (n_repA (k := 2) (ds := [(.tuple [.str "loop", .int 1, (.tuple (List.replicate 20 [leafD]).flatten)])]) d4 (n_tup (ds := [(.tuple [.str "loop", .int 1, (.tuple (List.replicate 20 [leafD]).flatten)])]) d4 (g_cons (n_tup (ds := [.str "loop", .int 1, (.tuple (List.replicate 20 [leafD]).flatten)]) d4 (g_cons n_str (g_cons n_int (g_cons (n_repA (k := 20) (ds := [leafD]) d4 (n_tup (ds := [leafD]) d4 (g_cons (n_var (i := 0) rfl hL4) g_nil)) (g_k (i := 20) (k := 20) rfl) (List.cons_ne_nil _ _) (by decide) (by decide) (by simp)) g_nil)))) g_nil)) (g_k (i := 2) (k := 2) rfl) (List.cons_ne_nil _ _) (by decide) (by decide) (by simp)) (n_repA (k := 19) (ds := [leafD]) d4 (n_tup (ds := [leafD]) d4 (g_cons (n_var (i := 0) rfl hL4) g_nil)) (g_k (i := 19) (k := 19) rfl) (List.cons_ne_nil _ _) (by decide) (by decide) (by simp)) (ne_of (by decide)) (by decide)) (g_cons (n_tup (ds := [(.tuple [.str "loop", .int 1, (.tuple (List.replicate 21 [leafD]).flatten)])]) d4 (g_cons (n_tup (ds := [.str "loop", .int 1, (.tuple (List.replicate 21 [leafD]).flatten)]) d4 (g_cons n_str (g_cons n_int (g_cons (n_repA (k := 21) (ds := [leafD]) d4 (n_tup (ds := [leafD]) d4 (g_cons (n_var (i := 0) rfl hL4) g_nil)) (g_k (i := 21) (k := 21) rfl) (List.cons_ne_nil _ _) (by decide) (by decide) (by simp)) g_nil)))) g_nil)) g_nil)))
    refine s_set (G := gNl K H lim5) (n_catL d4 (g_var rfl hF4) k5 (by decide)) fun H5 u5 s5 hF5 => ?_
    have d5 := d4.go s5
    have hL5 : Da K (newer H H5) u1 leafD := hL4.mono (newer_same s5)
    have hN5 : Da K (newer H H5) u2 nineD := hN4.mono (newer_same s5)
    have k6 : Gives H5 _ (gNl K H ([.int 0, .int 1, .int 1000000000000, .int 1000000000001, .bool true].map fun p => .tuple [.tuple [.str "line", .str "a", p]])) [some u1, some u2, some u5, none, none, none, none, none] := n_lcA (K := K) (te := tTup (tCons (tTup (tCons (tC (.str "line")) (tCons (tC (.str "a")) (tCons (tVar 5) tNil)))) tNil)) (i := 5) (vs := [5]) d5 (g_cons (g_c fun _ => rfl) (g_cons (g_c fun _ => rfl) (g_cons (g_powE (i := 10) (j := 12) (v := 1000000000000) ⟨by decide, by decide, by decide⟩ (by decide)) (g_cons (g_powA (i := 10) (j := 12) (k := 1) (v := 1000000000001) ⟨by decide, by decide, by decide⟩ (by decide)) (g_cons (g_c fun _ => rfl) g_nil))))) (by decide) (fun _ => rfl) fun p hp B' Hx dm sx tx => by
      have at0 : isAt p = true := (List.all_eq_true (l := [.int 0, .int 1, .int 1000000000000, .int 1000000000001, .bool true]) (p := isAt)).mp (by decide) p hp
      exact n_tup (ds := [.tuple [.str "line", .str "a", p]]) dm (g_cons (n_tup (ds := [.str "line", .str "a", p]) dm (g_cons n_str (g_cons n_str (g_cons (n_var rfl (da_at at0)) g_nil)))) g_nil)
    refine s_set (G := gNl K H lim6) (n_catL d5 (g_var rfl hF5) k6 (by decide)) fun H6 u6 s6 hF6 => ?_
    have d6 := d5.go s6
    have hL6 : Da K (newer H H6) u1 leafD := hL5.mono (newer_same s6)
    have hN6 : Da K (newer H H6) u2 nineD := hN5.mono (newer_same s6)
    have k7 : Gives H6 _ (gNl K H ([.int 0, .int 1, .int 1000000000000000000, .int 1000000000000000001, .bool true].map fun p => .tuple [.tuple [.str "loop", p, .tuple [leafD]]])) [some u1, some u2, some u6, none, none, none, none, none] := n_lcA (K := K) (te := tTup (tCons (tTup (tCons (tC (.str "loop")) (tCons (tVar 6) (tCons (tTup (tCons (tVar 0) tNil)) tNil)))) tNil)) (i := 6) (vs := [6]) d6 (g_cons (g_c fun _ => rfl) (g_cons (g_c fun _ => rfl) (g_cons (g_powE (i := 10) (j := 18) (v := 1000000000000000000) ⟨by decide, by decide, by decide⟩ (by decide)) (g_cons (g_powA (i := 10) (j := 18) (k := 1) (v := 1000000000000000001) ⟨by decide, by decide, by decide⟩ (by decide)) (g_cons (g_c fun _ => rfl) g_nil))))) (by decide) (fun _ => rfl) fun p hp B' Hx dm sx tx => by
      have at0 : isAt p = true := (List.all_eq_true (l := [.int 0, .int 1, .int 1000000000000000000, .int 1000000000000000001, .bool true]) (p := isAt)).mp (by decide) p hp
      exact n_tup (ds := [.tuple [.str "loop", p, .tuple [leafD]]]) dm (g_cons (n_tup (ds := [.str "loop", p, .tuple [leafD]]) dm (g_cons n_str (g_cons (n_var rfl (da_at at0)) (g_cons (n_tup (ds := [leafD]) dm (g_cons (n_var rfl (hL6.mono tx)) g_nil)) g_nil)))) g_nil)
    refine s_set (G := gNl K H lim7) (n_catL d6 (g_var rfl hF6) k7 (by decide)) fun H7 u7 s7 hF7 => ?_
    have d7 := d6.go s7
    have hL7 : Da K (newer H H7) u1 leafD := hL6.mono (newer_same s7)
    have hN7 : Da K (newer H H7) u2 nineD := hN6.mono (newer_same s7)
    have k8 : Gives H7 _ (gNl K H ([.str "", .str "abcdefgh", .str "abcdefghi", .str "aB", .int 1].map fun p => .tuple [.tuple [.str "line", p, .int 1]])) [some u1, some u2, some u7, none, none, none, none, none] := n_lcA (K := K) (te := tTup (tCons (tTup (tCons (tC (.str "line")) (tCons (tVar 7) (tCons (tC (.int 1)) tNil)))) tNil)) (i := 7) (vs := [7]) d7 (g_cons (g_c fun _ => rfl) (g_cons (g_c fun _ => rfl) (g_cons (g_c fun _ => rfl) (g_cons (g_c fun _ => rfl) (g_cons (g_c fun _ => rfl) g_nil))))) (by decide) (fun _ => rfl) fun p hp B' Hx dm sx tx => by
      have at0 : isAt p = true := (List.all_eq_true (l := [.str "", .str "abcdefgh", .str "abcdefghi", .str "aB", .int 1]) (p := isAt)).mp (by decide) p hp
      exact n_tup (ds := [.tuple [.str "line", p, .int 1]]) dm (g_cons (n_tup (ds := [.str "line", p, .int 1]) dm (g_cons n_str (g_cons (n_var rfl (da_at at0)) (g_cons n_int g_nil)))) g_nil)
    refine s_set (G := gNl K H lim8) (n_catL d7 (g_var rfl hF7) k8 (by decide)) fun H8 u8 s8 hF8 => ?_
    have d8 := d7.go s8
    have hL8 : Da K (newer H H8) u1 leafD := hL7.mono (newer_same s8)
    have hN8 : Da K (newer H H8) u2 nineD := hN7.mono (newer_same s8)
    have k9 : Gives H8 _ (gNl K H [(.tuple [(.tuple [.str "loop", .int 1, (.tuple [])])]), (.tuple [(.tuple [.str "Line", .str "a", .int 1])]), (.tuple [(.tuple [.str "line", .str "a"])]), (.tuple [(.tuple [.str "line", .str "a", .int 1, .int 1])])]) [some u1, some u2, some u8, none, none, none, none, none] := (n_lstL (ds := [(.tuple [(.tuple [.str "loop", .int 1, (.tuple [])])]), (.tuple [(.tuple [.str "Line", .str "a", .int 1])]), (.tuple [(.tuple [.str "line", .str "a"])]), (.tuple [(.tuple [.str "line", .str "a", .int 1, .int 1])])]) d8 (g_cons (n_tup (ds := [(.tuple [.str "loop", .int 1, (.tuple [])])]) d8 (g_cons (n_tup (ds := [.str "loop", .int 1, (.tuple [])]) d8 (g_cons n_str (g_cons n_int (g_cons (n_tup (ds := []) d8 g_nil) g_nil)))) g_nil)) (g_cons (n_tup (ds := [(.tuple [.str "Line", .str "a", .int 1])]) d8 (g_cons (n_tup (ds := [.str "Line", .str "a", .int 1]) d8 (g_cons n_str (g_cons n_str (g_cons n_int g_nil)))) g_nil)) (g_cons (n_tup (ds := [(.tuple [.str "line", .str "a"])]) d8 (g_cons (n_tup (ds := [.str "line", .str "a"]) d8 (g_cons n_str (g_cons n_str g_nil))) g_nil)) (g_cons (n_tup (ds := [(.tuple [.str "line", .str "a", .int 1, .int 1])]) d8 (g_cons (n_tup (ds := [.str "line", .str "a", .int 1, .int 1]) d8 (g_cons n_str (g_cons n_str (g_cons n_int (g_cons n_int g_nil))))) g_nil)) g_nil)))))
    refine s_set (G := gNl K H lim9) (n_catL d8 (g_var rfl hF8) k9 (by decide)) fun H9 u9 s9 hF9 => ?_
    have d9 := d8.go s9
    have hL9 : Da K (newer H H9) u1 leafD := hL8.mono (newer_same s9)
    have hN9 : Da K (newer H H9) u2 nineD := hN8.mono (newer_same s9)
    have k10 : Gives H9 _ (gNl K H [leafD, (.tuple [leafD, .none])]) [some u1, some u2, some u9, none, none, none, none, none] := (n_lstL (ds := [leafD, (.tuple [leafD, .none])]) d9 (g_cons (n_var (i := 0) rfl hL9) (g_cons (n_tup (ds := [leafD, .none]) d9 (g_cons (n_var (i := 0) rfl hL9) (g_cons n_non g_nil))) g_nil)))
    refine s_ret (G := gNl K H limD) (n_catL d9 (g_var rfl hF9) k10 (by decide)) fun H10 u10 s10 hF10 => ?_
    exact q H10 u10 (((((((((s1.trans s2).trans s3).trans s4).trans s5).trans s6).trans s7).trans s8).trans s9).trans s10) hF10
end
end Ev

/-! ## tuple[::-1] -/
namespace Ev
open PySem PySem.Spec PyProof.Rows L2 HT
section
variable {prog : Program} {w : World} {A : Around} {E : Value → Shared → Prop} {s : Shared}
theorem adjust_rev (n : Nat) : Builtin.Slice.sliceAdjust none none (-1) (n : Int) = ((n : Int) - 1, -1) := by
  unfold Builtin.Slice.sliceAdjust
  simp
theorem places_rev (n : Nat) : Builtin.Slice.slicePlaces ((n : Int) - 1) (-1) (-1) = n := by
  unfold Builtin.Slice.slicePlaces
  simp
  split <;> omega
theorem sliceApplied_rev {sl : Addr} {vl vu vs : Value} {n : Nat} {Q : Int × Int × Nat → Shared → Prop} (hs : s.heap.IsSliceOf sl vl vu vs) (pl : IsPart vl none) (pu : IsPart vu none) (ps : IsPart vs (some (-1)))
    (h : Q ((n : Int) - 1, -1, n) s) : wpAny (model prog w) A (Builtin.Slice.sliceApplied (.ref sl) (pure (n : Int))) Q E s := by
  obtain ⟨os, hos, hcs, hds⟩ := id hs
  unfold Builtin.Slice.sliceApplied Builtin.Slice.sliceFields
  refine wpAny_bind (wpAny_bind (wpAny_field hos hds (x := vl) rfl (wpAny_bind (wpAny_field hos hds (x := vu) rfl (wpAny_bind (wpAny_field hos hds (x := vs) rfl (wpAny_pure ?_)))))))
  refine wpAny_bind (slicePart_ ps ?_)
  show wpAny _ _ (if ((-1 : Int) == 0) = true then _ else _) _ _ s
  rw [if_neg (by decide)]
  refine wpAny_bind (slicePart_ pl (wpAny_bind (slicePart_ pu (wpAny_bind (wpAny_pure ?_)))))
  show wpAny _ _ (match Builtin.Slice.sliceAdjust none none (-1) (n : Int) with | (lo, hi) => pure (lo, (-1 : Int), Builtin.Slice.slicePlaces lo hi (-1))) _ _ s
  rw [adjust_rev n]
  show wpAny _ _ (pure ((n : Int) - 1, (-1 : Int), Builtin.Slice.slicePlaces ((n : Int) - 1) (-1) (-1))) _ _ s
  rw [places_rev]
  exact wpAny_pure h
theorem filterMap_map {α β : Type} {f : α → Option β} {g : α → β} : ∀ {l : List α}, (∀ a ∈ l, f a = some (g a)) → l.filterMap f = l.map g
  | [], _ => rfl
  | a :: l, h => by
    rw [List.filterMap_cons, h a (List.mem_cons_self ..), List.map_cons, filterMap_map fun b hb => h b (List.mem_cons_of_mem _ hb)]
theorem pick_rev (xs : Array Value) : ((List.range xs.size).filterMap fun (m : Nat) => xs[(((xs.size : Int) - 1) + (m : Int) * (-1)).toNat]?).toArray = xs.toList.reverse.toArray := by
  congr 1
  apply List.ext_getElem?
  intro i
  have e : (List.range xs.size).filterMap (fun (m : Nat) => xs[(((xs.size : Int) - 1) + (m : Int) * (-1)).toNat]?) = (List.range xs.size).filterMap (fun m => xs.toList[xs.size - 1 - m]?) := by
    congr 1
    funext m
    have : (((xs.size : Int) - 1) + (m : Int) * (-1)).toNat = xs.size - 1 - m := by omega
    rw [this, Array.getElem?_toList]
  rw [e]
  have e2 : (List.range xs.size).filterMap (fun m => xs.toList[xs.size - 1 - m]?) = xs.toList.reverse := by
    have h : ∀ l : List Value, (List.range l.length).filterMap (fun m => l[l.length - 1 - m]?) = l.reverse := by
      intro l
      apply List.ext_getElem
      · rw [List.length_reverse, List.length_filterMap_eq_countP, List.countP_eq_length.mpr, List.length_range]
        intro a ha
        have := List.mem_range.mp ha
        rw [List.getElem?_eq_getElem (by omega)]
        rfl
      · intro i h1 h2
        have hh : (List.range l.length).filterMap (fun m => l[l.length - 1 - m]?) = (List.range l.length).map (fun m => l[l.length - 1 - m]?.getD .none) := by
          apply filterMap_map
          intro a ha
          have := List.mem_range.mp ha
          rw [List.getElem?_eq_getElem (by omega)]
          rfl
        have hi : i < l.length := by rw [List.length_reverse] at h2; exact h2
        simp only [hh, List.getElem_map, List.getElem_range, List.getElem_reverse]
        rw [List.getElem?_eq_getElem (by omega)]
        rfl
    have z := h xs.toList
    rw [Array.length_toList] at z
    exact z
  rw [e2]
theorem getItem_tuple_rev {t sl : Addr} {items : Array Value} {vl vu vs : Value} {Q : Value → Shared → Prop} (ht : IsTup s.heap t items) (hs : s.heap.IsSliceOf sl vl vu vs) (pl : IsPart vl none) (pu : IsPart vu none) (ps : IsPart vs (some (-1)))
    (h : Q (.ref s.heap.objs.size) { s with heap := s.heap.push { cls := .type "tuple", data := .seq items.toList.reverse.toArray } })
    (hsz : items.size ≤ sizeLine) : wpAny (model prog w) A (getItem (.ref t) (.ref sl)) Q E s := by
  have htake : sizeOk (.seq items.toList.reverse.toArray) := by
    show items.toList.reverse.toArray.size ≤ sizeLine
    rw [List.size_toArray, List.length_reverse, Array.length_toList]
    exact hsz
  obtain ⟨os, hos, hcs, hds⟩ := id hs
  have hTs : s.TypeIs (.ref sl) "slice" := ⟨os, hos, hcs⟩
  unfold getItem
  try with_reducible refine wpAny_holding ?_
  first | refine wpAny_bind (wpAny_pure ?_) | skip
  refine wpAny_bind (wpAny_sequenceKey ht.typeIs (by decide) ?_)
  refine wpAny_bind (wpAny_callSpecial?_slot (name := Str.ofString "__getitem__") ht.typeIs PyProof.Rows.slot_tuple_getitem
    (wpAny_call_entry PyProof.Rows.slot_tuple_getitem ht.typeIs entry_tuple_getitem ?_ (args_tuple_getitem _ _)))
  show wpAny _ _ (Builtin.Tuple.tupleItemsOf (.ref t) >>= _) _ _ s
  refine wpAny_bind (tupleItemsOf_ ht ?_)
  refine wpAny_bind (wpAny_typeOf hTs ?_)
  rw [if_pos (by decide)]
  refine wpAny_bind (sliceApplied_rev hs pl pu ps ?_)
  have hno : ¬ ((((items.size : Int) - 1) == 0 && (-1 : Int) == 1 && items.size == items.size) = true) := by
    rw [show ((-1 : Int) == 1) = false from rfl, Bool.and_false, Bool.false_and]
    exact Bool.false_ne_true
  show wpAny _ _ (if (((items.size : Int) - 1) == 0 && (-1 : Int) == 1 && items.size == items.size) = true then _ else _) _ _ s
  rw [if_neg hno, pick_rev]
  first
    | exact wpAny_bind (m := Builtin.Tuple.tupleExact _) (wpAny_newObj_type (wpAny_pure ⟨_, rfl, wpAny_pure h⟩) htake)
    | exact wpAny_bind (m := Builtin.Tuple.tupleExact _) (wpAny_newObj_type (wpAny_bind (wpAny_pure (wpAny_pure ⟨_, rfl, wpAny_pure h⟩))) htake)
    | exact wpAny_bind (wpAny_bind (m := Builtin.Tuple.tupleExact _) (wpAny_newObj_type (wpAny_pure (wpAny_pure ⟨_, rfl, wpAny_pure h⟩)) htake))
    | exact wpAny_bind (wpAny_bind (m := Builtin.Tuple.tupleExact _) (wpAny_newObj_type (wpAny_pure ⟨_, rfl, wpAny_pure h⟩) htake))
end
def tRevT (K : PySem.W.Frag) (te : TE) : TE := fun σ H Q => te σ H fun x H1 => ∃ a xs, x = .ref a ∧ SqT K H1 a xs ∧ ∀ p, H1 p = none → Q (.ref p) (upd H1 p (.tup xs.reverse))
theorem pe_revT {X : Cx} {e : Expr} {te : TE} {k : Nat} {p1 p2 p3 pos : Pos} (he : PE X e te) : PE X (.Subscript e (.Slice none none (some (.UnaryOp .USub (.Constant (.int 1) k p1) p2)) p3) pos) (tRevT X.K te) := by
  refine ⟨fun pins s σ H Q I h => ?_⟩
  refine Subscript_ (thn (he.run pins s σ H _ I h) fun v s1 ⟨x, H1, I1, r1, q1⟩ => ?_)
  obtain ⟨a, xs, ex, hx, q⟩ := q1
  subst ex
  cases r1
  have hst : PO X (some (.UnaryOp .USub (.Constant (.int 1) k p1) p2)) (tPart (tUn (rU fun i => .int (-i)) (tC (.int 1)))) := po_some (pe_un un_neg pe_int)
  refine wpAny_Slice (thn (po_none.run pins s1 σ H1 (fun o H2 => o = none ∧ H2 = H1) I1 ⟨rfl, rfl⟩) fun vl s2 ⟨l, H2, I2, pl, el, e2⟩ => ?_)
  subst el e2
  refine thn (po_none.run pins s2 σ H2 (fun o H3 => o = none ∧ H3 = H2) I2 ⟨rfl, rfl⟩) fun vu s3 ⟨u, H3, I3, pu, eu, e3⟩ => ?_
  subst eu e3
  refine thn (hst.run pins s3 σ H3 (fun o H4 => o = some (-1) ∧ H4 = H3) I3 ⟨1, rfl, -1, rfl, rfl, rfl⟩) fun vs s4 ⟨o, H4, I4, ps, eo, e4⟩ => ?_
  subst eo e4
  have I5 : Inv X pins σ H4 { s4 with heap := s4.heap.push { cls := .type "slice", data := .fields #[vl, vu, vs] } } := I4.kept (t' := s4.toks) fun b ob q => Heap.get?_push_of_some _ q
  obtain ⟨its, r, ht, hz⟩ := I5.tuple hx
  have hlen := r.length
  show wpAny (model X.prog X.w) X.A (subscriptTail e (.Slice none none (some (.UnaryOp .USub (.Constant (.int 1) k p1) p2)) p3) (.ref a) (.ref s4.heap.objs.size)) (EP X pins σ Q) X.xe { s4 with heap := s4.heap.push { cls := .type "slice", data := .fields #[vl, vu, vs] } }
  refine tail_any (ops := [.ref a, .ref s4.heap.objs.size]) ht.typeIs (PyProof.Rows.slot_tuple_getitem.lookup) ?_ (by with_unfolding_all rfl)
  refine getItem_tuple_rev ht (Heap.IsSliceOf.new _ vl vu vs) pl pu ps ?_ (by rw [List.size_toArray]; omega)
  refine ⟨.ref _, _, I5.laid (t' := s4.toks) (o := .tup xs.reverse) (fun b ob q => Heap.get?_push_of_some _ q) (Nat.le_refl _) ?_, rfl, q _ (I5.hok.fresh (Nat.le_refl _))⟩
  exact ⟨by rw [List.length_reverse]; exact hz, _, r.reverse, IsTup.new _ _⟩
end Ev

/-! ## Data that are not too great -/
namespace Ev
open PySem PySem.Spec PyProof.Rows L2
/-- texts and numbers are short, the depth is at most e -/
def Fi (e : Nat) (d : PyData) : Prop := okS d = true ∧ d.showable = true ∧ d.leavesShort 24 = true ∧ d.depth ≤ e
theorem Fi.mono {e e' : Nat} {d : PyData} (h : Fi e d) (l : e ≤ e') : Fi e' d := ⟨h.1, h.2.1, h.2.2.1, Nat.le_trans h.2.2.2 l⟩
theorem fi_all {e : Nat} : ∀ {ds : List PyData}, (∀ d ∈ ds, Fi e d) → okSs ds = true ∧ PyData.showableAll ds = true ∧ PyData.leavesShortAll 24 ds = true ∧ PyData.depthAll ds ≤ e
  | [], _ => by
    refine ⟨by rw [okSs], by rw [PyData.showableAll], by rw [PyData.leavesShortAll], ?_⟩
    rw [PyData.depthAll]
    exact Nat.zero_le _
  | d :: ds, h => by
    obtain ⟨h1, h2, h3, h4⟩ := h d (List.mem_cons_self ..)
    obtain ⟨k1, k2, k3, k4⟩ := fi_all fun x hx => h x (List.mem_cons_of_mem _ hx)
    refine ⟨by rw [okSs, h1, k1]; rfl, by rw [PyData.showableAll, h2, k2]; rfl, by rw [PyData.leavesShortAll, h3, k3]; rfl, ?_⟩
    rw [PyData.depthAll]
    exact Nat.max_le.mpr ⟨h4, k4⟩
theorem all_fi {e : Nat} : ∀ {ds : List PyData}, okSs ds = true → PyData.showableAll ds = true → PyData.leavesShortAll 24 ds = true → PyData.depthAll ds ≤ e → ∀ d ∈ ds, Fi e d
  | [], _, _, _, _, _, h => nomatch h
  | d :: ds, h1, h2, h3, h4, x, hx => by
    rw [okSs, Bool.and_eq_true] at h1
    rw [PyData.showableAll, Bool.and_eq_true] at h2
    rw [PyData.leavesShortAll, Bool.and_eq_true] at h3
    rw [PyData.depthAll] at h4
    have h4 := Nat.max_le.mp h4
    rcases List.mem_cons.mp hx with rfl | hx
    · exact ⟨h1.1, h2.1, h3.1, h4.1⟩
    · exact all_fi h1.2 h2.2 h3.2 h4.2 x hx
theorem fi_tup {e : Nat} {ds : List PyData} (h : ∀ d ∈ ds, Fi e d) : Fi (e + 1) (.tuple ds) := by
  obtain ⟨k1, k2, k3, k4⟩ := fi_all h
  refine ⟨by rw [okS]; exact k1, by rw [PyData.showable]; exact k2, by rw [PyData.leavesShort]; exact k3, ?_⟩
  rw [PyData.depth]
  omega
theorem fi_lst {e : Nat} {ds : List PyData} (h : ∀ d ∈ ds, Fi e d) : Fi (e + 1) (.list ds) := by
  obtain ⟨k1, k2, k3, k4⟩ := fi_all h
  refine ⟨by rw [okS]; exact k1, by rw [PyData.showable]; exact k2, by rw [PyData.leavesShort]; exact k3, ?_⟩
  rw [PyData.depth]
  omega
theorem fi_inv {e : Nat} {ds : List PyData} (h : Fi e (.tuple ds)) : ∃ e', e = e' + 1 ∧ ∀ d ∈ ds, Fi e' d := by
  obtain ⟨h1, h2, h3, h4⟩ := h
  rw [okS] at h1
  rw [PyData.showable] at h2
  rw [PyData.leavesShort] at h3
  rw [PyData.depth] at h4
  cases e with
  | zero => omega
  | succ e => exact ⟨e, rfl, all_fi h1 h2 h3 (by omega)⟩
theorem wt_app : ∀ ds es : List PyData, PyData.weightAll (ds ++ es) = PyData.weightAll ds + PyData.weightAll es
  | [], es => by
    rw [List.nil_append, PyData.weightAll, Nat.zero_add]
  | d :: ds, es => by
    rw [List.cons_append, PyData.weightAll, PyData.weightAll, wt_app ds es]
    omega
theorem wt_rev : ∀ ds : List PyData, PyData.weightAll ds.reverse = PyData.weightAll ds
  | [] => rfl
  | d :: ds => by
    rw [List.reverse_cons, wt_app, wt_rev ds, PyData.weightAll, PyData.weightAll, PyData.weightAll]
    omega
theorem wt_len : ∀ ds : List PyData, ds.length ≤ PyData.weightAll ds
  | [] => Nat.zero_le _
  | d :: ds => by
    have := wt_len ds
    rw [PyData.weightAll, List.length_cons]
    omega
theorem wt_cut (ds : List PyData) (i : Nat) : PyData.weightAll (ds.take i) + PyData.weightAll (ds.drop i) = PyData.weightAll ds := by
  rw [← wt_app, List.take_append_drop]
theorem wt_one (d : PyData) : PyData.weightAll [d] = d.weight + 1 := by
  rw [PyData.weightAll, PyData.weightAll]
theorem wt_at {ds : List PyData} {i : Nat} {d : PyData} (h : ds[i]? = some d) : PyData.weightAll (ds.take i) + (d.weight + 1) + PyData.weightAll (ds.drop (i + 1)) = PyData.weightAll ds := by
  obtain ⟨hi, e⟩ := List.getElem?_eq_some_iff.mp h
  have z := wt_cut ds i
  rw [List.drop_eq_getElem_cons hi, e, PyData.weightAll] at z
  omega
theorem okD_of {e w : Nat} {d : PyData} (h : Fi e d) (he : e ≤ 64) (hw : d.weight ≤ w) (h2 : 26 * w + 24 ≤ sizeLine) : okD d := by
  have z := PyData.shown_le 24 (by decide) d h.2.2.1
  refine ⟨h.1, h.2.1, Nat.le_trans h.2.2.2 he, ?_⟩
  have y : (24 + 2) * d.weight ≤ 26 * w := Nat.mul_le_mul_left _ hw
  omega
end Ev

/-! ## A thing with one part changed: what its steps give -/
namespace Ev
open PySem PySem.Spec PyProof.Rows L2
theorem newer_bu {B H H' : Hp} {p : Addr} {o : HO} (hp : B p = some o) (h : Bu p H H') : Same (newer B H) (newer B H') := newer_le (fun _ z => z) fun b o' nb e => h b o' (fun z => by
  rw [z, hp] at nb
  cases nb) e
theorem Dm.bu {B H H' : Hp} {p : Addr} {o : HO} (h : Dm B H) (k : Bu p H H') (hp : H' p = some o) : Dm B H' := fun b e => h b (k.dom hp b e)
def cutD (ds : List PyData) (lo hi : Option Int) : List PyData := (ds.drop (HT.sIx ds.length 0 lo)).take (HT.sIx ds.length ds.length hi - HT.sIx ds.length 0 lo)
theorem cut_to (ds : List PyData) {i : Nat} (h : i ≤ ds.length) : cutD ds none (some (i : Nat)) = ds.take i := by
  unfold cutD
  rw [HT.sIx_none, HT.sIx_nat, Nat.min_eq_left h, List.drop_zero, Nat.sub_zero]
theorem cut_from (ds : List PyData) {i : Nat} (h : i ≤ ds.length) : cutD ds (some (i : Nat)) none = ds.drop i := by
  unfold cutD
  rw [HT.sIx_none, HT.sIx_nat, Nat.min_eq_left h]
  exact List.take_of_length_le (by rw [List.length_drop]; exact Nat.le_refl _)
theorem daAll_take {K : PySem.W.Frag} {H : Hp} : ∀ {vs : List V} {ds : List PyData} (n : Nat), DaAll K H vs ds → DaAll K H (vs.take n) (ds.take n)
  | _, _, 0, _ => .nil
  | _, _, _ + 1, .nil => .nil
  | _, _, n + 1, .cons a t => .cons a (daAll_take n t)
theorem daAll_drop {K : PySem.W.Frag} {H : Hp} : ∀ {vs : List V} {ds : List PyData} (n : Nat), DaAll K H vs ds → DaAll K H (vs.drop n) (ds.drop n)
  | _, _, 0, h => h
  | _, _, _ + 1, .nil => .nil
  | _, _, n + 1, .cons _ t => daAll_drop n t
theorem daAll_rev {K : PySem.W.Frag} {H : Hp} : ∀ {vs : List V} {ds : List PyData}, DaAll K H vs ds → DaAll K H vs.reverse ds.reverse
  | _, _, .nil => .nil
  | _, _, .cons a t => by
    rw [List.reverse_cons, List.reverse_cons]
    exact daAll_append a (daAll_rev t)
theorem daAll_mem {K : PySem.W.Frag} {H : Hp} : ∀ {vs : List V} {ds : List PyData}, DaAll K H vs ds → ∀ v ∈ vs, ∃ d ∈ ds, Da K H v d
  | _, _, .nil, _, h => nomatch h
  | _, _, .cons a t, v, h => by
    rcases List.mem_cons.mp h with rfl | h
    · exact ⟨_, List.mem_cons_self .., a⟩
    · obtain ⟨d, h1, h2⟩ := daAll_mem t v h
      exact ⟨d, List.mem_cons_of_mem _ h1, h2⟩
section
variable {K : PySem.W.Frag} {B H0 : Hp} {σ : L2.St} {te tf : TE} {ds es : List PyData} {i : Nat} {a : Addr} {x y : V}
theorem n_sl {tl th : TO} {lo hi : Option Int} (hB : Dm B H0) (hv : σ[i]? = some (some x)) (hd : Da K (newer B H0) x (.tuple ds)) (hz : ds.length ≤ 1000000)
    (h1 : ∀ (H : Hp) (Q : Option Int → Hp → Prop), Q lo H → tl σ H Q) (h2 : ∀ (H : Hp) (Q : Option Int → Hp → Prop), Q hi H → th σ H Q) :
    Gives H0 (tSl (rSlA K) (tVar i) tl th) (gNw K B (.tuple (cutD ds lo hi))) σ := fun H Q s q => by
  have hd := hd.mono (newer_same s)
  refine ⟨_, hv, h1 _ _ (h2 _ _ ?_)⟩
  cases hd with
  | @tup a xs _ hs ha =>
  have hl := daAll_len ha
  refine ⟨a, xs, rfl, seqT_mono newer_in hs, fun e => ?_, fun e r nr => ?_⟩
  · refine q _ _ Same.rfl' ?_
    have z : cutD ds lo hi = ds := by
      unfold cutD
      rw [← hl, e.1, e.2, hl, List.drop_zero, Nat.sub_zero, List.take_length]
    show Da K _ _ (.tuple (cutD ds lo hi))
    rw [z]
    exact .tup hs ha
  · have s2 := same_put (o := .tup (cutV xs lo hi)) nr
    have nB : B r = none := (hB.go s) _ nr
    refine q _ _ s2 (.tup (xs := cutV xs lo hi) (.inl (.inl ?_)) ?_)
    · rw [newer_at nB, upd_same]
    · have z := (daAll_take (HT.sIx xs.length xs.length hi - HT.sIx xs.length 0 lo) (daAll_drop (HT.sIx xs.length 0 lo) ha)).mono (newer_same s2 (B := B))
      unfold cutV cutD
      rw [← hl]
      exact z
theorem cat_val {H : Hp} {Q : VK} (hB : Dm B H) (h1 : Da K (newer B H) x (.tuple ds)) (h2 : Da K (newer B H) y (.tuple es)) (hz : ds.length + es.length ≤ 1000000)
    (q : ∀ H' u, Same H H' → Da K (newer B H') u (.tuple (ds ++ es)) → Q u H') : rCatA K x y H Q := by
  cases h1 with
  | @tup a xs _ hs ha =>
  cases h2 with
  | @tup b ys _ hs' hb =>
  have l1 := daAll_len ha
  have l2 := daAll_len hb
  have y := sizeLine_eq
  refine ⟨a, b, xs, ys, rfl, rfl, seqT_mono newer_in hs, seqT_mono newer_in hs', by omega, fun e => ?_, fun _ e => ?_, fun _ _ r nr => ?_⟩
  · have e2 : ds = [] := List.eq_nil_of_length_eq_zero (by rw [← l1, e]; rfl)
    subst e2
    exact q _ _ Same.rfl' (.tup hs' hb)
  · have e2 : es = [] := List.eq_nil_of_length_eq_zero (by rw [← l2, e]; rfl)
    subst e2
    refine q _ _ Same.rfl' ?_
    rw [List.append_nil]
    exact .tup hs ha
  · have s3 := same_put (o := .tup (xs ++ ys)) nr
    have nB : B r = none := hB _ nr
    refine q _ _ s3 (.tup (.inl (.inl ?_)) ((da_app ha hb).mono (newer_same s3)))
    rw [newer_at nB, upd_same]
theorem n_catA (hB : Dm B H0) (h : Gives H0 te (gNw K B (.tuple ds)) σ) (h' : Gives H0 tf (gNw K B (.tuple es)) σ) (hz : ds.length + es.length ≤ 1000000) :
    Gives H0 (tOp (rCatA K) te tf) (gNw K B (.tuple (ds ++ es))) σ := fun H Q s q =>
  h H _ s fun H1 u s1 g1 => h' H1 _ (s.trans s1) fun H2 u' s2 g2 => by
    have g1 : Da K (newer B H1) u (.tuple ds) := g1
    exact cat_val (((hB.go s).go s1).go s2) (g1.mono (newer_same s2)) g2 hz fun H' u s' hu => q H' u ((s1.trans s2).trans s') hu
end
end Ev

/-! ## A thing with one part changed -/
namespace Ev
open PySem PySem.Spec PyProof.Rows L2
def constD : List PyData := [.none, .bool true, .bool false, .str "", .str "a", .str "A", .str "line", .str "loop", .str "abcdefghi", .tuple [], .list [], .dict [], .int (-1), .int 0, .int 1, .int (10 ^ (12 : Int).toNat + 1), .tuple [.int 0]]
def extraD (d : PyData) : List PyData := [.int (10 ^ (18 : Int).toNat + 1), .list [d], .tuple [d]]
def fiB (d : PyData) : Bool := okS d && (d.showable && (d.leavesShort 24 && (decide (d.depth ≤ 1) && decide (d.weight ≤ 100))))
theorem fiB_ok {d : PyData} (h : fiB d = true) : Fi 1 d ∧ d.weight ≤ 100 := by
  unfold fiB at h
  rw [Bool.and_eq_true, Bool.and_eq_true, Bool.and_eq_true, Bool.and_eq_true] at h
  obtain ⟨h1, h2, h3, h4, h5⟩ := h
  exact ⟨⟨h1, h2, h3, of_decide_eq_true h4⟩, of_decide_eq_true h5⟩
theorem const_fi : constD.all fiB = true := by decide +kernel
theorem big_fi : fiB (.int (10 ^ (18 : Int).toNat + 1)) = true := by decide +kernel
theorem odd_fi {dep : Nat} {d c : PyData} (h : Fi dep d) (hc : c ∈ constD ++ extraD d) : Fi (dep + 1) c ∧ c.weight ≤ 2 * d.weight + 100 := by
  rcases List.mem_append.mp hc with hc | hc
  · have z := fiB_ok (List.all_eq_true.mp const_fi c hc)
    exact ⟨z.1.mono (by omega), by omega⟩
  · rcases List.mem_cons.mp hc with rfl | hc
    · have z := fiB_ok big_fi
      exact ⟨z.1.mono (by omega), by omega⟩
    rcases List.mem_cons.mp hc with rfl | hc
    · refine ⟨fi_lst fun x hx => ?_, ?_⟩
      · rcases List.mem_cons.mp hx with rfl | hx
        · exact h
        · cases hx
      · rw [PyData.weight, wt_one]
        omega
    rcases List.mem_cons.mp hc with rfl | hc
    · refine ⟨fi_tup fun x hx => ?_, ?_⟩
      · rcases List.mem_cons.mp hx with rfl | hx
        · exact h
        · cases hx
      · rw [PyData.weight, wt_one]
        omega
    cases hc
def emptyD : PyData → Bool
  | .tuple [] => true
  | _ => false
section
variable {K : PySem.W.Frag} {H0 : Hp} {σ : L2.St} {i j : Nat} {x : V} {d : PyData}
theorem part_v {m : Int} (h : σ[j]? = some (some (.int m))) : ∀ (H : Hp) (Q : Option Int → Hp → Prop), Q (some m) H → tPart (tVar j) σ H Q := fun H Q q => ⟨_, h, m, rfl, q⟩
theorem part_s {m : Nat} (h : σ[j]? = some (some (.int (m : Nat)))) : ∀ (H : Hp) (Q : Option Int → Hp → Prop), Q (some ((m + 1 : Nat) : Int)) H → tPart (tOp (rI0 fun i j => .int (i + j)) (tVar j) (tC (.int 1))) σ H Q := fun H Q q =>
  ⟨_, h, _, _, rfl, rfl, _, rfl, q⟩
theorem part_n : ∀ (H : Hp) (Q : Option Int → Hp → Prop), Q none H → tNoPart σ H Q := fun H Q q => q
theorem n_listOf {B : Hp} {ds : List PyData} (hB : Dm B H0) (h : σ[i]? = some (some x)) (hd : Da K (newer B H0) x (.tuple ds)) : Gives H0 (tCB (fun xs H Q => ∃ p ys, xs = [.ref p] ∧ (SqL K H p ys ∨ SqT K H p ys) ∧ ∀ l, H l = none → Q (.ref l) (upd H l (.lst ys))) (tCons (tVar i) tNil)) (gNw K B (.list ds)) σ := fun H Q s q => by
  have hd := hd.mono (newer_same s)
  cases hd with
  | @tup a xs _ hs ha =>
  refine ⟨_, h, a, xs, rfl, .inr (seqT_mono newer_in hs), fun r nr => ?_⟩
  have s2 := same_put (o := .lst xs) nr
  refine q _ _ s2 (.lst (.inl (.inl ?_)) (ha.mono (newer_same s2)))
  rw [newer_at ((hB.go s) _ nr), upd_same]
theorem n_revT {B : Hp} {ds : List PyData} (hB : Dm B H0) (h : σ[i]? = some (some x)) (hd : Da K (newer B H0) x (.tuple ds)) : Gives H0 (tRevT K (tVar i)) (gNw K B (.tuple ds.reverse)) σ := fun H Q s q => by
  have hd := hd.mono (newer_same s)
  cases hd with
  | @tup a xs _ hs ha =>
  refine ⟨_, h, a, xs, rfl, seqT_mono newer_in hs, fun r nr => ?_⟩
  have s2 := same_put (o := .tup xs.reverse) nr
  refine q _ _ s2 (.tup (.inl (.inl ?_)) ((daAll_rev ha).mono (newer_same s2)))
  rw [newer_at ((hB.go s) _ nr), upd_same]
theorem t_odd {r : Int} (h : σ[i]? = some (some x)) (hd : Da K H0 x d) (h2 : σ[j]? = some (some (.int r))) : GivesT H0 (tOr (tNot (tB (tIsT K "tuple" i))) (tOr (tTest (tOp (rEqT0 K) (tVar i) (tTup tNil))) (tTest (tOp rEq (tVar j) (tC (.int 0))))))
    (!isD "tuple" d || (emptyD d || decide (r = 0))) σ := by
  by_cases ht : ∃ ds, d = .tuple ds
  · obtain ⟨ds, rfl⟩ := ht
    refine t_or (t_not (t_isT h hd)) fun _ => t_or ?_ fun _ => t_eqI h2
    intro H Q s q
    have hd := hd.mono s
    cases hd with
    | @tup a xs _ hs ha =>
    have hl := daAll_len ha
    have z : emptyD (.tuple ds) = decide (xs = []) := by
      cases ds with
      | nil =>
        have : xs = [] := List.eq_nil_of_length_eq_zero hl
        subst this
        rfl
      | cons d ds =>
        cases xs with
        | nil => cases hl
        | cons v vs => rfl
    refine ⟨_, h, Nat.zero_le _, fun r nr => ⟨a, r, xs, rfl, rfl, seqT_mono (same_put nr) hs, .inl (.inl upd_same), _, rfl, ?_⟩⟩
    rw [← z]
    exact q _ (same_put nr)
  · have e0 : isD "tuple" d = false := by
      rw [isD_tuple]
      cases d <;> first | rfl | exact absurd ⟨_, rfl⟩ ht
    have t1 := t_not (t_isT (K := K) (T := "tuple") h hd)
    refine t_or t1 fun e => ?_
    rw [e0] at e
    cases e
end
theorem s_retO {H0 : Hp} {σ : L2.St} {te tf : TE} {r : R2} {G : GP} {D : Ends} (h : Gives H0 te G σ) (k : ∀ H' u, Same H0 H' → G.p H' u → tf σ H' fun y H2 => r u y H2 D.rt) : tRet (tOp r te tf) D σ H0 :=
  h H0 _ Same.rfl' k
theorem s_retO2 {H0 : Hp} {σ : L2.St} {te tf tg : TE} {r r' : R2} {G : GP} {D : Ends} (h : Gives H0 te G σ) (k : ∀ H' u, Same H0 H' → G.p H' u → tf σ H' fun y H2 => r' u y H2 fun z H3 => tg σ H3 fun y' H4 => r z y' H4 D.rt) : tRet (tOp r (tOp r' te tf) tg) D σ H0 :=
  h H0 _ Same.rfl' k
def spOdd (K : PySem.W.Frag) (dep : Nat) : Sp := fun vs H Q _ => ∃ (p : Addr) (x : V) (xs : List V) (d : PyData) (n : Nat) (B : Hp) (o : HO), vs = [.ref p, x] ∧ H p = some (.lst xs) ∧ PotL n xs ∧ n + 3 * dep + 3 ≤ 1000000 ∧ B p = some o ∧ Dm B H ∧
  Da K (newer B H) x d ∧ Fi dep d ∧ d.weight ≤ 100000 ∧
  ∀ (H' : Hp) (ys : List V) (u : V) (d' : PyData) (n' : Nat), Bu p H H' → H' p = some (.lst ys) → PotL n' ys → n' ≤ n + 3 * dep + 3 → Da K (newer B H') u d' → Fi (dep + 1) d' → d'.weight ≤ 2 * d.weight + 100 → Q u H'
theorem scOd : FnScope ["_law_pot_here", "_law_thing", "_law_way", "_law_some", "_law_at"] ["_law_pot_here", "_law_thing"] (defScope (topS 20)) := ⟨rfl, rfl, rfl, by decide +kernel, rfl, by decide +kernel, by decide +kernel⟩
section
variable {P : Program} {w : World} {K : PySem.W.Frag} {mg : Str → Option Value} {base : Heap} {f fT fO : Addr} {fd fdT fdO : FuncData}
theorem od_step {k dep : Nat} {spR : Sp} (F : Fun K "_law_odd" "_law_odd" (topS 20) f fd) (GT : FnOk P w K mg base CX0 1 fT fdT ["_law_pot_here", "_law_many"] spTake) (bT : Binds K fdT ["_law_pot_here", "_law_many"] []) (gT : mg "_law_take" = some (.ref fT)) (kT : PySem.W.keepIn K (.ref fT) = true)
    (GO : FnOk P w K mg base CX0 2 fO fdO ["_law_pot_here", "_law_some"] (spOf K)) (bO : Binds K fdO ["_law_pot_here", "_law_some"] []) (gO : mg "_law_of" = some (.ref fO)) (kO : PySem.W.keepIn K (.ref fO) = true)
    (GR : FnOk P w K mg base CX0 k f fd ["_law_pot_here", "_law_thing"] spR) (bR : Binds K fd ["_law_pot_here", "_law_thing"] []) (gR : mg "_law_odd" = some (.ref f)) (kR : PySem.W.keepIn K (.ref f) = true)
    (hk : 2 ≤ k) (hR : dep = 0 ∨ ∃ d, dep = d + 1 ∧ spR = spOdd K d) (mI : mg "isinstance" = none) (mt : mg "tuple" = none) (ml : mg "len" = none) (mL : mg "list" = none) :
    FnOk P w K mg base CX0 (k + 1) f fd ["_law_pot_here", "_law_thing"] (spOdd K dep) := by
  refine F.ok scOd (fun vs H Q E h => ?_) (fun cdv A outer s H vs Q E hr h => ?_)
  · obtain ⟨p, x, xs, d, n, B, o, rfl, _⟩ := h
    rfl
  · obtain ⟨p, x, xs, d, n, B, o, rfl, hp, hx, hn, hBp, hB, hd, hF, hw, q⟩ := h
    have hr1 : Room 1 _ := hr.mono (show 1 ≤ k by omega)
    have hr2 : Room 2 _ := hr.mono (show 2 ≤ k by omega)
    have hu : (A.deeper (envOfC "_law_odd" (defScope (topS 20)) s.heap.objs.size f cdv)).units < cLine := hr.units0
    refine ⟨_, (pss_cons (ps_set (i := 2) scOd.nd rfl (.inl rfl) (pe_call GT hr1 (by rfl) gT kT bT .nil pass0 (pa_cons (pv 0) (pa_cons pe_int pa_nil)))) (pss_cons (ps_if (PW.pt (pw_or (pt_not (pt_val (pe_isT (.inr (.inr (.inl rfl))) mI (fun _ => pv 1) (fun _ => ty_of rfl mt (by decide +kernel))))) (pw_or (pt_cmpR (op_eqT0 hu) (pv 1) (pe_tup pa_nil) (nomark _)) (pw_or1 (pt_cmpR op_eq (pv 2) pe_int (nomark _)))))) (pss_cons (ps_set (i := 3) scOd.nd rfl (.inl rfl) (pe_lst (pa_cons pe_non (pa_cons pe_bl (pa_cons pe_bl (pa_cons pe_str (pa_cons pe_str (pa_cons pe_str (pa_cons pe_str (pa_cons pe_str (pa_cons pe_str (pa_cons (pe_tup pa_nil) (pa_cons (pe_lst pa_nil) (pa_cons pe_dnewK (pa_cons (pe_un un_neg pe_int) (pa_cons pe_int (pa_cons pe_int (pa_cons (pe_op op_add (pe_op op_pow pe_int pe_int) pe_int) (pa_cons (pe_tup (pa_cons pe_int pa_nil)) pa_nil))))))))))))))))))) (pss_one (ps_ret (pe_call GO hr2 (by rfl) gO kO bO .nil pass0 (pa_cons (pv 0) (pa_cons (pe_op op_cat (pv 3) (pe_lst (pa_cons (pe_op op_add (pe_op op_pow pe_int pe_int) pe_int) (pa_cons (pe_lst (pa_cons (pv 1) pa_nil)) (pa_cons (pe_tup (pa_cons (pv 1) pa_nil)) pa_nil))))) pa_nil)))))) pss_nil) (pss_cons (ps_set (i := 4) scOd.nd rfl (.inl rfl) (pe_call GT hr1 (by rfl) gT kT bT .nil pass0 (pa_cons (pv 0) (pa_cons (pe_callB call_len_seq (by rfl) ml PySem.boot_len (pa_cons (pv 1) pa_nil)) pa_nil)))) (pss_cons (ps_if (pt_cmpR op_eq (pv 2) pe_int (nomark _)) (pss_one (ps_ret (pe_op op_catA (pe_slice sl_tupA (pv 1) po_none (po_some (pv 4))) (pe_slice sl_tupA (pv 1) (po_some (pe_op op_add (pv 4) pe_int)) po_none)))) pss_nil) (pss_cons (ps_if (pt_cmpR op_eq (pv 2) pe_int (nomark _)) (pss_one (ps_ret (pe_op op_catA (pe_slice sl_tupA (pv 1) po_none (po_some (pe_op op_add (pv 4) pe_int))) (pe_slice sl_tupA (pv 1) (po_some (pv 4)) po_none)))) pss_nil) (pss_cons (ps_if (pt_cmpR op_eq (pv 2) pe_int (nomark _)) (pss_one (ps_ret (pe_ix ix_list (pe_lst (pa_cons (pe_callTy call_list_of (by rfl) mL (by decide +kernel) (pa_cons (pv 1) pa_nil)) (pa_cons (pe_revT (pv 1)) pa_nil))) (pe_call GT hr1 (by rfl) gT kT bT .nil pass0 (pa_cons (pv 0) (pa_cons pe_int pa_nil))) (fun _ _ => rfl)))) pss_nil) (pss_one (ps_ret (pe_op op_catA (pe_op op_catA (pe_slice sl_tupA (pv 1) po_none (po_some (pv 4))) (pe_tup (pa_cons (pe_call GR hr (by rfl) gR kR bR .nil pass0 (pa_cons (pv 0) (pa_cons (pe_ix ix_tup (pv 1) (pv 4) (fun _ _ => rfl)) pa_nil))) pa_nil))) (pe_slice sl_tupA (pv 1) (po_some (pe_op op_add (pv 4) pe_int)) po_none)))))))))), ?_⟩
    refine ⟨_, rfl, p, xs, 8, n, rfl, hp, hx, by omega, by decide, by decide, fun H1 ys1 wy hb1 hp1 hY1 w0 w1 => ?_⟩
    have dm1 : Dm B H1 := hB.bu hb1 hp1
    have hd1 : Da K (newer B H1) x d := hd.mono (newer_bu hBp hb1)
    refine s_ifB (t_odd (K := K) (i := 1) (j := 2) (x := x) (d := d) (r := wy) rfl (hd1.mono newer_in) rfl) (fun e H2 s2 => ?_) (fun e H2 s2 => ?_)
    · have dm2 := dm1.go s2
      have hd2 := hd1.mono (newer_same s2)
      have c1 : Gives H2 _ (gNl K B constD) [some (.ref p), some x, some (.int wy), none, none] := n_lstL (ds := constD) dm2 (g_cons n_non (g_cons n_bl (g_cons n_bl (g_cons n_str (g_cons n_str (g_cons n_str (g_cons n_str (g_cons n_str (g_cons n_str (g_cons (n_tup (ds := []) dm2 g_nil) (g_cons (n_lst (ds := []) dm2 g_nil) (g_cons (n_dnew dm2) (g_cons n_neg (g_cons n_int (g_cons n_int (g_cons (n_powAdd ⟨by decide, by decide, by decide⟩) (g_cons (n_tup (ds := [.int 0]) dm2 (g_cons n_int g_nil)) g_nil))))))))))))))))) (by decide)
      refine s_set c1 fun H3 u3 s3 g3 => ?_
      have dm3 := dm2.go s3
      have hd3 := hd2.mono (newer_same s3)
      have c2 : Gives H3 _ (gNl K B (constD ++ extraD d)) [some (.ref p), some x, some (.int wy), some u3, none] := n_catL dm3 (g_var (i := 3) rfl g3) (n_lstL (ds := extraD d) dm3 (g_cons (n_powAdd ⟨by decide, by decide, by decide⟩) (g_cons (n_lst (ds := [d]) dm3 (g_cons (n_var (i := 1) rfl hd3) g_nil)) (g_cons (n_tup (ds := [d]) dm3 (g_cons (n_var (i := 1) rfl hd3) g_nil)) g_nil))) (by show 3 ≤ 1000; decide)) (by show 20 ≤ 1000; decide)
      refine ⟨_, rfl, c2 H3 _ Same.rfl' fun H4 u4 s4 g4 => ?_⟩
      obtain ⟨q4, us, rfl, h4, n4, da4⟩ := g4
      have hl := daAll_len da4
      have hlen : us.length = 20 := hl
      have npq : p ≠ q4 := fun z => by
        rw [← z, hBp] at n4
        cases n4
      have hp4 : H4 p = some (.lst ys1) := s4 _ _ (s3 _ _ (s2 _ _ hp1))
      refine ⟨p, q4, ys1, us, n + 1, rfl, hp4, hY1, by omega, npq, .inl (.inl h4), ne_of (by omega), by omega, fun H5 ys5 v hb5 hp5 hY5 hv => ?_⟩
      obtain ⟨c, hc, hdc⟩ := daAll_mem da4 v hv
      have z := odd_fi hF hc
      exact q H5 ys5 v c (n + 2) (hb1.trans ((Bu.of ((s2.trans s3).trans s4)).trans hb5)) hp5 hY5 (by omega) (hdc.mono (newer_bu hBp hb5)) z.1 z.2
    · obtain ⟨ds, rfl⟩ : ∃ ds, d = .tuple ds := by
        rw [isD_tuple] at e
        cases d <;> first | exact ⟨_, rfl⟩ | simp at e
      obtain ⟨e', rfl, hFd⟩ := fi_inv hF
      obtain rfl : spR = spOdd K e' := by
        rcases hR with h | ⟨z, h1, h2⟩
        · omega
        · have : z = e' := by omega
          rw [h2, this]
      have hne : ds ≠ [] := fun z => by
        rw [z] at e
        have : emptyD (.tuple []) = true := rfl
        rw [this, Bool.true_or, Bool.or_true] at e
        cases e
      have hlen0 : 0 < ds.length := List.length_pos_iff.mpr hne
      have hwl : PyData.weightAll ds ≤ 100000 := by
        rw [PyData.weight] at hw
        exact hw
      have hll := wt_len ds
      have hW : (PyData.tuple ds).weight = PyData.weightAll ds := by rw [PyData.weight]
      rw [hW] at q
      have dm2 := dm1.go s2
      have hd2 := hd1.mono (newer_same s2)
      obtain ⟨a, rfl⟩ : ∃ a, x = .ref a := by
        cases hd2
        exact ⟨_, rfl⟩
      have hp2 : H2 p = some (.lst ys1) := s2 _ _ hp1
      have hb2 : Bu p H H2 := hb1.trans (Bu.of s2)
      have lenT := hd2
      cases lenT with
      | @tup _ zs _ hzs hza =>
      have hzl := daAll_len hza
      have hlog : (1 : Int) ≤ ((zs.length : Nat) : Int) := by omega
      have hlog2 : ((zs.length : Nat) : Int) ≤ 10 ^ 18 := by omega
      refine ⟨_, rfl, _, rfl, a, zs, rfl, .inr (seqT_mono newer_in hzs), p, ys1, ((zs.length : Nat) : Int), n + 1, rfl, hp2, hY1, by omega, by omega, log_le hlog hlog2, fun H3 ys3 at_ hb3 hp3 hY3 a0 a1 => ?_⟩
      obtain ⟨m, rfl⟩ : ∃ m : Nat, at_ = (m : Nat) := ⟨at_.toNat, by omega⟩
      have hm : m < ds.length := by omega
      have dm3 : Dm B H3 := dm2.bu hb3 hp3
      have hd3 : Da K (newer B H3) (.ref a) (.tuple ds) := hd2.mono (newer_bu hBp hb3)
      have hb03 : Bu p H H3 := hb2.trans hb3
      obtain ⟨dv, hdv⟩ : ∃ dv, ds[m]? = some dv := ⟨_, List.getElem?_eq_getElem hm⟩
      have wat := wt_at hdv
      have t1 := wt_cut ds m
      have t2 := wt_cut ds (m + 1)
      have fin : ∀ (es : List PyData) (H' : Hp) (u : V), Same H3 H' → Da K (newer B H') u (.tuple es) → (∀ c ∈ es, c ∈ ds) → PyData.weightAll es ≤ 2 * PyData.weightAll ds + 100 → Q u H' := fun es H' u s' hu hmem hwt =>
        q H' ys3 u (.tuple es) (n + 2) (hb03.trans (Bu.of s')) (s' _ _ hp3) hY3 (by omega) hu ((fi_tup fun c hc => hFd c (hmem c hc)).mono (by omega)) (by rw [PyData.weight]; exact hwt)
      refine s_ifB (t_eqI (i := 2) rfl) (fun _ H4 s4 => ?_) (fun _ H4 s4 => ?_)
      · have dm4 := dm3.go s4
        have hd4 := hd3.mono (newer_same s4)
        have key : Gives H4 _ (gNw K B (.tuple (cutD ds none (some (m : Nat)) ++ cutD ds (some ((m + 1 : Nat) : Int)) none))) [some (.ref p), some (.ref a), some (.int wy), none, some (.int (m : Nat))] :=
          n_catA dm4 (n_sl (i := 1) dm4 rfl hd4 (by omega) part_n (part_v (j := 4) rfl)) (n_sl (i := 1) dm4 rfl hd4 (by omega) (part_s (j := 4) rfl) part_n) (by rw [cut_to ds (by omega), cut_from ds (by omega), List.length_take, List.length_drop]; omega)
        rw [cut_to ds (by omega), cut_from ds (by omega)] at key
        refine s_ret key fun H5 u s5 g5 => fin _ H5 u (s4.trans s5) g5 (fun c hc => ?_) (by rw [wt_app]; omega)
        rcases List.mem_append.mp hc with hc | hc
        · exact List.mem_of_mem_take hc
        · exact List.mem_of_mem_drop hc
      refine s_ifB (t_eqI (i := 2) rfl) (fun _ H5 s5 => ?_) (fun _ H5 s5 => ?_)
      · have dm4 := (dm3.go s4).go s5
        have hd4 := hd3.mono (newer_same (s4.trans s5))
        have key : Gives H5 _ (gNw K B (.tuple (cutD ds none (some ((m + 1 : Nat) : Int)) ++ cutD ds (some (m : Nat)) none))) [some (.ref p), some (.ref a), some (.int wy), none, some (.int (m : Nat))] :=
          n_catA dm4 (n_sl (i := 1) dm4 rfl hd4 (by omega) part_n (part_s (j := 4) rfl)) (n_sl (i := 1) dm4 rfl hd4 (by omega) (part_v (j := 4) rfl) part_n) (by rw [cut_to ds (by omega), cut_from ds (by omega), List.length_take, List.length_drop]; omega)
        rw [cut_to ds (by omega), cut_from ds (by omega)] at key
        refine s_ret key fun H6 u s6 g6 => fin _ H6 u ((s4.trans s5).trans s6) g6 (fun c hc => ?_) (by rw [wt_app]; omega)
        rcases List.mem_append.mp hc with hc | hc
        · exact List.mem_of_mem_take hc
        · exact List.mem_of_mem_drop hc
      refine s_ifB (t_eqI (i := 2) rfl) (fun _ H6 s6 => ?_) (fun _ H6 s6 => ?_)
      · have dm4 := ((dm3.go s4).go s5).go s6
        have hd4 := hd3.mono (newer_same ((s4.trans s5).trans s6))
        have key : Gives H6 _ (gNl K B [.list ds, .tuple ds.reverse]) [some (.ref p), some (.ref a), some (.int wy), none, some (.int (m : Nat))] :=
          n_lstL (ds := [.list ds, .tuple ds.reverse]) dm4 (g_cons (n_listOf (K := K) (i := 1) dm4 rfl hd4) (g_cons (n_revT (K := K) (i := 1) dm4 rfl hd4) g_nil)) (by show 2 ≤ 1000; decide)
        refine s_retO key fun H7 u7 s7 g7 => ?_
        obtain ⟨q7, us, rfl, h7, n7, da7⟩ := g7
        have hl7 := daAll_len da7
        have hlen : us.length = 2 := hl7
        have s37 := ((s4.trans s5).trans s6).trans s7
        have npq : q7 ≠ p := fun z => by
          rw [z, hBp] at n7
          cases n7
        refine ⟨_, rfl, p, ys3, 2, n + 2, rfl, s37 _ _ hp3, hY3, by omega, by decide, by decide, fun H8 ys8 r hb8 hp8 hY8 r0 r1 => ?_⟩
        have hr8 : r.toNat < us.length := by omega
        have g : atI us r = some us[r.toNat] := by
          have y := atI_nat (List.getElem?_eq_getElem hr8)
          rw [Int.toNat_of_nonneg r0] at y
          exact y
        refine ⟨q7, us, r, _, rfl, rfl, .inl (.inl (hb8 _ _ npq h7)), g, ?_⟩
        obtain ⟨c, hc, hdc⟩ := daAll_mem da7 _ (List.getElem_mem hr8)
        have hcF : Fi (e' + 1 + 1) c ∧ c.weight ≤ 2 * PyData.weightAll ds + 100 := by
          rcases List.mem_cons.mp hc with rfl | hc
          · exact ⟨(fi_lst hFd).mono (by omega), by rw [PyData.weight]; omega⟩
          rcases List.mem_cons.mp hc with rfl | hc
          · exact ⟨(fi_tup fun c hc => hFd c (List.mem_reverse.mp hc)).mono (by omega), by rw [PyData.weight, wt_rev]; omega⟩
          cases hc
        exact q H8 ys8 _ c (n + 3) (hb03.trans ((Bu.of s37).trans hb8)) hp8 hY8 (by omega) (hdc.mono (newer_bu hBp hb8)) hcF.1 hcF.2
      have s36 := (s4.trans s5).trans s6
      have dm6 := dm3.go s36
      have hd6 := hd3.mono (newer_same s36)
      have k1 : Gives H6 _ (gNw K B (.tuple (cutD ds none (some (m : Nat))))) [some (.ref p), some (.ref a), some (.int wy), none, some (.int (m : Nat))] := n_sl (i := 1) dm6 rfl hd6 (by omega) part_n (part_v (j := 4) rfl)
      rw [cut_to ds (by omega)] at k1
      refine s_retO2 k1 fun H7 u7 s7 g7 => ?_
      have dm7 := dm6.go s7
      have hd7 := hd6.mono (newer_same s7)
      have hp7 : H7 p = some (.lst ys3) := s7 _ _ (s36 _ _ hp3)
      cases hd7' : hd7 with
      | @tup _ vs7 _ hs7 ha7 =>
      have hl7 := daAll_len ha7
      have hm7 : m < vs7.length := by omega
      have g : atI vs7 ((m : Nat) : Int) = some vs7[m] := atI_nat (List.getElem?_eq_getElem hm7)
      obtain ⟨dv', e1, hdv7⟩ := daAll_get ha7 (List.getElem?_eq_getElem hm7)
      obtain rfl : dv' = dv := by
        rw [hdv] at e1
        exact (Option.some.inj e1).symm
      refine ⟨_, rfl, _, rfl, _, rfl, a, vs7, ((m : Nat) : Int), vs7[m], rfl, rfl, seqT_mono newer_in hs7, g, p, vs7[m], ys3, dv', n + 2, B, o, rfl, hp7, hY3, by omega, hBp, dm7, hdv7, hFd _ (List.mem_of_getElem? hdv), by omega, fun H8 ys8 u8 d8 n8 hb8 hp8 hY8 hn8 hd8 hF8 hw8 => ?_⟩
      refine ⟨(by show 1 ≤ sizeLine; decide), fun r nr => ?_⟩
      have s9 := same_put (o := .tup [u8]) nr
      have dm8 : Dm B H8 := dm7.bu hb8 hp8
      have dm9 := dm8.go s9
      have g7 : Da K (newer B H7) u7 (.tuple (ds.take m)) := g7
      have c1 := (g7.mono (newer_bu hBp hb8)).mono (newer_same s9)
      have c2 : Da K (newer B (upd H8 r (.tup [u8]))) (.ref r) (.tuple [d8]) := by
        refine .tup (xs := [u8]) (.inl (.inl ?_)) (.cons (hd8.mono (newer_same s9)) .nil)
        rw [newer_at (dm8 _ nr), upd_same]
      refine cat_val dm9 c1 c2 (by rw [List.length_take]; show _ + 1 ≤ _; omega) fun H10 u10 s10 h10 => ?_
      have dm10 := dm9.go s10
      have hd10 := ((hd7.mono (newer_bu hBp hb8)).mono (newer_same s9)).mono (newer_same s10)
      have k2 : Gives H10 _ (gNw K B (.tuple (cutD ds (some ((m + 1 : Nat) : Int)) none))) [some (.ref p), some (.ref a), some (.int wy), none, some (.int (m : Nat))] := n_sl (i := 1) dm10 rfl hd10 (by omega) (part_s (j := 4) rfl) part_n
      rw [cut_from ds (by omega)] at k2
      refine k2 H10 _ Same.rfl' fun H11 u11 s11 g11 => ?_
      refine cat_val (dm10.go s11) (h10.mono (newer_same s11)) g11 (by rw [List.length_append, List.length_take, List.length_drop]; show _ + 1 + _ ≤ _; omega) fun H12 u12 s12 h12 => ?_
      have sAll := ((s9.trans s10).trans s11).trans s12
      refine q H12 ys8 u12 _ n8 (hb03.trans ((Bu.of (s36.trans s7)).trans (hb8.trans (Bu.of sAll)))) (sAll _ _ hp8) hY8 (by omega) h12 (fi_tup fun c hc => ?_) ?_
      · rcases List.mem_append.mp hc with hc | hc
        · rcases List.mem_append.mp hc with hc | hc
          · exact (hFd c (List.mem_of_mem_take hc)).mono (by omega)
          · rcases List.mem_cons.mp hc with rfl | hc
            · exact hF8
            · cases hc
        · exact (hFd c (List.mem_of_mem_drop hc)).mono (by omega)
      · rw [PyData.weight, wt_app, wt_app, wt_one]
        omega
/-- at every depth -/
theorem ok_od (F : Fun K "_law_odd" "_law_odd" (topS 20) f fd) (GT : FnOk P w K mg base CX0 1 fT fdT ["_law_pot_here", "_law_many"] spTake) (bT : Binds K fdT ["_law_pot_here", "_law_many"] []) (gT : mg "_law_take" = some (.ref fT)) (kT : PySem.W.keepIn K (.ref fT) = true)
    (GO : FnOk P w K mg base CX0 2 fO fdO ["_law_pot_here", "_law_some"] (spOf K)) (bO : Binds K fdO ["_law_pot_here", "_law_some"] []) (gO : mg "_law_of" = some (.ref fO)) (kO : PySem.W.keepIn K (.ref fO) = true)
    (bR : Binds K fd ["_law_pot_here", "_law_thing"] []) (gR : mg "_law_odd" = some (.ref f)) (mI : mg "isinstance" = none) (mt : mg "tuple" = none) (ml : mg "len" = none) (mL : mg "list" = none) :
    ∀ dep : Nat, FnOk P w K mg base CX0 (dep + 3) f fd ["_law_pot_here", "_law_thing"] (spOdd K dep)
  | 0 => od_step (k := 2) F GT bT gT kT GO bO gO kO no_fn bR gR F.kp (Nat.le_refl 2) (.inl rfl) mI mt ml mL
  | n + 1 => od_step (k := n + 3) F GT bT gT kT GO bO gO kO (ok_od F GT bT gT kT GO bO gO kO bR gR mI mt ml mL n) bR gR F.kp (by omega) (.inr ⟨n, rfl, rfl⟩) mI mt ml mL
end
end Ev

/-! ## The sizes of what is asked about -/
namespace Ev
open PySem PySem.Spec PyProof.Rows L2
def fiC (e w : Nat) (d : PyData) : Bool := okS d && (d.showable && (d.leavesShort 24 && (decide (d.depth ≤ e) && decide (d.weight ≤ w))))
theorem fiC_ok {e w : Nat} {d : PyData} (h : fiC e w d = true) : Fi e d ∧ d.weight ≤ w := by
  unfold fiC at h
  rw [Bool.and_eq_true, Bool.and_eq_true, Bool.and_eq_true, Bool.and_eq_true] at h
  obtain ⟨h1, h2, h3, h4, h5⟩ := h
  exact ⟨⟨h1, h2, h3, of_decide_eq_true h4⟩, of_decide_eq_true h5⟩
theorem lim_fi : limD.all (fiC 20 10000) = true := by decide +kernel
def restD : List PyData := [.none, .bool true, .int 0, .str "", .tuple [], .list [], .dict []]
theorem rest_fi : restD.all (fiC 20 10000) = true := by decide +kernel
/-- names as drawn -/
theorem pool_fi : pool8.all (fun x => fiC 0 8 (.str x)) = true := by decide +kernel
theorem int_fi {t : Int} (h0 : 1 ≤ t) (h1 : t ≤ 9) : Fi 0 (.int t) ∧ (PyData.int t).weight ≤ 4 := by
  have z : ∀ k : Fin 10, fiC 0 4 (.int (k.val : Nat)) = true := by decide +kernel
  have y := fiC_ok (z ⟨t.toNat, by omega⟩)
  have e : ((t.toNat : Nat) : Int) = t := by omega
  simp only [e] at y
  exact y
def itW : Nat → Nat
  | 0 => 30
  | n + 1 => 30 + 3 * (itW n + 1)
theorem its_wt {ns : List Str} {n W : Nat} (h : ∀ i : It, Wf ns 9 n i → i.d.weight ≤ W) : ∀ is : List It, (∀ i ∈ is, Wf ns 9 n i) → PyData.weightAll (is.map It.d) ≤ is.length * (W + 1)
  | [], _ => Nat.zero_le _
  | i :: is, hw => by
    have z := its_wt h is fun x hx => hw x (List.mem_cons_of_mem _ hx)
    have y := h i (hw i (List.mem_cons_self ..))
    rw [List.map_cons, PyData.weightAll, List.length_cons, Nat.succ_mul]
    omega
theorem it_fi {ns : List Str} (hn : ∀ x ∈ ns, x ∈ pool8) : ∀ (n : Nat) (i : It), Wf ns 9 n i → Fi (2 * n + 1) i.d ∧ i.d.weight ≤ itW n := by
  have line : ∀ (n : Nat) (x : Str) (t : Int), Wf ns 9 n (.line x t) → Fi 1 (It.d (.line x t)) ∧ (It.d (.line x t)).weight ≤ 30 := by
    intro n x t h
    have h : x ∈ ns ∧ 1 ≤ t ∧ t ≤ 9 := by
      cases n <;> exact h
    have a := fiC_ok (List.all_eq_true.mp pool_fi x (hn x h.1))
    have b := int_fi h.2.1 h.2.2
    have c : Fi 0 (.str "line") ∧ (PyData.str "line").weight ≤ 4 := fiC_ok (by decide +kernel)
    rw [It.d]
    refine ⟨fi_tup fun y hy => ?_, ?_⟩
    · rcases List.mem_cons.mp hy with rfl | hy
      · exact c.1
      rcases List.mem_cons.mp hy with rfl | hy
      · exact a.1
      rcases List.mem_cons.mp hy with rfl | hy
      · exact b.1
      cases hy
    · rw [PyData.weight, PyData.weightAll, PyData.weightAll, PyData.weightAll, PyData.weightAll]
      omega
  intro n
  induction n with
  | zero =>
    intro i h
    cases i with
    | line x t => exact line 0 x t h
    | loop r is => exact h.elim
  | succ n ih =>
    intro i h
    cases i with
    | line x t =>
      have z := line (n + 1) x t h
      refine ⟨z.1.mono (by omega), ?_⟩
      show _ ≤ 30 + 3 * (itW n + 1)
      omega
    | loop r is =>
      obtain ⟨h1, h2, h3, h4, h5⟩ : 1 ≤ r ∧ r ≤ 9 ∧ 1 ≤ is.length ∧ is.length ≤ 3 ∧ ∀ i ∈ is, Wf ns 9 n i := h
      have b := int_fi h1 h2
      have c : Fi 0 (.str "loop") ∧ (PyData.str "loop").weight ≤ 4 := fiC_ok (by decide +kernel)
      have wt := its_wt (fun i hi => (ih i hi).2) is h5
      have fi : Fi (2 * n + 1 + 1) (.tuple (is.map It.d)) := fi_tup fun y hy => by
        obtain ⟨i, hi, rfl⟩ := List.mem_map.mp hy
        exact (ih i (h5 i hi)).1
      rw [It.d, Its.d_map]
      refine ⟨?_, ?_⟩
      · have := fi_tup (e := 2 * n + 2) (ds := [.str "loop", .int r, .tuple (is.map It.d)]) fun y hy => by
          rcases List.mem_cons.mp hy with rfl | hy
          · exact c.1.mono (by omega)
          rcases List.mem_cons.mp hy with rfl | hy
          · exact b.1.mono (by omega)
          rcases List.mem_cons.mp hy with rfl | hy
          · exact fi
          cases hy
        exact this
      · have hm : is.length * (itW n + 1) ≤ 3 * (itW n + 1) := Nat.mul_le_mul_right _ h4
        rw [PyData.weight, PyData.weightAll, PyData.weightAll, PyData.weightAll, PyData.weightAll]
        rw [show (PyData.tuple (is.map It.d)).weight = PyData.weightAll (is.map It.d) by rw [PyData.weight]]
        show _ ≤ 30 + 3 * (itW n + 1)
        omega
end Ev

/-! ## The law -/
namespace Ev
open PySem PySem.Spec PyProof.Rows L2
theorem Gives.imp {H0 : Hp} {te : TE} {G G' : GP} {σ : L2.St} (h : Gives H0 te G σ) (i : ∀ H u, Same H0 H → G.p H u → G'.p H u) : Gives H0 te G' σ := fun H Q s q =>
  h H _ s fun H1 u s1 g => q H1 u s1 (i H1 u (s.trans s1) g)
/-- a list of such data, standing anywhere -/
def gOl (K : PySem.W.Frag) (B : Hp) (ds : List PyData) : GP := ⟨fun H u => ∃ a us, u = .ref a ∧ H a = some (.lst us) ∧ DaAll K (newer B H) us ds,
  fun s ⟨a, us, h1, h2, h4⟩ => ⟨a, us, h1, s _ _ h2, h4.mono (newer_same s)⟩⟩
/-- a new list of such data, none of which holds it -/
def gXl (K : PySem.W.Frag) (B H0 : Hp) (ds : List PyData) : GP := ⟨fun H u => ∃ a us, u = .ref a ∧ H a = some (.lst us) ∧ H0 a = none ∧ DaAll K (newer (upd B a (.lst [])) H) us ds,
  fun s ⟨a, us, h1, h2, h3, h4⟩ => ⟨a, us, h1, s _ _ h2, h3, h4.mono (newer_same s)⟩⟩
/-- old things stay, above a new list -/
theorem newer_new {B H H' : Hp} {r : Addr} {o : HO} (nr : H r = none) (s : Same H H') : Same (newer B H) (newer (upd B r o) H') := fun b x e => by
  by_cases hb : B b = none
  · rw [newer_at hb] at e
    have hr : b ≠ r := ne_of_none e nr
    rw [newer_at (by rw [upd_ne hr]; exact hb)]
    exact s _ _ e
  · have z : newer B H b = none := if_neg hb
    rw [z] at e
    cases e
theorem keepA {a p : Addr} {H1 H H' : Hp} (np : H1 p = none) (h : ∀ o, H1 a = some o → H a = some o) (b : Bu p H H') : ∀ o, H1 a = some o → H' a = some o := fun o e => b _ _ (ne_of_none e np) (h o e)
theorem sq_of {K : PySem.W.Frag} {a : Addr} {H H' : Hp} {zs : List V} (s : SqL K H a zs) (h : ∀ o, H a = some o → H' a = some o) : SqL K H' a zs := by
  rcases s with (e | ⟨o, e⟩) | e
  · exact .inl (.inl (h _ e))
  · exact .inl (.inr ⟨o, h _ e⟩)
  · exact .inr e
theorem mm_at (z : Int) (h : z ≤ 3) : -(2 ^ 62) ≤ (if z > 1 then z else 1) ∧ (if z > 1 then z else 1) < 2 ^ 62 ∧ (if z > 1 then z else 1).toNat ≤ 3 := by
  split <;> omega
theorem mm_le (n : Int) : (if n < 3 then n else 3) ≤ 3 := by
  split <;> omega
section
variable {K : PySem.W.Frag} {B H0 : Hp} {σ : L2.St} {te tf : TE} {ds es : List PyData}
theorem n_catX (hB : Dm B H0) (h : Gives H0 te (gOl K B ds) σ) (h' : Gives H0 tf (gOl K B es) σ) (hz : ds.length + es.length ≤ 1000) :
    Gives H0 (tOp rCat te tf) (gXl K B H0 (ds ++ es)) σ := fun H Q s q =>
  h H _ s fun H1 u s1 ⟨p, us, e1, h1, g1⟩ => h' H1 _ (s.trans s1) fun H2 u' s2 ⟨p', us', e2, h2, g2⟩ => by
    have l1 := daAll_len g1
    have l2 := daAll_len g2
    refine ⟨p, p', us, us', e1, e2, s2 _ _ h1, h2, ?_, fun r nr => ?_⟩
    · have y := sizeLine_eq
      omega
    · exact q _ _ ((s1.trans s2).trans (same_put nr)) ⟨r, us ++ us', rfl, upd_same, same_none ((s.trans s1).trans s2) nr, da_app ((g1.mono (newer_same s2)).mono (newer_new nr (same_put nr))) (g2.mono (newer_new nr (same_put nr)))⟩
theorem g_lim (hB : Dm B H0) : Gives H0 (tCall (spLim K) [] E0 tNil) (gOl K B limD) σ := fun H Q s q =>
  ⟨rfl, fun H' u s' ⟨a, us, h1, h2, _, h4⟩ => q H' u s' ⟨a, us, h1, h2, h4.mono (newer_le (fun b e => (hB.go s) b e) fun b o _ e => e)⟩⟩
/-- [elt for .. in xs], each element a known value -/
theorem g_lcQ {a : Addr} {xs ys : List V} {i : Nat} {g : TG} {vs : List Nat} (hi : σ[i]? = some (some (.ref a))) (hx : SqL K H0 a xs) (hz : xs.length ≤ 1000) (hl : ys.length = xs.length)
    (he : ∀ (j : Nat) (x y : V), xs[j]? = some x → ys[j]? = some y → ∀ (H : Hp) (R : VK), Same H0 H → (∀ H', Same H H' → R y H') →
      g x (wipe σ vs) H fun σ2 H2 => wipe σ2 vs = wipe σ vs ∧ te σ2 H2 R) :
    Gives H0 (tLc (iList K (tVar i)) g tYes te vs) (gLst (ys.map gEq)) σ := fun H Q s q => by
  refine ⟨_, hi, a, rfl, ⟨xs, s.seq hx⟩, fun D nD => ?_⟩
  have sD : Same H (upd H D (.lst [])) := same_put nD
  have y := sizeLine_eq
  refine lc_list (K := K) (a := a) (xs := xs) (fun k H' => Same H H' ∧ H' D = some (.lst (ys.take k))) ⟨sD, upd_same⟩ (fun k H' _ ⟨s', _⟩ => s'.seq (s.seq hx)) ?_ ?_
  · rintro k x H' hk ⟨s', eD⟩
    have hk' : k < ys.length := by
      obtain ⟨h, _⟩ := List.getElem?_eq_some_iff.mp hk
      omega
    have hy := List.getElem?_eq_getElem hk'
    refine cast ?_ (he k x ys[k] hk hy H' (fun y H4 => ∃ acc, H4 D = some (.lst acc) ∧ acc.length < sizeLine ∧ Same H (upd H4 D (.lst (acc ++ [y]))) ∧ upd H4 D (.lst (acc ++ [y])) D = some (.lst (ys.take (k + 1)))) (s.trans s') fun H4 s4 => ⟨_, s4 _ _ eD, ?_, ?_, ?_⟩)
    · rfl
    · rw [List.length_take]
      omega
    · intro b o e
      rw [upd_ne (ne_of_none e nD)]
      exact s4 _ _ (s' _ _ e)
    · rw [upd_same, List.take_add_one, hy]
      rfl
  · rintro H' ⟨s', eD⟩
    rw [← hl, List.take_length] at eD
    exact q H' _ s' ⟨D, ys, rfl, eD, allEq⟩
theorem daAll_at {H : Hp} : ∀ {vs : List V} {ds : List PyData} (j : Nat) {x : V}, DaAll K H vs ds → vs[j]? = some x → ∃ d ∈ ds, Da K H x d
  | _, _, _, _, h, e => daAll_mem h _ (List.mem_of_getElem? e)
end
def spLaw (K : PySem.W.Frag) : Sp := fun vs H Q _ => ∃ (a : Addr) (ns : List Int), vs = [.ref a] ∧ SqL K H a (ns.map V.int) ∧ ∀ H', Q (.bl true) H'
theorem scLaw : FnScope ["_law_script", "_law_k", "_law_pot_here", "_law_some", "_law_turn", "_law_book", "_law_again", "_law_thing"] ["_law_script"] (defScope (topS 27)) := ⟨rfl, rfl, rfl, by decide +kernel, rfl, by decide +kernel, by decide +kernel⟩
theorem lim_len : limD.length ≤ 100 := by decide +kernel
theorem lim_ok : ∀ d ∈ limD, okD d := fun d h => by
  have z := fiC_ok (List.all_eq_true.mp lim_fi d h)
  exact okD_of z.1 (by decide) z.2 (by decide +kernel)
theorem rest_ok : ∀ d ∈ restD, okD d := fun d h => by
  have z := fiC_ok (List.all_eq_true.mp rest_fi d h)
  exact okD_of z.1 (by decide) z.2 (by decide +kernel)
theorem book_fi {nms : List Str} {is : List It} (hn : ∀ x ∈ nms, x ∈ pool8) (h5 : is.length ≤ 5) (h : ∀ i ∈ is, Wf nms 9 4 i) : (∀ d ∈ is.map It.d, Fi 9 d) ∧ PyData.weightAll (is.map It.d) ≤ 18755 := by
  refine ⟨fun y hy => ?_, ?_⟩
  · obtain ⟨i, hi, rfl⟩ := List.mem_map.mp hy
    exact (it_fi hn 4 i (h i hi)).1
  · have z := its_wt (fun i hi => (it_fi hn 4 i hi).2) is h
    have w4 : itW 4 = 3750 := by decide
    rw [w4] at z
    omega
theorem okD_w {e w : Nat} {d : PyData} (h : Fi e d) (he : e ≤ 64) (hw : d.weight ≤ w) (h2 : w ≤ 600000) : okD d := okD_of h he hw (by
  have y := sizeLine_eq
  omega)
section
variable {P : Program} {w : World} {K : PySem.W.Frag} {mg : Str → Option Value} {base : Heap} {f fP fN fI fO fT fL fR : Addr} {fd fdP fdN fdI fdO fdT fdL fdR : FuncData}
theorem ok_law (F : Fun K "law" "law" (topS 27) f fd)
    (GP : FnOk P w K mg base CX0 1 fP fdP ["_law_script", "_law_k"] (spPot K)) (bP : Binds K fdP ["_law_script", "_law_k"] []) (gP : mg "_law_pot" = some (.ref fP)) (kP : PySem.W.keepIn K (.ref fP) = true)
    (GT : FnOk P w K mg base CX0 1 fT fdT ["_law_pot_here", "_law_many"] spTake) (bT : Binds K fdT ["_law_pot_here", "_law_many"] []) (gT : mg "_law_take" = some (.ref fT)) (kT : PySem.W.keepIn K (.ref fT) = true)
    (GN : FnOk P w K mg base CX0 2 fN fdN ["_law_pot_here", "_law_many"] spNames) (bN : Binds K fdN ["_law_pot_here", "_law_many"] []) (gN : mg "_law_names" = some (.ref fN)) (kN : PySem.W.keepIn K (.ref fN) = true)
    (GI : FnOk P w K mg base CX0 7 fI fdI ["_law_pot_here", "_law_names_here", "_law_many", "_law_depth", "_law_most"] (spItems K 4)) (bI : Binds K fdI ["_law_pot_here", "_law_names_here", "_law_many", "_law_depth", "_law_most"] []) (gI : mg "_law_items" = some (.ref fI)) (kI : PySem.W.keepIn K (.ref fI) = true)
    (GA : FnOk P w K mg base CX0 13 fO fdO ["_law_pot_here", "_law_thing"] (spOdd K 10)) (GB : FnOk P w K mg base CX0 14 fO fdO ["_law_pot_here", "_law_thing"] (spOdd K 11)) (bO : Binds K fdO ["_law_pot_here", "_law_thing"] []) (gO : mg "_law_odd" = some (.ref fO)) (kO : PySem.W.keepIn K (.ref fO) = true)
    (GL : FnOk P w K mg base CX0 2 fL fdL [] (spLim K)) (bL : Binds K fdL [] []) (gL : mg "_law_limits" = some (.ref fL)) (kL : PySem.W.keepIn K (.ref fL) = true)
    (GR : FnG P w K mg base CX0 16 fR fdR ["_law_thing"] (spRight K)) (bR : Binds K fdR ["_law_thing"] []) (gR : mg "_law_right" = some (.ref fR)) (kR : PySem.W.keepIn K (.ref fR) = true)
    (mR : mg "range" = none) (mM : mg "max" = none) (mm : mg "min" = none) (ml : mg "len" = none) (mL : mg "list" = none) (ma : mg "all" = none) :
    FnG P w K mg base CX0 17 f fd ["_law_script"] (spLaw K) := by
  refine okG F scLaw (fun vs H Q E h => ?_) (fun cdv A outer s H vs Q E hr gd h => ?_)
  · obtain ⟨a, ns, rfl, _⟩ := h
    rfl
  · obtain ⟨a, ns, rfl, hS, q⟩ := h
    have hr1 : Room 1 _ := hr.mono (show 1 ≤ 16 by decide)
    have hr2 : Room 2 _ := hr.mono (show 2 ≤ 16 by decide)
    have hr7 : Room 7 _ := hr.mono (show 7 ≤ 16 by decide)
    have hr13 : Room 13 _ := hr.mono (show 13 ≤ 16 by decide)
    have hr14 : Room 14 _ := hr.mono (show 14 ≤ 16 by decide)
    refine ⟨_, pss_cons (ps_for PassesOwn.never rfl (pi_range1 rfl mR (pa_cons (pe_callB (call_max2 rfl) (by rfl) mM (by decide +kernel) (pa_cons pe_int (pa_cons (pe_callB (call_min2 rfl) (by rfl) mm (by decide +kernel) (pa_cons pe_int (pa_cons (pe_callB call_len_seq (by rfl) ml PySem.boot_len (pa_cons (pv 0) pa_nil)) pa_nil))) pa_nil))) pa_nil)) (pg_name (i := 1) scLaw.nd rfl (.inl rfl))
        (pss_cons (ps_set (i := 2) scLaw.nd rfl (.inl rfl) (pe_call GP hr1 (by rfl) gP kP bP .nil pass0 (pa_cons (pv 0) (pa_cons (pv 1) pa_nil))))
        (pss_cons (ps_set (i := 3) scLaw.nd rfl (.inl rfl) (pe_op op_cat (pe_call0 GL hr2 (by rfl) gL kL bL .nil pass0) (pe_lst (pa_cons pe_non (pa_cons pe_bl (pa_cons pe_int (pa_cons pe_str (pa_cons (pe_tup pa_nil) (pa_cons (pe_lst pa_nil) (pa_cons pe_dnewK pa_nil))))))))))
        (pss_cons (ps_for PassesOwn.never rfl (pi_range1 rfl mR (pa_cons pe_int pa_nil)) (pg_name (i := 4) scLaw.nd rfl (.inl rfl))
          (pss_cons (ps_set (i := 5) scLaw.nd rfl (.inl rfl) (pe_call GI hr7 (by rfl) gI kI bI .nil pass0 (pa_cons (pv 2) (pa_cons (pe_call GN hr2 (by rfl) gN kN bN .nil pass0 (pa_cons (pv 2) (pa_cons pe_int pa_nil))) (pa_cons pe_int (pa_cons pe_int (pa_cons pe_int pa_nil)))))))
          (pss_cons (ps_set (i := 3) scLaw.nd rfl (.inl rfl) (pe_op op_cat (pv 3) (pe_lst (pa_cons (pv 5) (pa_cons (pe_callTy call_list_of (by rfl) mL (by decide +kernel) (pa_cons (pv 5) pa_nil)) pa_nil)))))
          (pss_one (ps_for PassesOwn.never rfl (pi_range1 rfl mR (pa_cons pe_int pa_nil)) (pg_name (i := 6) scLaw.nd rfl (.inl rfl))
            (pss_cons (ps_set (i := 7) scLaw.nd rfl (.inl rfl) (pe_call GA hr13 (by rfl) gO kO bO .nil pass0 (pa_cons (pv 2) (pa_cons (pv 5) pa_nil))))
            (pss_one (ps_expr (pe_bm PySem.F.plainAttrs_list PySem.F.slot_list_append PySem.F.type_list_append mt_append (pv 3) (pa_cons (pe_ifExp (pt_cmpR op_gt (pe_call GT hr1 (by rfl) gT kT bT .nil pass0 (pa_cons (pv 2) (pa_cons pe_int pa_nil))) pe_int (nomark _)) (pv 7) (pe_call GB hr14 (by rfl) gO kO bO .nil pass0 (pa_cons (pv 2) (pa_cons (pv 7) pa_nil)))) pa_nil))))))))))
        (pss_one (ps_if (pt_not (pt_val (pe_callB (cr_all rfl) (by rfl) ma (by decide +kernel) (pa_cons (pe_lc (own := [("_law_thing", 7)]) (g := gName 7) (tt := tYes) (te := tCall (spRight K) [] E0 (tCons (tVar 7) tNil)) rfl scLaw.nd (pi_list (pv 3))
          (blkOk_by (N := ["_law_script", "_law_k", "_law_pot_here", "_law_some", "_law_turn", "_law_book", "_law_again", "_law_thing"]) (sc := defScope (topS 27)) (by decide +kernel)) (fun _ _ _ _ _ => pg_name (i := 7) scLaw.nd rfl (Or.inl rfl)) (fun _ _ _ _ _ => pts_nil)
          (fun _ _ _ _ _ => pe_callG GR hr gd (by rfl) gR kR bR .nil pass0 (pa_cons (pv 7) pa_nil))) pa_nil)))) (pss_one (ps_ret pe_bl)) pss_nil))))))
      (pss_one (ps_ret pe_bl)), ?_⟩
    have y := sizeLine_eq
    refine ⟨_, rfl, a, _, rfl, .inl hS, 3, _, rfl, 1, _, rfl, _, rfl, (mm_at _ (mm_le _)).1, (mm_at _ (mm_le _)).2.1, for_range (lo := 0) (fun i σ' H' => ∃ y1 y2 y3 y4 y5 y6 y7 : Option V, σ' = [some (.ref a), y1, y2, y3, y4, y5, y6, y7] ∧ SqL K H' a (ns.map V.int))
      ⟨none, none, none, none, none, none, none, rfl, hS⟩ ?_ ?_⟩
    · rintro i σ' H1 hi ⟨y1, y2, y3, y4, y5, y6, y7, rfl, hS1⟩
      have hi3 : i < 3 := Nat.lt_of_lt_of_le hi (mm_at _ (mm_le _)).2.2
      refine ⟨_, rfl, _, rfl, a, ns, _, rfl, hS1, by omega, by omega, fun p xs np hx => ?_⟩
      let H2 : Hp := upd H1 p (.lst xs)
      have hp2 : H2 p = some (.lst xs) := upd_same
      have hA2 : ∀ o, H1 a = some o → H2 a = some o := keepA np (fun o e => e) Bu.put
      refine s_set (H0 := H2) (G := gXl K H2 H2 (limD ++ restD)) (n_catX (B := H2) Dm.rfl' (g_lim Dm.rfl') (Gives.imp (n_lstL (ds := restD) (Dm.rfl' (B := H2)) (g_cons n_non (g_cons n_bl (g_cons n_int (g_cons n_str (g_cons (n_tup (ds := []) Dm.rfl' g_nil) (g_cons (n_lst (ds := []) Dm.rfl' g_nil) (g_cons (n_dnew Dm.rfl') g_nil)))))))
        (by show restD.length ≤ 1000; decide)) fun H u _ ⟨a, us, h1, h2, _, h4⟩ => ⟨a, us, h1, h2, h4⟩) ?_) fun H3 u s3 g3 => ?_
      · have z := lim_len
        have z2 : restD.length = 7 := rfl
        omega
      obtain ⟨l, us, rfl, hl3, nl, hDa3⟩ := g3
      have npl : p ≠ l := ne_of_none hp2 nl
      have hB3 : Dm (upd H2 l (.lst [])) H3 := fun b e => by
        have hb : b ≠ l := fun z => by
          rw [z, hl3] at e
          cases e
        rw [upd_ne hb]
        exact same_none s3 e
      have hlen3 : (limD ++ restD).length ≤ 200 := by
        have z := lim_len
        have z2 : restD.length = 7 := rfl
        rw [List.length_append]
        omega
      refine ⟨3, rfl, by decide, by decide, for_range (lo := 0) (n := 3) (fun j σ' H' => ∃ (l : Addr) (us : List V) (ds : List PyData) (ys : List V) (n : Nat) (B : Hp) (o1 o2 : HO) (y4 y5 y6 y7 : Option V),
          σ' = [some (.ref a), some (.int (0 + (i : Int))), some (.ref p), some (.ref l), y4, y5, y6, y7] ∧ H' p = some (.lst ys) ∧ PotL n ys ∧ n ≤ j * 3000 ∧ H' l = some (.lst us) ∧ p ≠ l ∧ B p = some o1 ∧ B l = some o2 ∧ Dm B H' ∧
          DaAll K (newer B H') us ds ∧ ds.length ≤ 200 + j * 20 ∧ (∀ d ∈ ds, okD d) ∧ (∀ o, H1 a = some o → H' a = some o))
        ⟨l, us, limD ++ restD, xs, 0, upd H2 l (.lst []), .lst xs, .lst [], _, _, _, _, rfl, s3 _ _ hp2, hx, by omega, hl3, npl, by rw [upd_ne npl]; exact hp2, upd_same, hB3, hDa3, by omega, fun d hd => ?_, fun o e => s3 _ _ (hA2 o e)⟩ ?_ ?_⟩
      · rcases List.mem_append.mp hd with h | h
        · exact lim_ok d h
        · exact rest_ok d h
      · rintro j σ' H4 hj ⟨l, us, ds, ys, n, B, o1, o2, y4, y5, y6, y7, rfl, hp, hY, hn, hl, npl, hBp, hBl, dm, hDa, hlen, hok, hA⟩
        refine ⟨_, rfl, _, rfl, p, ys, 3, n, rfl, hp, hY, by omega, by decide, fun H5 ys5 q nms hb5 hp5 hY5 nq nqp hq hl5 nd5 hm5 => ?_⟩
        have hne : nms ≠ [] := ne_of (by omega)
        have hbud : bud 4 5 = 2016 := by decide
        refine ⟨p, q, ys5, nms, 5, n + 3, 9, rfl, hp5, hY5, nqp.symm, .inl (.inl hq), hne, by omega, by decide, by decide, by decide, by decide, by omega, fun H6 ys6 u is n6 hb6 hp6 hY6 hn6 hu l1 l2 hw => ?_⟩
        have hb46 : Bu p H4 H6 := hb5.trans hb6
        have hl6 : H6 l = some (.lst us) := hb46 _ _ npl.symm hl
        have dm6 : Dm B H6 := dm.bu hb46 hp6
        have hDa6 : DaAll K (newer B H6) us ds := hDa.mono (newer_bu hBp hb46)
        have hu6 : Da K (newer B H6) u (.tuple (is.map It.d)) := hu.mono (newer_le (fun b e => dm b (hb5.dom hp5 b e)) fun b o _ e => e)
        have hA6 := keepA np hA hb46
        have hfi := book_fi hm5 l2 hw
        have hil : (is.map It.d).length ≤ 5 := by
          rw [List.length_map]
          exact l2
        refine s_set (H0 := H6) (G := gXl K B H6 (ds ++ [.tuple (is.map It.d), .list (is.map It.d)])) (n_catX dm6 (g_var rfl ⟨l, us, rfl, hl6, hDa6⟩) (Gives.imp (n_lstL (ds := [.tuple (is.map It.d), .list (is.map It.d)]) dm6 (g_cons (n_var rfl hu6) (g_cons (n_listOf dm6 rfl hu6) g_nil)))
          fun H u _ ⟨a, us, h1, h2, _, h4⟩ => ⟨a, us, h1, h2, h4⟩) (by show ds.length + 2 ≤ 1000; omega)) fun H7 u7 s7 g7 => ?_
        obtain ⟨l7, us7, rfl, hl7, nl7, hDa7⟩ := g7
        have npl7 : p ≠ l7 := ne_of_none hp6 nl7
        let B7 : Hp := upd B l7 (.lst [])
        have hB7p : B7 p = some o1 := by
          show upd B l7 _ p = _
          rw [upd_ne npl7]
          exact hBp
        have hB7l : B7 l7 = some (.lst []) := upd_same
        have dm7 : Dm B7 H7 := fun b e => by
          have hb : b ≠ l7 := fun z => by
            rw [z, hl7] at e
            cases e
          show upd B l7 _ b = none
          rw [upd_ne hb]
          exact dm6 b (same_none s7 e)
        have hu7 : Da K (newer B7 H7) u (.tuple (is.map It.d)) := hu6.mono (newer_new nl7 s7)
        have nal7 : ∀ o, H1 a = some o → a ≠ l7 := fun o e => ne_of_none (hA6 o e) nl7
        have hF10 : Fi 10 (.tuple (is.map It.d)) := fi_tup hfi.1
        have hw10 : (PyData.tuple (is.map It.d)).weight ≤ 18755 := by
          rw [PyData.weight]
          exact hfi.2
        have hw10' : (PyData.list (is.map It.d)).weight ≤ 18755 := by
          rw [PyData.weight]
          exact hfi.2
        refine ⟨9, rfl, by decide, by decide, for_range (lo := 0) (n := 9) (fun t σ' H' => ∃ (us : List V) (ds' : List PyData) (ys : List V) (n' : Nat) (y6 y7 : Option V),
            σ' = [some (.ref a), some (.int (0 + (i : Int))), some (.ref p), some (.ref l7), some (.int (0 + (j : Int))), some u, y6, y7] ∧ H' p = some (.lst ys) ∧ PotL n' ys ∧ n' ≤ j * 3000 + 2019 + t * 75 ∧ H' l7 = some (.lst us) ∧ Dm B7 H' ∧
            DaAll K (newer B7 H') us ds' ∧ ds'.length ≤ 200 + j * 20 + 2 + t ∧ (∀ d ∈ ds', okD d) ∧ (∀ o, H1 a = some o → H' a = some o) ∧ Da K (newer B7 H') u (.tuple (is.map It.d)))
          ⟨us7, _, ys6, n6, _, _, rfl, s7 _ _ hp6, hY6, by omega, hl7, dm7, hDa7, by rw [List.length_append]; show ds.length + 2 ≤ _; omega, fun d hd => ?_, fun o e => s7 _ _ (hA6 o e), hu7⟩ ?_ ?_⟩
        · rcases List.mem_append.mp hd with h | h
          · exact hok d h
          · rcases List.mem_cons.mp h with rfl | h
            · exact okD_w hF10 (by decide) hw10 (by decide)
            · rw [List.mem_singleton.mp h]
              exact okD_w (fi_lst hfi.1) (by decide) hw10' (by decide)
        · rintro t σ' H8 ht ⟨us8, ds8, ys8, n8, y6, y7, rfl, hp8, hY8, hn8, hl8, dm8, hDa8, hlen8, hok8, hA8, hu8⟩
          refine ⟨_, rfl, _, rfl, p, u, ys8, _, n8, B7, o1, rfl, hp8, hY8, by omega, hB7p, dm8, hu8, hF10, by omega, fun H9 ys9 v d9 n9 hb9 hp9 hY9 hn9 hv9 hF9 hw9 => ?_⟩
          have hl9 : H9 l7 = some (.lst us8) := hb9 _ _ npl7.symm hl8
          have hlu := daAll_len hDa8
          refine ⟨_, rfl, .inl ⟨rfl, _, .inl (.inl hl9)⟩, _, rfl, p, ys9, 3, n9, rfl, hp9, hY9, by omega, by decide, by decide +kernel, fun H10 ys10 dd hb10 hp10 hY10 d0 d1 => ⟨_, _, rfl, rfl, _, rfl, ite2 (fun e => ?_) (fun e => ?_)⟩⟩
          · have hb := hb9.trans hb10
            have hl10 : H10 l7 = some (.lst us8) := hb10 _ _ npl7.symm hl9
            have lift : Same (newer B7 H10) (newer B7 (upd H10 l7 (.lst (us8 ++ [v])))) := newer_bu hB7l Bu.put
            refine ⟨_, rfl, l7, us8, v, rfl, rfl, hl10, by omega, ?_⟩
            refine ⟨us8 ++ [v], ds8 ++ [d9], ys10, n9 + 1, _, _, rfl, by rw [upd_ne npl7]; exact hp10, hY10, by omega, upd_same, (dm8.bu hb hp10).bu Bu.put upd_same, da_app ((hDa8.mono (newer_bu hB7p hb)).mono lift) (.cons ((hv9.mono (newer_bu hB7p hb10)).mono lift) .nil),
              by rw [List.length_append]; show ds8.length + 1 ≤ _; omega, fun d hd => ?_, fun o e => ?_, (hu8.mono (newer_bu hB7p hb)).mono lift⟩
            · rcases List.mem_append.mp hd with h | h
              · exact hok8 d h
              · rw [List.mem_singleton.mp h]
                exact okD_w (w := 37610) hF9 (by decide) (by omega) (by decide)
            · rw [upd_ne (nal7 o e)]
              exact keepA np hA8 hb o e
          · refine ⟨_, rfl, _, rfl, p, v, ys10, d9, n9 + 1, B7, o1, rfl, hp10, hY10, by omega, hB7p, dm8.bu (hb9.trans hb10) hp10, hv9.mono (newer_bu hB7p hb10), hF9, by omega, fun H11 ys11 v2 d11 n11 hb11 hp11 hY11 hn11 hv11 hF11 hw11 => ?_⟩
            have hb := (hb9.trans hb10).trans hb11
            have hl11 : H11 l7 = some (.lst us8) := hb _ _ npl7.symm hl8
            have lift : Same (newer B7 H11) (newer B7 (upd H11 l7 (.lst (us8 ++ [v2])))) := newer_bu hB7l Bu.put
            refine ⟨l7, us8, v2, rfl, rfl, hl11, by omega, ?_⟩
            refine ⟨us8 ++ [v2], ds8 ++ [d11], ys11, n11, _, _, rfl, by rw [upd_ne npl7]; exact hp11, hY11, by omega, upd_same, (dm8.bu hb hp11).bu Bu.put upd_same, da_app ((hDa8.mono (newer_bu hB7p hb)).mono lift) (.cons (hv11.mono lift) .nil),
              by rw [List.length_append]; show ds8.length + 1 ≤ _; omega, fun d hd => ?_, fun o e => ?_, (hu8.mono (newer_bu hB7p hb)).mono lift⟩
            · rcases List.mem_append.mp hd with h | h
              · exact hok8 d h
              · rw [List.mem_singleton.mp h]
                exact okD_w (w := 75320) hF11 (by decide) (by omega) (by decide)
            · rw [upd_ne (nal7 o e)]
              exact keepA np hA8 hb o e
        · rintro σ' H8 ⟨us8, ds8, ys8, n8, y6, y7, rfl, hp8, hY8, hn8, hl8, dm8, hDa8, hlen8, hok8, hA8, hu8⟩
          exact ⟨l7, us8, ds8, ys8, n8, B7, o1, .lst [], _, _, _, _, rfl, hp8, hY8, by omega, hl8, npl7, hB7p, hB7l, dm8, hDa8, by omega, hok8, hA8⟩
      · rintro σ' H4 ⟨l, us, ds, ys, n, B, o1, o2, y4, y5, y6, y7, rfl, hp, hY, hn, hl, npl, hBp, hBl, dm, hDa, hlen, hok, hA⟩
        have hlu := daAll_len hDa
        have e1 : (us.map fun _ => true).map (fun b => gEq (V.bl b)) = (us.map fun _ => V.bl true).map gEq := by
          rw [List.map_map, List.map_map]
          rfl
        have hall : Gives H4 (tCB (rAll K) (tCons (tLc (iList K (tVar 3)) (gName 7) tYes (tCall (spRight K) [] E0 (tCons (tVar 7) tNil)) [7]) tNil)) (gEq (.bl ((us.map fun _ => true).all id))) [some (.ref a), some (.int (0 + (i : Int))), some (.ref p), some (.ref l), y4, y5, y6, y7] := by
          refine g_all ?_
          rw [e1]
          refine g_lcQ (a := l) (xs := us) rfl (.inl (.inl hl)) (by omega) (by rw [List.length_map]) fun m x z hx hz H R sH hR => ⟨rfl, ?_⟩
          obtain ⟨d, hd, hxd⟩ := daAll_at m hDa hx
          have ez : z = .bl true := by
            rw [List.getElem?_map, hx] at hz
            exact (Option.some.inj hz).symm
          subst ez
          exact ⟨_, rfl, x, d, rfl, (hxd.mono newer_in).mono sH, hok d hd, hR⟩
        have ea : (us.map fun _ => true).all id = true := by
          rw [List.all_eq_true]
          intro b hb
          obtain ⟨_, _, rfl⟩ := List.mem_map.mp hb
          rfl
        rw [ea] at hall
        refine s_skip1 (t_not (t_valB hall)) fun H5 s5 => ?_
        exact ⟨_, _, _, _, _, _, _, rfl, s5.seq (sq_of hS1 hA)⟩
    · rintro σ' H1 ⟨y1, y2, y3, y4, y5, y6, y7, rfl, hS1⟩
      exact q H1
end
end Ev

/-! ## What the top has written -/
namespace Ev
open PySem PySem.Spec PyProof.Rows L2
open PySem.W (typeIn keepIn codeIn nsIn)
def initB (K : PySem.W.Frag) (fI : Addr) (cd : Value) (q : Str) : Bool := (typeIn K (.ref fI) == some (.type "function")) && (codeIn K cd q && keepIn K (.ref fI))
theorem initB_ok {K : PySem.W.Frag} {fI : Addr} {cd : Value} {q : Str} (h : initB K fI cd q = true) : typeIn K (.ref fI) = some (.type "function") ∧ codeIn K cd q = true ∧ keepIn K (.ref fI) = true := by
  unfold initB at h
  simpa only [Bool.and_eq_true, beq_iff_eq] using h
theorem all_mk {P : Program} {w : World} {K : PySem.W.Frag} {h : Heap} {mg : Str → Option Value} {fa : Addr} (X : K.In h) (G : h.Ns mainGlobals mg) (hfa : mg "law" = some (.ref fa))
    {g1 : Addr} {ode1 ane1 : Option Addr} {sle1 : Array (Option Value)} {oce1 kVe1 dce1 pme1 cde1 cte1 : Value}
    {g2 : Addr} {ode2 ane2 : Option Addr} {sle2 : Array (Option Value)} {oce2 kVe2 dce2 pme2 cde2 cte2 : Value}
    {g10 : Addr} {ode10 ane10 : Option Addr} {sle10 : Array (Option Value)} {oce10 kVe10 dce10 pme10 cde10 cte10 : Value}
    {g11 : Addr} {ode11 ane11 : Option Addr} {sle11 : Array (Option Value)} {oce11 kVe11 dce11 pme11 cde11 cte11 : Value}
    {g12 : Addr} {ode12 ane12 : Option Addr} {sle12 : Array (Option Value)} {oce12 kVe12 dce12 pme12 cde12 cte12 : Value}
    {g13 : Addr} {ode13 ane13 : Option Addr} {sle13 : Array (Option Value)} {oce13 kVe13 dce13 pme13 cde13 cte13 : Value}
    {g15 : Addr} {ode15 ane15 : Option Addr} {sle15 : Array (Option Value)} {oce15 kVe15 dce15 pme15 cde15 cte15 : Value}
    {g16 : Addr} {ode16 ane16 : Option Addr} {sle16 : Array (Option Value)} {oce16 kVe16 dce16 pme16 cde16 cte16 : Value}
    {g17 : Addr} {ode17 ane17 : Option Addr} {sle17 : Array (Option Value)} {oce17 kVe17 dce17 pme17 cde17 cte17 : Value}
    {g18 : Addr} {ode18 ane18 : Option Addr} {sle18 : Array (Option Value)} {oce18 kVe18 dce18 pme18 cde18 cte18 : Value}
    {g19 : Addr} {ode19 ane19 : Option Addr} {sle19 : Array (Option Value)} {oce19 kVe19 dce19 pme19 cde19 cte19 : Value}
    {g20 : Addr} {ode20 ane20 : Option Addr} {sle20 : Array (Option Value)} {oce20 kVe20 dce20 pme20 cde20 cte20 : Value}
    {g21 : Addr} {ode21 ane21 : Option Addr} {sle21 : Array (Option Value)} {oce21 kVe21 dce21 pme21 cde21 cte21 : Value}
    {g22 : Addr} {ode22 ane22 : Option Addr} {sle22 : Array (Option Value)} {oce22 kVe22 dce22 pme22 cde22 cte22 : Value}
    {g23 : Addr} {ode23 ane23 : Option Addr} {sle23 : Array (Option Value)} {oce23 kVe23 dce23 pme23 cde23 cte23 : Value}
    {g24 : Addr} {ode24 ane24 : Option Addr} {sle24 : Array (Option Value)} {oce24 kVe24 dce24 pme24 cde24 cte24 : Value}
    {g25 : Addr} {ode25 ane25 : Option Addr} {sle25 : Array (Option Value)} {oce25 kVe25 dce25 pme25 cde25 cte25 : Value}
    {g26 : Addr} {ode26 ane26 : Option Addr} {sle26 : Array (Option Value)} {oce26 kVe26 dce26 pme26 cde26 cte26 : Value}
    {g27 : Addr} {ode27 ane27 : Option Addr} {sle27 : Array (Option Value)} {oce27 kVe27 dce27 pme27 cde27 cte27 : Value}
    {t_MOST_LETTERS : Tok}
    {t_MOST_TICKS : Tok}
    {t_MOST_ROUNDS : Tok}
    {t_MOST_BESIDE : Tok}
    {t_MOST_ITEMS : Tok}
    {t_MOST_DEEP : Tok}
    (A1 : nsIn K mainGlobals "is_whole" = some (some (.ref g1)))
    (L1 : K.lookup g1 = some ⟨oce1, ode1, .func (PySem.W.fnOf "is_whole" "is_whole" (defArgs (topS 1)) (defBody (topS 1)) (defScope (topS 1)) .none kVe1 dce1 pme1 ane1 cde1 cte1), sle1⟩)
    (H1 : initB K g1 cde1 "is_whole" = true)
    (A2 : nsIn K mainGlobals "is_integer_within" = some (some (.ref g2)))
    (L2 : K.lookup g2 = some ⟨oce2, ode2, .func (PySem.W.fnOf "is_integer_within" "is_integer_within" (defArgs (topS 2)) (defBody (topS 2)) (defScope (topS 2)) .none kVe2 dce2 pme2 ane2 cde2 cte2), sle2⟩)
    (H2 : initB K g2 cde2 "is_integer_within" = true)
    (A10 : nsIn K mainGlobals "is_program" = some (some (.ref g10)))
    (L10 : K.lookup g10 = some ⟨oce10, ode10, .func (PySem.W.fnOf "is_program" "is_program" (defArgs (topS 10)) (defBody (topS 10)) (defScope (topS 10)) .none kVe10 dce10 pme10 ane10 cde10 cte10), sle10⟩)
    (H10 : initB K g10 cde10 "is_program" = true)
    (A11 : nsIn K mainGlobals "room_behind_items" = some (some (.ref g11)))
    (L11 : K.lookup g11 = some ⟨oce11, ode11, .func (PySem.W.fnOf "room_behind_items" "room_behind_items" (defArgs (topS 11)) (defBody (topS 11)) (defScope (topS 11)) .none kVe11 dce11 pme11 ane11 cde11 cte11), sle11⟩)
    (H11 : initB K g11 cde11 "room_behind_items" = true)
    (A12 : nsIn K mainGlobals "room_behind" = some (some (.ref g12)))
    (L12 : K.lookup g12 = some ⟨oce12, ode12, .func (PySem.W.fnOf "room_behind" "room_behind" (defArgs (topS 12)) (defBody (topS 12)) (defScope (topS 12)) .none kVe12 dce12 pme12 ane12 cde12 cte12), sle12⟩)
    (H12 : initB K g12 cde12 "room_behind" = true)
    (A13 : nsIn K mainGlobals "is_name" = some (some (.ref g13)))
    (L13 : K.lookup g13 = some ⟨oce13, ode13, .func (PySem.W.fnOf "is_name" "is_name" (defArgs (topS 13)) (defBody (topS 13)) (defScope (topS 13)) .none kVe13 dce13 pme13 ane13 cde13 cte13), sle13⟩)
    (H13 : initB K g13 cde13 "is_name" = true)
    (A15 : nsIn K mainGlobals "_law_pot" = some (some (.ref g15)))
    (L15 : K.lookup g15 = some ⟨oce15, ode15, .func (PySem.W.fnOf "_law_pot" "_law_pot" (defArgs (topS 15)) (defBody (topS 15)) (defScope (topS 15)) .none kVe15 dce15 pme15 ane15 cde15 cte15), sle15⟩)
    (H15 : initB K g15 cde15 "_law_pot" = true)
    (A16 : nsIn K mainGlobals "_law_take" = some (some (.ref g16)))
    (L16 : K.lookup g16 = some ⟨oce16, ode16, .func (PySem.W.fnOf "_law_take" "_law_take" (defArgs (topS 16)) (defBody (topS 16)) (defScope (topS 16)) .none kVe16 dce16 pme16 ane16 cde16 cte16), sle16⟩)
    (H16 : initB K g16 cde16 "_law_take" = true)
    (A17 : nsIn K mainGlobals "_law_of" = some (some (.ref g17)))
    (L17 : K.lookup g17 = some ⟨oce17, ode17, .func (PySem.W.fnOf "_law_of" "_law_of" (defArgs (topS 17)) (defBody (topS 17)) (defScope (topS 17)) .none kVe17 dce17 pme17 ane17 cde17 cte17), sle17⟩)
    (H17 : initB K g17 cde17 "_law_of" = true)
    (A18 : nsIn K mainGlobals "_law_names" = some (some (.ref g18)))
    (L18 : K.lookup g18 = some ⟨oce18, ode18, .func (PySem.W.fnOf "_law_names" "_law_names" (defArgs (topS 18)) (defBody (topS 18)) (defScope (topS 18)) .none kVe18 dce18 pme18 ane18 cde18 cte18), sle18⟩)
    (H18 : initB K g18 cde18 "_law_names" = true)
    (A19 : nsIn K mainGlobals "_law_items" = some (some (.ref g19)))
    (L19 : K.lookup g19 = some ⟨oce19, ode19, .func (PySem.W.fnOf "_law_items" "_law_items" (defArgs (topS 19)) (defBody (topS 19)) (defScope (topS 19)) .none kVe19 dce19 pme19 ane19 cde19 cte19), sle19⟩)
    (H19 : initB K g19 cde19 "_law_items" = true)
    (A20 : nsIn K mainGlobals "_law_odd" = some (some (.ref g20)))
    (L20 : K.lookup g20 = some ⟨oce20, ode20, .func (PySem.W.fnOf "_law_odd" "_law_odd" (defArgs (topS 20)) (defBody (topS 20)) (defScope (topS 20)) .none kVe20 dce20 pme20 ane20 cde20 cte20), sle20⟩)
    (H20 : initB K g20 cde20 "_law_odd" = true)
    (A21 : nsIn K mainGlobals "_law_is_whole" = some (some (.ref g21)))
    (L21 : K.lookup g21 = some ⟨oce21, ode21, .func (PySem.W.fnOf "_law_is_whole" "_law_is_whole" (defArgs (topS 21)) (defBody (topS 21)) (defScope (topS 21)) .none kVe21 dce21 pme21 ane21 cde21 cte21), sle21⟩)
    (H21 : initB K g21 cde21 "_law_is_whole" = true)
    (A22 : nsIn K mainGlobals "_law_is_word" = some (some (.ref g22)))
    (L22 : K.lookup g22 = some ⟨oce22, ode22, .func (PySem.W.fnOf "_law_is_word" "_law_is_word" (defArgs (topS 22)) (defBody (topS 22)) (defScope (topS 22)) .none kVe22 dce22 pme22 ane22 cde22 cte22), sle22⟩)
    (H22 : initB K g22 cde22 "_law_is_word" = true)
    (A23 : nsIn K mainGlobals "_law_count" = some (some (.ref g23)))
    (L23 : K.lookup g23 = some ⟨oce23, ode23, .func (PySem.W.fnOf "_law_count" "_law_count" (defArgs (topS 23)) (defBody (topS 23)) (defScope (topS 23)) .none kVe23 dce23 pme23 ane23 cde23 cte23), sle23⟩)
    (H23 : initB K g23 cde23 "_law_count" = true)
    (A24 : nsIn K mainGlobals "_law_nested" = some (some (.ref g24)))
    (L24 : K.lookup g24 = some ⟨oce24, ode24, .func (PySem.W.fnOf "_law_nested" "_law_nested" (defArgs (topS 24)) (defBody (topS 24)) (defScope (topS 24)) .none kVe24 dce24 pme24 ane24 cde24 cte24), sle24⟩)
    (H24 : initB K g24 cde24 "_law_nested" = true)
    (A25 : nsIn K mainGlobals "_law_limits" = some (some (.ref g25)))
    (L25 : K.lookup g25 = some ⟨oce25, ode25, .func (PySem.W.fnOf "_law_limits" "_law_limits" (defArgs (topS 25)) (defBody (topS 25)) (defScope (topS 25)) .none kVe25 dce25 pme25 ane25 cde25 cte25), sle25⟩)
    (H25 : initB K g25 cde25 "_law_limits" = true)
    (A26 : nsIn K mainGlobals "_law_right" = some (some (.ref g26)))
    (L26 : K.lookup g26 = some ⟨oce26, ode26, .func (PySem.W.fnOf "_law_right" "_law_right" (defArgs (topS 26)) (defBody (topS 26)) (defScope (topS 26)) .none kVe26 dce26 pme26 ane26 cde26 cte26), sle26⟩)
    (H26 : initB K g26 cde26 "_law_right" = true)
    (A27 : nsIn K mainGlobals "law" = some (some (.ref g27)))
    (L27 : K.lookup g27 = some ⟨oce27, ode27, .func (PySem.W.fnOf "law" "law" (defArgs (topS 27)) (defBody (topS 27)) (defScope (topS 27)) .none kVe27 dce27 pme27 ane27 cde27 cte27), sle27⟩)
    (H27 : initB K g27 cde27 "law" = true)
    (c_MOST_LETTERS : nsIn K mainGlobals "MOST_LETTERS" = some (some (.int 8 t_MOST_LETTERS)))
    (c_MOST_TICKS : nsIn K mainGlobals "MOST_TICKS" = some (some (.int 1000000000000 t_MOST_TICKS)))
    (c_MOST_ROUNDS : nsIn K mainGlobals "MOST_ROUNDS" = some (some (.int 1000000000000000000 t_MOST_ROUNDS)))
    (c_MOST_BESIDE : nsIn K mainGlobals "MOST_BESIDE" = some (some (.int 20 t_MOST_BESIDE)))
    (c_MOST_ITEMS : nsIn K mainGlobals "MOST_ITEMS" = some (some (.int 60 t_MOST_ITEMS)))
    (c_MOST_DEEP : nsIn K mainGlobals "MOST_DEEP" = some (some (.int 5 t_MOST_DEEP)))
    (z_len : nsIn K mainGlobals "len" = some none)
    (z_abs : nsIn K mainGlobals "abs" = some none)
    (z_int : nsIn K mainGlobals "int" = some none)
    (z_range : nsIn K mainGlobals "range" = some none)
    (z_isinstance : nsIn K mainGlobals "isinstance" = some none)
    (z_tuple : nsIn K mainGlobals "tuple" = some none)
    (z_str : nsIn K mainGlobals "str" = some none)
    (z_bool : nsIn K mainGlobals "bool" = some none)
    (z_all : nsIn K mainGlobals "all" = some none)
    (z_list : nsIn K mainGlobals "list" = some none)
    (z_repr : nsIn K mainGlobals "repr" = some none)
    (z_max : nsIn K mainGlobals "max" = some none)
    (z_min : nsIn K mainGlobals "min" = some none)
    : ∃ fd : FuncData, (∀ (s : Shared) (u : Value), BindsTo s fd ⟨[u], []⟩ [("_law_script", u)]) ∧
      ∀ base : Heap, K.In base → base.Ns mainGlobals mg → (∃ mm, base.Ns sysModules mm) → FnG P w K mg base CX0 17 fa fd ["_law_script"] (spLaw K) := by
  have e := hfa.symm.trans (PySem.W.mg_of X G A27)
  cases e
  obtain ⟨t1, u1, v1⟩ := initB_ok H1
  have F1 := fun_mk (st := topS 1) L1 u1 v1
  have m1 := PySem.W.mg_of X G A1
  have b1 := F1.binds (ps := ["value"]) fun _ _ _ _ _ _ us hl => match us, hl with | [_], _ => rfl
  obtain ⟨t2, u2, v2⟩ := initB_ok H2
  have F2 := fun_mk (st := topS 2) L2 u2 v2
  have m2 := PySem.W.mg_of X G A2
  have b2 := F2.binds (ps := ["value", "least", "most"]) fun _ _ _ _ _ _ us hl => match us, hl with | [_, _, _], _ => rfl
  obtain ⟨t10, u10, v10⟩ := initB_ok H10
  have F10 := fun_mk (st := topS 10) L10 u10 v10
  have m10 := PySem.W.mg_of X G A10
  have b10 := F10.binds (ps := ["value"]) fun _ _ _ _ _ _ us hl => match us, hl with | [_], _ => rfl
  obtain ⟨t11, u11, v11⟩ := initB_ok H11
  have F11 := fun_mk (st := topS 11) L11 u11 v11
  have m11 := PySem.W.mg_of X G A11
  have b11 := F11.binds (ps := ["items", "depth", "room"]) fun _ _ _ _ _ _ us hl => match us, hl with | [_, _, _], _ => rfl
  obtain ⟨t12, u12, v12⟩ := initB_ok H12
  have F12 := fun_mk (st := topS 12) L12 u12 v12
  have m12 := PySem.W.mg_of X G A12
  have b12 := F12.binds (ps := ["item", "depth", "room"]) fun _ _ _ _ _ _ us hl => match us, hl with | [_, _, _], _ => rfl
  obtain ⟨t13, u13, v13⟩ := initB_ok H13
  have F13 := fun_mk (st := topS 13) L13 u13 v13
  have m13 := PySem.W.mg_of X G A13
  have b13 := F13.binds (ps := ["value"]) fun _ _ _ _ _ _ us hl => match us, hl with | [_], _ => rfl
  obtain ⟨t15, u15, v15⟩ := initB_ok H15
  have F15 := fun_mk (st := topS 15) L15 u15 v15
  have m15 := PySem.W.mg_of X G A15
  have b15 := F15.binds (ps := ["_law_script", "_law_k"]) fun _ _ _ _ _ _ us hl => match us, hl with | [_, _], _ => rfl
  obtain ⟨t16, u16, v16⟩ := initB_ok H16
  have F16 := fun_mk (st := topS 16) L16 u16 v16
  have m16 := PySem.W.mg_of X G A16
  have b16 := F16.binds (ps := ["_law_pot_here", "_law_many"]) fun _ _ _ _ _ _ us hl => match us, hl with | [_, _], _ => rfl
  obtain ⟨t17, u17, v17⟩ := initB_ok H17
  have F17 := fun_mk (st := topS 17) L17 u17 v17
  have m17 := PySem.W.mg_of X G A17
  have b17 := F17.binds (ps := ["_law_pot_here", "_law_some"]) fun _ _ _ _ _ _ us hl => match us, hl with | [_, _], _ => rfl
  obtain ⟨t18, u18, v18⟩ := initB_ok H18
  have F18 := fun_mk (st := topS 18) L18 u18 v18
  have m18 := PySem.W.mg_of X G A18
  have b18 := F18.binds (ps := ["_law_pot_here", "_law_many"]) fun _ _ _ _ _ _ us hl => match us, hl with | [_, _], _ => rfl
  obtain ⟨t19, u19, v19⟩ := initB_ok H19
  have F19 := fun_mk (st := topS 19) L19 u19 v19
  have m19 := PySem.W.mg_of X G A19
  have b19 := F19.binds (ps := ["_law_pot_here", "_law_names_here", "_law_many", "_law_depth", "_law_most"]) fun _ _ _ _ _ _ us hl => match us, hl with | [_, _, _, _, _], _ => rfl
  obtain ⟨t20, u20, v20⟩ := initB_ok H20
  have F20 := fun_mk (st := topS 20) L20 u20 v20
  have m20 := PySem.W.mg_of X G A20
  have b20 := F20.binds (ps := ["_law_pot_here", "_law_thing"]) fun _ _ _ _ _ _ us hl => match us, hl with | [_, _], _ => rfl
  obtain ⟨t21, u21, v21⟩ := initB_ok H21
  have F21 := fun_mk (st := topS 21) L21 u21 v21
  have m21 := PySem.W.mg_of X G A21
  have b21 := F21.binds (ps := ["_law_thing", "_law_most"]) fun _ _ _ _ _ _ us hl => match us, hl with | [_, _], _ => rfl
  obtain ⟨t22, u22, v22⟩ := initB_ok H22
  have F22 := fun_mk (st := topS 22) L22 u22 v22
  have m22 := PySem.W.mg_of X G A22
  have b22 := F22.binds (ps := ["_law_thing"]) fun _ _ _ _ _ _ us hl => match us, hl with | [_], _ => rfl
  obtain ⟨t23, u23, v23⟩ := initB_ok H23
  have F23 := fun_mk (st := topS 23) L23 u23 v23
  have m23 := PySem.W.mg_of X G A23
  have b23 := F23.binds (ps := ["_law_items_here", "_law_deep"]) fun _ _ _ _ _ _ us hl => match us, hl with | [_, _], _ => rfl
  obtain ⟨t24, u24, v24⟩ := initB_ok H24
  have F24 := fun_mk (st := topS 24) L24 u24 v24
  have m24 := PySem.W.mg_of X G A24
  have b24 := F24.binds (ps := ["_law_deep"]) fun _ _ _ _ _ _ us hl => match us, hl with | [_], _ => rfl
  obtain ⟨t25, u25, v25⟩ := initB_ok H25
  have F25 := fun_mk (st := topS 25) L25 u25 v25
  have m25 := PySem.W.mg_of X G A25
  have b25 := F25.binds (ps := []) fun _ _ _ _ _ _ us hl => match us, hl with | [], _ => rfl
  obtain ⟨t26, u26, v26⟩ := initB_ok H26
  have F26 := fun_mk (st := topS 26) L26 u26 v26
  have m26 := PySem.W.mg_of X G A26
  have b26 := F26.binds (ps := ["_law_thing"]) fun _ _ _ _ _ _ us hl => match us, hl with | [_], _ => rfl
  obtain ⟨t27, u27, v27⟩ := initB_ok H27
  have F27 := fun_mk (st := topS 27) L27 u27 v27
  have m27 := PySem.W.mg_of X G A27
  have k_MOST_LETTERS := PySem.W.mg_of X G c_MOST_LETTERS
  have k_MOST_TICKS := PySem.W.mg_of X G c_MOST_TICKS
  have k_MOST_ROUNDS := PySem.W.mg_of X G c_MOST_ROUNDS
  have k_MOST_BESIDE := PySem.W.mg_of X G c_MOST_BESIDE
  have k_MOST_ITEMS := PySem.W.mg_of X G c_MOST_ITEMS
  have k_MOST_DEEP := PySem.W.mg_of X G c_MOST_DEEP
  have n_len := PySem.W.mg_none_of X G z_len
  have n_abs := PySem.W.mg_none_of X G z_abs
  have n_int := PySem.W.mg_none_of X G z_int
  have n_range := PySem.W.mg_none_of X G z_range
  have n_isinstance := PySem.W.mg_none_of X G z_isinstance
  have n_tuple := PySem.W.mg_none_of X G z_tuple
  have n_str := PySem.W.mg_none_of X G z_str
  have n_bool := PySem.W.mg_none_of X G z_bool
  have n_all := PySem.W.mg_none_of X G z_all
  have n_list := PySem.W.mg_none_of X G z_list
  have n_repr := PySem.W.mg_none_of X G z_repr
  have n_max := PySem.W.mg_none_of X G z_max
  have n_min := PySem.W.mg_none_of X G z_min
  refine ⟨PySem.W.fnOf "law" "law" (defArgs (topS 27)) (defBody (topS 27)) (defScope (topS 27)) .none kVe27 dce27 pme27 ane27 cde27 cte27, fun s u => .of_eq rfl, fun base _ _ hm => ?_⟩
  have GT : FnOk P w K mg base CX0 1 _ _ ["_law_pot_here", "_law_many"] spTake := ok_take F16
  have GO := ok_of (P := P) (w := w) (base := base) F17 F16 b16 m16 n_len
  have GN := ok_name (P := P) (w := w) (base := base) F13 n_isinstance n_str n_len n_all k_MOST_LETTERS
  have GIw := ok_iw (P := P) (w := w) (base := base) (mg := mg) F1 n_isinstance n_int n_bool
  have GW := ok_in F2 GIw b1 m1 v1
  have GRI := ok_ri F11 F12 GN b13 m13 v13 GW b2 m2 v2 b11 m11 b12 m12 n_isinstance n_tuple n_len k_MOST_TICKS k_MOST_ROUNDS k_MOST_BESIDE 5
  have GP := ok_prog F10 GRI b11 m11 v11 k_MOST_DEEP k_MOST_ITEMS
  have GWh := ok_wh (P := P) (w := w) (base := base) (mg := mg) F21 n_isinstance n_int n_bool
  have GWd := ok_wd (P := P) (w := w) (base := base) (mg := mg) F22 n_isinstance n_str n_len n_all
  have GC := ok_cn F23 GWd b22 m22 v22 GWh b21 m21 v21 b23 m23 n_isinstance n_tuple n_str n_len 5
  have GR := ok_rt hm F26 GC b23 m23 v23 GP b10 (fun s u => .of_eq rfl) m10 v10 n_repr
  have GNa := ok_names (P := P) (w := w) (base := base) F18 F16 b16 m16 n_len n_range
  have GI := ok_items F19 F16 b16 m16 GO b17 m17 v17 m19 b19 n_range n_tuple 4
  have GA := ok_od F20 GT b16 m16 v16 GO b17 m17 v17 b20 m20 n_isinstance n_tuple n_len n_list 10
  have GB := ok_od F20 GT b16 m16 v16 GO b17 m17 v17 b20 m20 n_isinstance n_tuple n_len n_list 11
  have GL := ok_li F25 (ok_ne (P := P) (w := w) (base := base) F24 n_range) b24 m24 v24
  exact ok_law F27 (ok_pot F15 n_len n_abs n_int) b15 m15 v15 GT b16 m16 v16 GNa b18 m18 v18 GI b19 m19 v19 GA GB b20 m20 v20 GL b25 m25 v25 GR b26 m26 v26 n_range n_max n_min n_len n_list n_all
end Ev

open PySem PySem.W PyProof.Rows
set_option maxRecDepth 100000 in
set_option maxHeartbeats 0 in
theorem PySem.Challenge.cw_evensamples_k01_programs_of_any_value_holds : PySem.Challenge.rw_evensamples_k01_programs_of_any_value.Holds := by
  w_on; o_law; k_head; (case hw => w_witness2)
  k_fill
  refine Ev.walkG (l := PySem.Challenge.rw_evensamples_k01_programs_of_any_value) (n := 63) (k := 17) (x := "_law_script") (CX := L2.CX0) (sp := Ev.spLaw) ?noImports rfl (by decide) rfl ⟨rfl, by decide, by decide⟩ (fun w h Y => PySem.W.kIn_of Y) ?F
    (fun _ _ a ns _ _ hS => ⟨a, ns, rfl, hS, fun _ => rfl⟩) (fun _ _ _ _ h => h)
  case noImports => decide +kernel
  case F =>
    intro w mg fa h KX G hmg
    refine' Ev.all_mk KX G hmg ?A1 ?L1 ?H1 ?A2 ?L2 ?H2 ?A10 ?L10 ?H10 ?A11 ?L11 ?H11 ?A12 ?L12 ?H12 ?A13 ?L13 ?H13 ?A15 ?L15 ?H15 ?A16 ?L16 ?H16 ?A17 ?L17 ?H17 ?A18 ?L18 ?H18 ?A19 ?L19 ?H19 ?A20 ?L20 ?H20 ?A21 ?L21 ?H21 ?A22 ?L22 ?H22 ?A23 ?L23 ?H23 ?A24 ?L24 ?H24 ?A25 ?L25 ?H25 ?A26 ?L26 ?H26 ?A27 ?L27 ?H27 ?c_MOST_LETTERS ?c_MOST_TICKS ?c_MOST_ROUNDS ?c_MOST_BESIDE ?c_MOST_ITEMS ?c_MOST_DEEP ?z_len ?z_abs ?z_int ?z_range ?z_isinstance ?z_tuple ?z_str ?z_bool ?z_all ?z_list ?z_repr ?z_max ?z_min
    (case A1 => k_is)
    (case L1 => k_is)
    (case H1 => kernel_rfl)
    (case A2 => k_is)
    (case L2 => k_is)
    (case H2 => kernel_rfl)
    (case A10 => k_is)
    (case L10 => k_is)
    (case H10 => kernel_rfl)
    (case A11 => k_is)
    (case L11 => k_is)
    (case H11 => kernel_rfl)
    (case A12 => k_is)
    (case L12 => k_is)
    (case H12 => kernel_rfl)
    (case A13 => k_is)
    (case L13 => k_is)
    (case H13 => kernel_rfl)
    (case A15 => k_is)
    (case L15 => k_is)
    (case H15 => kernel_rfl)
    (case A16 => k_is)
    (case L16 => k_is)
    (case H16 => kernel_rfl)
    (case A17 => k_is)
    (case L17 => k_is)
    (case H17 => kernel_rfl)
    (case A18 => k_is)
    (case L18 => k_is)
    (case H18 => kernel_rfl)
    (case A19 => k_is)
    (case L19 => k_is)
    (case H19 => kernel_rfl)
    (case A20 => k_is)
    (case L20 => k_is)
    (case H20 => kernel_rfl)
    (case A21 => k_is)
    (case L21 => k_is)
    (case H21 => kernel_rfl)
    (case A22 => k_is)
    (case L22 => k_is)
    (case H22 => kernel_rfl)
    (case A23 => k_is)
    (case L23 => k_is)
    (case H23 => kernel_rfl)
    (case A24 => k_is)
    (case L24 => k_is)
    (case H24 => kernel_rfl)
    (case A25 => k_is)
    (case L25 => k_is)
    (case H25 => kernel_rfl)
    (case A26 => k_is)
    (case L26 => k_is)
    (case H26 => kernel_rfl)
    (case A27 => k_is)
    (case L27 => k_is)
    (case H27 => kernel_rfl)
    (case c_MOST_LETTERS => k_is)
    (case c_MOST_TICKS => k_is)
    (case c_MOST_ROUNDS => k_is)
    (case c_MOST_BESIDE => k_is)
    (case c_MOST_ITEMS => k_is)
    (case c_MOST_DEEP => k_is)
    (case z_len => k_is)
    (case z_abs => k_is)
    (case z_int => k_is)
    (case z_range => k_is)
    (case z_isinstance => k_is)
    (case z_tuple => k_is)
    (case z_str => k_is)
    (case z_bool => k_is)
    (case z_all => k_is)
    (case z_list => k_is)
    (case z_repr => k_is)
    (case z_max => k_is)
    (case z_min => k_is)

import PyProof.Rows.All
import Wide.All
import OpenK.AllK
import Wide.FinOn
import PySem.Challenge.RW_evensamples_k48_programs_padded
import HandS.ForMost
import HandS.Wide
import HandS.More
import HandS.Set
import HandS.SetBool
import HandS.SetFor
import HandS.TupSets
import HandS.IsInst
import HandS.TupAny
import HandS.TupMul
set_option Elab.async false
set_option linter.all false
set_option maxRecDepth 100000
set_option maxHeartbeats 4000000
/-! ## Promises of defs that are called while no repr is under way -/
namespace Ev
open PySem PySem.Spec PyProof.Rows L2

/-- the promise of a def, for a stack without a repr that is under way -/
structure FnG (P : Program) (w : World) (K : PySem.W.Frag) (mg : Str → Option Value)
    (base : Heap) (CX : CXT) (k : Nat) (f : Addr) (fd : FuncData) (ps : List Str) (sp : Sp) : Prop where
  many : ∀ vs H Q E, sp vs H Q E → vs.length = ps.length
  go : ∀ (A : Around) (outer : List Env) (s : Shared) (H : Hp) (args : Args)
      (us : List Value) (vs : List V) (Q : VK) (E : XK),
    Room k A → A.guards = some [] → Env0 P w K mg base A outer s H → BindsTo s fd args (ps.zip us) →
      Vals vs us → sp vs H Q E → codeAny (model P w) A (.call (.ref f) args) (CR CX outer P w H s Q E) s

section
variable {P : Program} {w : World} {K : PySem.W.Frag} {mg : Str → Option Value} {base : Heap} {CX : CXT}
variable {k : Nat} {f : Addr} {fd : FuncData} {ps : List Str} {sp : Sp}
theorem FnG.of (F : FnOk P w K mg base CX k f fd ps sp) : FnG P w K mg base CX k f fd ps sp :=
  ⟨F.len, fun A o s H args us vs Q E hr _ => F.run A o s H args us vs Q E hr⟩
theorem FnG.up {j : Nat} (F : FnG P w K mg base CX j f fd ps sp) (h : j ≤ k) : FnG P w K mg base CX k f fd ps sp :=
  ⟨F.many, fun A o s H args us vs Q E hr => F.go A o s H args us vs Q E (hr.mono h)⟩
end

section
variable {X : Cx} {CX : CXT} {k : Nat} {f : Addr} {fd : FuncData} {ps : List Str} {sp : Sp}
variable {dvs : List V} {ds : List Value} {E : XK} {x : Str} {p pos : Pos} {e : Expr} {es : List Expr} {t : TA}
theorem runG {pins : List (Addr × Obj)} {σ : L2.St} {H : Hp} {s : Shared} {Q : VK} {us : List Value} {vs : List V}
    (F : FnG X.prog X.w X.K X.mg X.base CX k f fd ps sp) (hr : Room k X.A) (gd : X.A.guards = some [])
    (hb : Binds X.K fd ps ds) (hd : Vals dvs ds) (hx : Passes CX X E) (I : Inv X pins σ H s) (r : Vals vs us)
    (h : sp (vs ++ dvs) H Q E) : wpAny (model X.prog X.w) X.A (call (.ref f) us) (EP X pins σ Q) X.xe s := by
  have rr : Vals (vs ++ dvs) (us ++ ds) := r.append hd
  have hl : (us ++ ds).length = ps.length := rr.length.symm.trans (F.many _ _ _ _ h)
  have z := F.go X.A X.stack s H ⟨us, []⟩ (us ++ ds) (vs ++ dvs) Q E hr gd I.env0 (hb s us I.kIn hl) rr h
  refine wpAny_call (codeAny_mono z fun res s' hq => ?_)
  match res, hq with
  | .error e, hq => exact hx pins σ H s e s' I hq
  | .ok (.ret u), hq => exact I.after hq
  | .ok .next, hq => exact False.elim hq
  | .ok .brk, hq => exact False.elim hq
  | .ok .cont, hq => exact False.elim hq
theorem pe_callG (F : FnG X.prog X.w X.K X.mg X.base CX k f fd ps sp) (hr : Room k X.A) (gd : X.A.guards = some [])
    (hg : Gl X x) (hm : X.mg x = some (.ref f)) (hk : PySem.W.keepIn X.K (.ref f) = true) (hb : Binds X.K fd ps ds)
    (hd : Vals dvs ds) (hx : Passes CX X E) (ha : PA X (e :: es) t)
    (hdb : (x == ("__debug__" : Str)) = false := by decide)
    (he : starEach (e :: es) X.env = (false, eval e X.env) :: starEach es X.env := by rfl)
    (hpl : (backTo pos (starEach es X.env)).any (·.1) = false := by rfl) :
    PE X (.Call (.Name x p) (e :: es) [] pos) (tCall sp dvs E t) := by
  constructor
  intro pins s σ H Q I h
  refine wpAny_Call_Name_kw (ld_glob I hg hm ?_ hdb)
  have z := ha.run pos pins s σ H _ I h
  refine PySem.W.callWith_K (h₀ := X.base) I.ok.mod.kin hk (thn z ?_) he hpl
  rintro us s1 ⟨vs, H1, I1, r, q⟩
  exact ⟨I1.kIn, runG F hr gd hb hd hx I1 r q⟩
theorem pe_callG0 (F : FnG X.prog X.w X.K X.mg X.base CX k f fd ps sp) (hr : Room k X.A) (gd : X.A.guards = some [])
    (hg : Gl X x) (hm : X.mg x = some (.ref f)) (hk : PySem.W.keepIn X.K (.ref f) = true) (hb : Binds X.K fd ps ds)
    (hd : Vals dvs ds) (hx : Passes CX X E) (hdb : (x == ("__debug__" : Str)) = false := by decide) :
    PE X (.Call (.Name x p) [] [] pos) (tCall sp dvs E tNil) := by
  constructor
  intro pins s σ H Q I h
  refine wpAny_Call_Name_kw (ld_glob I hg hm ?_ hdb)
  have z := runG (us := []) F hr gd hb hd hx I .nil h
  exact PySem.W.callWith_K0 I.kIn hk z
end

/-- a def by its body -/
theorem fnG_of {CX : CXT} {P : Program} {w : World} {K : PySem.W.Frag} {mg : Str → Option Value} {base : Heap}
    {k : Nat} {f : Addr} {name qual : Str} {params : Arguments} {body : List Stmt} {scope : Scope}
    {dV kV doc pm cdv ct oc : Value} {an od : Option Addr} {osl : Array (Option Value)} {N ps : List Str} {sp : Sp}
    (lk : K.lookup f = some ⟨oc, od, .func (PySem.W.fnOf name qual params body scope dV kV doc pm an cdv ct), osl⟩)
    (hcd : PySem.W.codeIn K cdv qual = true) (S : FnScope N ps scope)
    (len : ∀ vs H Q E, sp vs H Q E → vs.length = ps.length)
    (hbody : ∀ (A : Around) (outer : List Env) (s : Shared) (H : Hp) (vs : List V) (Q : VK) (E : XK),
      Room k (A.deeper (envOfC qual scope s.heap.objs.size f cdv)) → A.guards = some [] → sp vs H Q E →
      ∃ t, PSs (cxOf CX P w K mg base N qual scope f cdv A outer s H E) body t ∧
        t { nx := fun _ H' => Q .non H', rt := Q } (start N vs) H) :
    FnG P w K mg base CX (k + 1) f (PySem.W.fnOf name qual params body scope dV kV doc pm an cdv ct) ps sp := by
  constructor
  · exact len
  intro A outer s H args us vs Q E hr gd e0 hb r hsp
  have old : ∀ b o, base.get? b = some o → s.heap.get? b = some o := fun b o e => (e0.bs b o e).1
  have KX : K.In s.heap := e0.mod.kin.keeps old
  have lim : s.heap.NoLimit := e0.mod.nolimit.keeps old
  have hkind : ∀ y ∈ ps.zip us, scope.names.lookup y.1 = some .local ∨
      (scope.names.lookup y.1 = some .cell ∧
        ((cellsFrom (s.heap.objs.size + 1) scope.names []).lookup y.1).isSome = true) := by
    rintro ⟨n, v⟩ hy
    have hn := (List.of_mem_zip hy).1
    rcases S.par n hn with q | q
    · exact Or.inl q
    · exact Or.inr ⟨q, PySem.W.cellsFrom_some _ _ _ (Or.inl q)⟩
  refine codeAny_call_function hr.depth (KX _ _ lk) rfl S.co S.gen rfl (PySem.W.codeRec_of KX hcd) (hb _ _ _ _ ?_)
  refine wpAny_newFunctionEnv_cells S.kind hkind ?_
  rintro env rfl s1 x
  refine ⟨lim.keeps x.toInCall.keep, codeAny_func ?_⟩
  obtain ⟨t, ht, hq⟩ := hbody A outer s H vs Q E (hr.deeper _) gd hsp
  have I := inv_start (CX := CX) (E := E) S hr.hd e0 (len _ _ _ _ hsp) r x
  refine wpAny_mono (ht.run [] s1 (start N vs) H _ I hq) ?_ (fun _ _ z => z)
  intro fl s' hs
  match fl, hs with
  | .ret u, ⟨v, σ', H', J, rv, q⟩ => exact ⟨v, H', J.os, J.bare, J.base, J.hok, rv, q⟩
  | .next, ⟨σ', H', J, q⟩ => exact ⟨V.non, H', J.os, J.bare, J.base, J.hok, rfl, q⟩
  | .brk, ⟨_, _, _, q⟩ => exact False.elim q
  | .cont, ⟨_, _, _, q⟩ => exact False.elim q

section
variable {P : Program} {w : World} {K : PySem.W.Frag} {mg : Str → Option Value} {base : Heap}
theorem okG {x qual : Str} {st : Stmt} {f : Addr} {fd : FuncData} {N ps : List Str} {k : Nat} {sp : Sp}
    (F : Fun K x qual st f fd) (S : FnScope N ps (defScope st))
    (len : ∀ vs H Q E, sp vs H Q E → vs.length = ps.length)
    (hbody : ∀ (cdv : Value) (A : Around) (outer : List Env) (s : Shared) (H : Hp) (vs : List V) (Q : VK) (E : XK),
      Room k (A.deeper (envOfC qual (defScope st) s.heap.objs.size f cdv)) → A.guards = some [] → sp vs H Q E →
      ∃ t, PSs (cxOf CX0 P w K mg base N qual (defScope st) f cdv A outer s H E).nox (defBody st) t ∧
        t { nx := fun _ H' => Q .non H', rt := Q } (start N vs) H) :
    FnG P w K mg base CX0 (k + 1) f fd ps sp := by
  obtain ⟨oc, od, kV, doc, pm, an, cdv, ct, osl, e, lk, hcd⟩ := F.ex
  subst e
  refine fnG_of lk hcd S len ?_
  intro A outer s H vs Q E hr gd hsp
  obtain ⟨t, h, q⟩ := hbody cdv A outer s H vs Q E hr gd hsp
  exact ⟨t, h.nox, q⟩
end

/-! ### the end of a law, by such a promise -/
theorem law_end {P : Program} {w : World} {K : PySem.W.Frag} {mg mb : Str → Option Value} {CX : CXT} {k : Nat}
    {fa a : Addr} {fd : FuncData} {x : Str} {sp : Sp} {s₁ : Shared} {vs : List Value} {ns : List Int}
    (KX : K.In s₁.heap) (hns : s₁.heap.Ns mainGlobals mg) (hb : s₁.heap.Ns builtinsNs mb)
    (hbb : ∀ x : Str, x ≠ "__name__" → mb x = bootBuiltins x) (hlim : s₁.heap.NoLimit) (hg : s₁.gens = #[])
    (ha : s₁.heap.get? a = some { cls := .type "list", data := .seq vs.toArray }) (hi : IntsAre vs ns)
    (hl : ns.length ≤ sizeLine) (hr : Room k callerA) (hsm : ∃ mm, s₁.heap.Ns sysModules mm)
    (F : ∀ base : Heap, K.In base → base.Ns mainGlobals mg → (∃ mm, base.Ns sysModules mm) → FnG P w K mg base CX k fa fd [x] sp)
    (hbind : ∀ (s : Shared) (u : Value), BindsTo s fd ⟨[u], []⟩ [(x, u)])
    (hsp : ∀ H : Hp, Only H → SqL K H a (ns.map V.int) → sp [.ref a] H (fun v _ => v = .bl true) fun _ _ _ => False)
    (hCX : ∀ H e s', CX [] H s₁ (fun _ _ _ => False) e s' → False) :
    codeAny (model P w) callerA (.call (.ref fa) ⟨[.ref a], []⟩)
      (fun r s' => r = .ok (.ret (.bool true)) ∧ OldK s₁.heap s'.heap ∧ s'.os = s₁.os ∧ AllBare s'.gens) s₁ := by
  have rv := vals_ints hi
  have lenV := hi.length
  have core : ∀ H : Hp, Only H → SqL K H a (ns.map V.int) → HOk P w H s₁.heap → (∀ b, H b ≠ none → b = a) →
      (H a ≠ none → K.lookup a = none) →
      codeAny (model P w) callerA (.call (.ref fa) ⟨[.ref a], []⟩)
        (fun r s' => r = .ok (.ret (.bool true)) ∧ OldK s₁.heap s'.heap ∧ s'.os = s₁.os ∧ AllBare s'.gens) s₁ := by
    intro H hO hS hok hA hK
    have at_a : ∀ {b : Addr} {u : HO}, H b = some u → b = a := fun {b u} q => hA b (by rw [q]; simp)
    have noA : ∀ {b : Addr} {o : Obj} {es : Array DictEntry} {ep : Nat}, s₁.heap.get? b = some o →
        o.data = .dict es ep → H b = none := by
      intro b o es ep e d
      cases q : H b with
      | none => rfl
      | some u =>
        rw [at_a q, ha] at e
        cases e
        exact nomatch d
    have nsK : ∀ {b : Addr} {m : Str → Option Value}, s₁.heap.Ns b m → (hidT s₁.heap H).Ns b m := by
      rintro b m ⟨o, es, ep, e, d, r⟩
      exact ⟨o, es, ep, hidT_get e (noA e d), d, r⟩
    have hKb : K.In (hidT s₁.heap H) := by
      intro b o e
      refine hidT_get (KX b o e) ?_
      cases q : H b with
      | none => rfl
      | some u =>
        have e' := at_a q
        subst e'
        rw [hK (by rw [q]; simp)] at e
        cases e
    have hM : Mod K mg (hidT s₁.heap H) := by
      obtain ⟨mc, h1, h2⟩ := hlim
      exact ⟨hKb, nsK hns, ⟨mb, nsK hb, hbb⟩, ⟨mc, nsK h1, h2⟩⟩
    have e0 : Env0 P w K mg (hidT s₁.heap H) callerA [] s₁ H := by
      refine ⟨rfl, hM, fun b o e => of_hidT e, Nat.le_of_eq (hidT_size _ _), trivial, ?_, hok, .of_eq hg⟩
      intro b hb
      exact absurd (show b ∈ ([] : List Addr) from hb) (by simp)
    have hmods : ∃ mm, (hidT s₁.heap H).Ns sysModules mm := by
      obtain ⟨mm, h1⟩ := hsm
      exact ⟨mm, nsK h1⟩
    have z := (F _ hKb (nsK hns) hmods).go callerA [] s₁ H ⟨[.ref a], []⟩ [.ref a] [.ref a] _ _ hr rfl e0
      (hbind s₁ (.ref a)) (.cons rfl .nil) (hsp H hO hS)
    refine codeAny_mono z fun r s' h => ?_
    match r, h with
    | .error e, h => exact (hCX H e s' h).elim
    | .ok .next, h => exact False.elim h
    | .ok .brk, h => exact False.elim h
    | .ok .cont, h => exact False.elim h
    | .ok (.ret u), ⟨v, H', os, bare, un, hok', r', q⟩ =>
      have q' : v = .bl true := q
      subst q'
      obtain rfl : u = Value.bool true := r'
      refine ⟨rfl, OldK.of_keep ?_, os, bare⟩
      intro b o e
      cases q : H b with
      | none =>
        refine un.keep b o e q ?_ (by simp)
        intro z
        exact absurd (show b ∈ ([] : List Addr) from z) (by simp)
      | some u =>
        rcases hO b with z | ⟨ob, xs, z⟩
        · rw [q] at z
          cases z
        · obtain ⟨e1, _⟩ := hok b _ z
          obtain ⟨e2, _⟩ := hok' b _ (un.frzs b ob _ z)
          rw [e] at e1
          cases e1
          exact e2
  cases hk : K.lookup a with
  | some o =>
    have e := KX a o hk
    rw [ha] at e
    cases e
    refine core (fun _ => none) (fun _ => Or.inl rfl) (Or.inr ⟨_, vs.toArray, _, hk, rfl, rfl, rfl, ?_, ?_⟩) ?_ ?_ ?_
    · rw [List.size_toArray, lenV]
      exact hl
    · simpa using rv
    · intro b u z
      cases (show (none : Option HO) = some u from z)
    · intro b z
      exact absurd rfl z
    · intro z
      exact absurd rfl z
  | none =>
    let o₁ : Obj := { cls := .type "list", data := .seq vs.toArray }
    let H₁ : Hp := fun b => if b = a then some (.frz o₁ (.lst (ns.map V.int))) else none
    have at1 : H₁ a = some (.frz o₁ (.lst (ns.map V.int))) := if_pos rfl
    have off : ∀ b, b ≠ a → H₁ b = none := fun b h => if_neg h
    refine core H₁ (fun b => ?_) (Or.inl (Or.inr ⟨o₁, at1⟩)) (fun b u z => ?_) (fun b z => ?_) fun _ => hk
    · by_cases hb : b = a
      · subst hb
        exact Or.inr ⟨_, _, at1⟩
      · exact Or.inl (off b hb)
    · by_cases hb : b = a
      · subst hb
        rw [at1] at z
        cases z
        refine ⟨ha, ?_, vs, _, rv, ha⟩
        rw [List.length_map]
        exact hl
      · rw [off b hb] at z
        cases z
    · by_cases hb : b = a
      · exact hb
      · exact absurd (off b hb) z

theorem walkG {l : PySem.W.OpenLaw} {n k : Nat} {q : Program} {loose : List Str} {XP : (Str → Option Value) → Heap → Prop}
    {YP : World → Heap → Prop} {d : DefRec} {K : Params → PySem.W.Frag} {CX : CXT} {sp : PySem.W.Frag → Sp} {x : Str}
    (hq : importsNone q = true) (hn : l.most = some n) (hn2 : n ≤ sizeLine) (hdf : d.params.defaults = []) (hr : Room k callerA)
    (hY : ∀ (w : World) (h : Heap), YP w h → (K w.params).In h)
    (F : ∀ (w : World) (mg : Str → Option Value) (fa : Addr) (h : Heap), (K w.params).In h → h.Ns mainGlobals mg →
      mg d.name = some (.ref fa) →
      ∃ fd : FuncData, (∀ (s : Shared) (u : Value), BindsTo s fd ⟨[u], []⟩ [(x, u)]) ∧
        ∀ base : Heap, (K w.params).In base → base.Ns mainGlobals mg → (∃ mm, base.Ns sysModules mm) →
          FnG l.prog w (K w.params) mg base CX k fa fd [x] (sp (K w.params)))
    (hsp : ∀ (K : PySem.W.Frag) (H : Hp) (a : Addr) (ns : List Int), ns.length ≤ n → Only H →
      SqL K H a (ns.map V.int) → sp K [.ref a] H (fun v _ => v = .bl true) fun _ _ _ => False)
    (hCX : ∀ (H : Hp) (s : Shared) (e : Value) (s' : Shared), CX [] H s (fun _ _ _ => False) e s' → False) :
    PySem.W.WalkO q loose XP YP l.row.toRowW d [] (fun f vs => PySem.call f vs) := by
  refine Att.attach_call hn hdf ?_
  intro w s₀ s₁ mg mb fa o pm cd doc a vs ns G Y ho hd hcd hmg hobj hints hlen hg
  have KX := hY w _ Y
  obtain ⟨fd, hb, hF⟩ := F w mg fa _ KX G.T.g hmg
  have hz := Nat.le_trans hlen hn2
  obtain ⟨mm, hmm, _⟩ := (G.T.seer hq).mods
  refine law_end KX G.T.g G.T.b G.T.builtins G.T.nolimit hg hobj hints hz hr ⟨mm, hmm⟩ hF hb ?_ ?_
  · exact fun H hO hS => hsp _ H a ns hlen hO hS
  · exact fun H e s' => hCX H s₁ e s'

/-! ### powers of great numbers -/
def CPowG (i j : Int) : Prop := 0 ≤ j ∧ (Builtin.Int.intBits i : Int) * j ≤ 2 ^ 27
theorem op_powG {X : Cx} : OpR X (binaryOp .Pow) (rI CPowG fun i j => .int (i ^ j.toNat)) :=
  opI fun _ _ _ _ _ _ _ hc q => pow_int hc.1 hc.2 q

/-! ### data at any depth, dicts among them -/
def kD : Key → PyData
  | .inl i => .int i
  | .inr x => .str x
mutual
inductive Da (K : PySem.W.Frag) (H : Hp) : V → PyData → Prop
  | non : Da K H .non .none
  | bl (b : Bool) : Da K H (.bl b) (.bool b)
  | int (i : Int) : Da K H (.int i) (.int i)
  | str (x : Str) : Da K H (.str x) (.str x)
  | lst {a : Addr} {xs : List V} {ds : List PyData} (h : SqL K H a xs) (t : DaAll K H xs ds) : Da K H (.ref a) (.list ds)
  | tup {a : Addr} {xs : List V} {ds : List PyData} (h : SqT K H a xs) (t : DaAll K H xs ds) : Da K H (.ref a) (.tuple ds)
  | dic {a : Addr} {kvs : List (Key × V)} {ds : List (PyData × PyData)} (h : H a = some (.dK kvs)) (t : DaKv K H kvs ds) : Da K H (.ref a) (.dict ds)
inductive DaAll (K : PySem.W.Frag) (H : Hp) : List V → List PyData → Prop
  | nil : DaAll K H [] []
  | cons {v : V} {vs : List V} {d : PyData} {ds : List PyData} (h : Da K H v d) (t : DaAll K H vs ds) : DaAll K H (v :: vs) (d :: ds)
inductive DaKv (K : PySem.W.Frag) (H : Hp) : List (Key × V) → List (PyData × PyData) → Prop
  | nil : DaKv K H [] []
  | cons {k : Key} {v : V} {kvs : List (Key × V)} {d : PyData} {ds : List (PyData × PyData)} (h : Da K H v d) (t : DaKv K H kvs ds) :
      DaKv K H ((k, v) :: kvs) ((kD k, d) :: ds)
end
section
variable {K : PySem.W.Frag} {H H' : Hp}
theorem seqT_mono (s : Same H H') {a : Addr} {xs : List V} (h : SqT K H a xs) : SqT K H' a xs := by
  rcases h with (e | ⟨o, e⟩) | e
  · exact .inl (.inl (s _ _ e))
  · exact .inl (.inr ⟨o, s _ _ e⟩)
  · exact .inr e
mutual
theorem Da.mono (s : Same H H') : ∀ {v : V} {d : PyData}, Da K H v d → Da K H' v d
  | _, _, .non => .non
  | _, _, .bl b => .bl b
  | _, _, .int i => .int i
  | _, _, .str x => .str x
  | _, _, .lst h t => .lst (s.seq h) (DaAll.mono s t)
  | _, _, .tup h t => .tup (seqT_mono s h) (DaAll.mono s t)
  | _, _, .dic h t => .dic (s _ _ h) (DaKv.mono s t)
theorem DaAll.mono (s : Same H H') : ∀ {vs : List V} {ds : List PyData}, DaAll K H vs ds → DaAll K H' vs ds
  | _, _, .nil => .nil
  | _, _, .cons h t => .cons (Da.mono s h) (DaAll.mono s t)
theorem DaKv.mono (s : Same H H') : ∀ {vs : List (Key × V)} {ds : List (PyData × PyData)}, DaKv K H vs ds → DaKv K H' vs ds
  | _, _, .nil => .nil
  | _, _, .cons h t => .cons (Da.mono s h) (DaKv.mono s t)
end
end
section
variable {X : Cx} {pins : List (Addr × Obj)} {σ : L2.St} {H : Hp} {s : Shared}
theorem key_reads {h : Heap} {k : Key} {u : Value} (e : keyIs k u = true) : Reads h u (kD k) [] := by
  rcases keyIs_shape e with ⟨i, t, rfl, rfl⟩ | ⟨x, t, rfl, rfl⟩
  · exact .int i t
  · exact .str x t
/-- a list does not stand where the modules' dict stands -/
theorem not_mods (hm : ∃ mm, X.base.Ns sysModules mm) (I : Inv X pins σ H s) {a : Addr} {o : Obj} {vs : Array Value} {n : Nat}
    (ho : s.heap.get? a = some o) (hd : o.data = .seq vs n) : sysModules ≠ a := by
  rintro rfl
  obtain ⟨mm, om, es, ep, e1, e2, _⟩ := hm
  have e3 := I.bk _ _ e1
  rw [ho] at e3
  cases e3
  rw [hd] at e2
  cases e2
mutual
theorem Da.reads (hm : ∃ mm, X.base.Ns sysModules mm) (I : Inv X pins σ H s) : ∀ (d : PyData) (v : V) (u : Value), Da X.K H v d → RelV v u → ∃ as, Reads s.heap u d as ∧ sysModules ∉ as
  | .none, _, _, h, r => by
    cases h
    cases r
    exact ⟨_, .none, by simp⟩
  | .bool b, _, _, h, r => by
    cases h
    cases r
    exact ⟨_, .bool b, by simp⟩
  | .int i, _, _, h, r => by
    cases h
    obtain ⟨t, rfl⟩ := r
    exact ⟨_, .int i t, by simp⟩
  | .str x, _, _, h, r => by
    cases h
    obtain ⟨t, rfl⟩ := r
    exact ⟨_, .str x t, by simp⟩
  | .list ds, _, _, h, r => by
    cases h with
    | lst hs ha =>
      cases r
      obtain ⟨its, rv, ⟨o, n, ho, hc, _, hd⟩, _⟩ := I.list hs
      obtain ⟨as, hr, no⟩ := Da.readsAll hm I ds _ its ha rv
      refine ⟨_, .list ho hc hd hr, ?_⟩
      rw [List.mem_cons, not_or]
      exact ⟨not_mods hm I ho hd, no⟩
  | .tuple ds, _, _, h, r => by
    cases h with
    | tup hs ha =>
      cases r
      obtain ⟨its, rv, ⟨o, ho, hc, n, hd⟩, _⟩ := I.tuple hs
      obtain ⟨as, hr, no⟩ := Da.readsAll hm I ds _ its ha rv
      exact ⟨_, .tuple ho hc hd hr, no⟩
  | .dict ds, _, _, h, r => by
    cases h with
    | @dic a kvs _ he hk =>
      cases r
      have ok : ObjOk X.prog X.w H s.heap a (.dK kvs) := I.hok a _ he
      obtain ⟨_, ns, vs, kv, o, es, ep, ho, ex, hd, _, ps, _⟩ := ok
      obtain ⟨as, bs, h1, h2, n1, n2⟩ := Da.readsKv hm I ds kvs vs es.toList hk kv ps
      refine ⟨_, .dict ho ex.1 hd h1 h2, ?_⟩
      rw [List.mem_append, List.mem_cons, not_or, not_or]
      refine ⟨⟨fun z => ?_, n1⟩, n2⟩
      rw [← z] at ns
      exact absurd ns (by decide)
theorem Da.readsAll (hm : ∃ mm, X.base.Ns sysModules mm) (I : Inv X pins σ H s) : ∀ (ds : List PyData) (vs : List V) (us : List Value), DaAll X.K H vs ds → Vals vs us → ∃ as, ReadsAll s.heap us ds as ∧ sysModules ∉ as
  | [], _, _, h, r => by
    cases h
    cases r
    exact ⟨_, .nil, by simp⟩
  | d :: ds, _, _, h, r => by
    cases h with
    | cons h1 h2 =>
      cases r with
      | cons r1 r2 =>
        obtain ⟨as, q1, n1⟩ := Da.reads hm I d _ _ h1 r1
        obtain ⟨bs, q2, n2⟩ := Da.readsAll hm I ds _ _ h2 r2
        refine ⟨_, .cons q1 q2, ?_⟩
        rw [List.mem_append, not_or]
        exact ⟨n1, n2⟩
theorem Da.readsKv (hm : ∃ mm, X.base.Ns sysModules mm) (I : Inv X pins σ H s) : ∀ (ds : List (PyData × PyData)) (kvs : List (Key × V)) (vs : List (Key × Value)) (es : List DictEntry), DaKv X.K H kvs ds → KV kvs vs →
    Pairs (mixKind X.prog X.w) es vs → ∃ as bs, ReadsAll s.heap (es.map (·.key)) (ds.map (·.1)) as ∧ ReadsAll s.heap (es.map (·.val)) (ds.map (·.2)) bs ∧ sysModules ∉ as ∧ sysModules ∉ bs
  | [], _, _, _, h, r, p => by
    cases h
    cases r
    cases p
    exact ⟨_, _, .nil, .nil, by simp, by simp⟩
  | d :: ds, _, _, _, h, r, p => by
    cases h with
    | cons h1 h2 =>
      cases r with
      | cons r1 r2 =>
        cases p with
        | cons p1 p2 p3 =>
          obtain ⟨e1, e2⟩ := r1
          obtain ⟨as, q1, n1⟩ := Da.reads hm I _ _ _ h1 e2
          obtain ⟨cs, bs, q2, q3, n2, n3⟩ := Da.readsKv hm I ds _ _ _ h2 r2 p3
          rw [← p2] at q1
          rw [← e1] at p1
          refine ⟨_, _, .cons (key_reads p1) q2, .cons q1 q3, by simpa using n2, ?_⟩
          rw [List.mem_append, not_or]
          exact ⟨n1, n3⟩
end
end
/-! ### repr of data -/
def rRepr (K : PySem.W.Frag) : List V → Hp → VK → Prop := fun xs H Q =>
  ∃ (a : Addr) (d : PyData), xs = [.ref a] ∧ Da K H (.ref a) d ∧ d.showable = true ∧ d.depth ≤ 64 ∧ d.shown.length ≤ sizeLine ∧ Q (.str d.shown) H
theorem call_repr {X : Cx} (hm : ∃ mm, X.base.Ns sysModules mm) (gd : X.A.guards = some []) (hu : X.A.units + 70 < cLine) :
    CallR X (.builtin "repr") (rRepr X.K) := by
  intro pins s σ H xs us Q I r h
  obtain ⟨a, d, rfl, hs, sh, dp, sz, q⟩ := h
  cases r with
  | cons r1 r2 =>
    cases r2
    obtain ⟨as, rd, sy⟩ := Da.reads hm I d _ _ hs r1
    obtain rfl := r1
    refine repr_of_reads' rd sh (fun _ => sy) gd (by omega) (fun _ _ e => e) (fun h' u tk k => ?_) sz
    exact ⟨.str d.shown, H, I.kept (h' := h') (t' := tk) k, ⟨u, rfl⟩, q⟩
end Ev

/-! ## What an expression gives, while all that is tracked stands -/
namespace Ev
open PySem PySem.Spec PyProof.Rows L2
theorem PE.imp {X : Cx} {e : Expr} {t t' : TE} (h : PE X e t) (i : ∀ σ H Q, t' σ H Q → t σ H Q) : PE X e t' :=
  ⟨fun pins s σ H Q I z => h.run pins s σ H Q I (i σ H Q z)⟩
theorem Same.rfl' {H : Hp} : Same H H := fun _ _ e => e
theorem same_put {H : Hp} {p : Addr} {o : HO} (h : H p = none) : Same H (upd H p o) := fun b x e => by
  rw [upd_ne (ne_of_none e h)]
  exact e
/-- all but p stands as it stood -/
def Bu (p : Addr) (H H' : Hp) : Prop := ∀ b o, b ≠ p → H b = some o → H' b = some o
theorem Bu.refl {p : Addr} {H : Hp} : Bu p H H := fun _ _ _ e => e
theorem Bu.trans {p : Addr} {H H1 H2 : Hp} (h : Bu p H H1) (k : Bu p H1 H2) : Bu p H H2 := fun b o n e => k b o n (h b o n e)
theorem Bu.put {p : Addr} {H : Hp} {o : HO} : Bu p H (upd H p o) := fun b _ n e => by
  rw [upd_ne n]
  exact e
theorem Bu.new {p q : Addr} {H : Hp} {o : HO} (h : H q = none) : Bu p H (upd H q o) := fun b _ _ e => by
  rw [upd_ne (ne_of_none e h)]
  exact e
theorem Bu.of {p : Addr} {H H' : Hp} (h : Same H H') : Bu p H H' := fun b o _ e => h b o e
structure GP where
  p : Hp → V → Prop
  mono : ∀ {H H' : Hp} {u : V}, Same H H' → p H u → p H' u
def AllG (Gs : List GP) (H : Hp) (us : List V) : Prop := Paired (fun (G : GP) u => G.p H u) Gs us
theorem AllG.mono {H H' : Hp} (s : Same H H') : ∀ {Gs : List GP} {us : List V}, AllG Gs H us → AllG Gs H' us
  | _, _, .nil => .nil
  | G :: _, _, .cons h t => .cons (G.mono s h) (AllG.mono s t)
theorem AllG.append {H : Hp} : ∀ {Gs Gs' : List GP} {us us' : List V}, AllG Gs H us → AllG Gs' H us' → AllG (Gs ++ Gs') H (us ++ us')
  | _, _, _, _, .nil, k => k
  | _ :: _, _, _, _, .cons h t, k => .cons h (AllG.append t k)
def gEq (v : V) : GP := ⟨fun _ u => u = v, fun _ h => h⟩
def gLst (Gs : List GP) : GP := ⟨fun H u => ∃ p us, u = .ref p ∧ H p = some (.lst us) ∧ AllG Gs H us, fun s ⟨p, us, h1, h2, h3⟩ => ⟨p, us, h1, s _ _ h2, h3.mono s⟩⟩
def Gives (H0 : Hp) (te : TE) (G : GP) (σ : L2.St) : Prop := ∀ (H : Hp) (Q : VK), Same H0 H → (∀ H' u, Same H H' → G.p H' u → Q u H') → te σ H Q
def GivesL (H0 : Hp) (ta : TA) (Gs : List GP) (σ : L2.St) : Prop := ∀ (H : Hp) (Q : List V → Hp → Prop), Same H0 H → (∀ H' us, Same H H' → AllG Gs H' us → Q us H') → ta σ H Q
section
variable {H0 : Hp} {σ : L2.St} {te te' : TE} {ta : TA} {G : GP} {Gs Gs' : List GP} {i : Nat} {v : V} {C : Addr} {D : Ends} {rest : TS}
theorem g_nil : GivesL H0 tNil [] σ := fun H Q _ q => q H [] Same.rfl' .nil
theorem g_cons (h : Gives H0 te G σ) (t : GivesL H0 ta Gs σ) : GivesL H0 (tCons te ta) (G :: Gs) σ := fun H Q s q =>
  h H _ s fun H1 u s1 g1 => t H1 _ (s.trans s1) fun H2 us s2 g2 => q H2 (u :: us) (s1.trans s2) (.cons (G.mono s2 g1) g2)
theorem g_lst (h : GivesL H0 ta Gs σ) (hz : Gs.length ≤ 1000 := by simp) : Gives H0 (tLst ta) (gLst Gs) σ := fun H Q s q =>
  h H _ s fun H1 us s1 g1 => by
    have hl : us.length = Gs.length := (Paired.length g1).symm
    refine ⟨?_, fun p np => ?_⟩
    · have y := sizeLine_eq
      omega
    · have s2 := same_put (o := .lst us) np
      exact q _ _ (s1.trans s2) ⟨p, us, rfl, upd_same, g1.mono s2⟩
theorem g_cat (h : Gives H0 te (gLst Gs) σ) (h' : Gives H0 te' (gLst Gs') σ) (hz : Gs.length + Gs'.length ≤ 1000 := by simp) :
    Gives H0 (tOp rCat te te') (gLst (Gs ++ Gs')) σ := fun H Q s q =>
  h H _ s fun H1 u s1 ⟨p, us, e1, h1, g1⟩ => h' H1 _ (s.trans s1) fun H2 u' s2 ⟨p', us', e2, h2, g2⟩ => by
    have l1 : us.length = Gs.length := (Paired.length g1).symm
    have l2 : us'.length = Gs'.length := (Paired.length g2).symm
    refine ⟨p, p', us, us', e1, e2, s2 _ _ h1, h2, ?_, fun r nr => ?_⟩
    · have y := sizeLine_eq
      omega
    · have s3 := same_put (o := .lst (us ++ us')) nr
      exact q _ _ ((s1.trans s2).trans s3) ⟨r, us ++ us', rfl, upd_same, AllG.append (g1.mono (s2.trans s3)) (g2.mono s3)⟩
theorem g_var (hv : σ[i]? = some (some v)) (g : G.p H0 v) : Gives H0 (tVar i) G σ := fun H Q s q => ⟨v, hv, q H v Same.rfl' (G.mono s g)⟩
theorem g_eq (hv : σ[i]? = some (some v)) : Gives H0 (tVar i) (gEq v) σ := g_var hv rfl
theorem s_set (h : Gives H0 te G σ) (k : ∀ H' u, Same H0 H' → G.p H' u → rest D (σ.set i (some u)) H') : tSeq (tAsg te (gName i)) rest D σ H0 :=
  h H0 _ Same.rfl' fun H' u s g => k H' u s g
theorem s_ret (h : Gives H0 te G σ) (k : ∀ H' u, Same H0 H' → G.p H' u → D.rt u H') : tRet te D σ H0 :=
  h H0 _ Same.rfl' fun H' u s g => k H' u s g
end
/-- the abstract heap without p -/
def but (H : Hp) (p : Addr) : Hp := fun b => if b = p then none else H b
theorem but_ne {H : Hp} {p b : Addr} (h : b ≠ p) : but H p b = H b := if_neg h
theorem but_same {H H' : Hp} {p : Addr} (s : Same H H') : Same (but H p) (but H' p) := fun b o e => by
  by_cases h : b = p
  · rw [h] at e
    have z : but H p p = none := if_pos rfl
    rw [z] at e
    cases e
  · rw [but_ne h] at e ⊢
    exact s _ _ e
theorem but_le {H H' : Hp} {p : Addr} (s : Bu p H H') : Same (but H p) H' := fun b o e => by
  by_cases h : b = p
  · rw [h] at e
    have z : but H p p = none := if_pos rfl
    rw [z] at e
    cases e
  · rw [but_ne h] at e
    exact s _ _ h e
/-- data that do not hold p -/
def gDa (K : PySem.W.Frag) (p : Addr) (d : PyData) : GP := ⟨fun H u => Da K (but H p) u d, fun s h => h.mono (but_same s)⟩
section
variable {K : PySem.W.Frag} {p : Addr} {op : HO} {H0 : Hp} {σ : L2.St} {te : TE} {ta : TA} {G : GP} {Gs : List GP} {v : V} {d : PyData} {ds : List PyData}
theorem ne_new {H : Hp} {q : Addr} (hp : H0 p = some op) (s : Same H0 H) (nq : H q = none) : q ≠ p := fun z => by
  rw [z, s _ _ hp] at nq
  cases nq
theorem g_c (h : ∀ H, G.p H v) : Gives H0 (tC v) G σ := fun H Q _ q => q H v Same.rfl' (h H)
theorem g_neg {i : Int} : Gives H0 (tUn (rU fun i => .int (-i)) (tC (.int i))) (gDa K p (.int (-i))) σ := fun H Q _ q => ⟨i, rfl, q H _ Same.rfl' (.int _)⟩
theorem g_pow {i j : Int} (h : CPow i j) : Gives H0 (tOp (rI CPow fun i j => .int (i ^ j.toNat)) (tC (.int i)) (tC (.int j))) (gDa K p (.int (i ^ j.toNat))) σ :=
  fun H Q _ q => ⟨i, j, rfl, rfl, h, q H _ Same.rfl' (.int _)⟩
theorem allDa {H : Hp} : ∀ {ds : List PyData} {us : List V}, AllG (ds.map (gDa K p)) H us → DaAll K (but H p) us ds
  | [], _, .nil => .nil
  | _ :: _, _, .cons h t => .cons h (allDa t)
theorem g_lstD (hp : H0 p = some op) (h : GivesL H0 ta (ds.map (gDa K p)) σ) (hz : ds.length ≤ 1000 := by simp) : Gives H0 (tLst ta) (gDa K p (.list ds)) σ := fun H Q s q =>
  h H _ s fun H1 us s1 g1 => by
    have hl : us.length = ds.length := by rw [← Paired.length g1, List.length_map]
    refine ⟨?_, fun r nr => ?_⟩
    · have y := sizeLine_eq
      omega
    · have s2 := same_put (o := .lst us) nr
      have ne := ne_new hp (s.trans s1) nr
      refine q _ _ (s1.trans s2) (.lst (.inl (.inl ?_)) ((allDa g1).mono (but_same s2)))
      rw [but_ne ne, upd_same]
theorem g_tupD (hp : H0 p = some op) (h : GivesL H0 ta (ds.map (gDa K p)) σ) (hz : ds.length ≤ 1000 := by simp) : Gives H0 (tTup ta) (gDa K p (.tuple ds)) σ := fun H Q s q =>
  h H _ s fun H1 us s1 g1 => by
    have hl : us.length = ds.length := by rw [← Paired.length g1, List.length_map]
    refine ⟨?_, fun r nr => ?_⟩
    · have y := sizeLine_eq
      omega
    · have s2 := same_put (o := .tup us) nr
      have ne := ne_new hp (s.trans s1) nr
      refine q _ _ (s1.trans s2) (.tup (.inl (.inl ?_)) ((allDa g1).mono (but_same s2)))
      rw [but_ne ne, upd_same]
theorem g_dnew (hp : H0 p = some op) : Gives H0 tDNewK (gDa K p (.dict [])) σ := fun H Q s q r nr => by
  refine q _ _ (same_put nr) (.dic ?_ .nil)
  rw [but_ne (ne_new hp s nr), upd_same]
theorem g_disp {x : Str} (hp : H0 p = some op) : Gives H0 (tDisp [(tC (.str x), tTup (tCons (tC .non) tNil))]) (gDa K p (.dict [(.str x, .tuple [.none])])) σ := fun H Q s q r nr => by
  refine ⟨(by show 1 ≤ sizeLine; decide), fun t nt => ?_⟩
  have ne : t ≠ r := fun z => by
    rw [z, upd_same] at nt
    cases nt
  have n1 := ne_new hp s nr
  have n2 := ne_new hp (s.trans (same_put nr)) nt
  refine ⟨by rw [upd_ne ne.symm, upd_same], [(.inr x, .ref t)], rfl, (by show 1 ≤ 15; decide), q _ _ ?_ (.dic (kvs := [(.inr x, .ref t)]) ?_ (.cons (.tup (xs := [.non]) (.inl (.inl ?_)) (.cons .non .nil)) .nil))⟩
  · intro b o e
    have nb : b ≠ r := ne_of_none e nr
    have nbt : b ≠ t := fun z => by
      rw [z] at e
      rw [upd_ne ne, e] at nt
      cases nt
    rw [upd_ne nb, upd_ne nbt, upd_ne nb]
    exact e
  · rw [but_ne n1]
    exact upd_same
  · rw [but_ne n2, upd_ne ne, upd_same]
theorem allEq {H : Hp} : ∀ {ys : List V}, AllG (ys.map gEq) H ys
  | [] => .nil
  | _ :: _ => .cons rfl allEq
/-- [elt for .. in xs], the elements plain values -/
theorem g_lcP {a : Addr} {xs ys : List V} {i : Nat} {g : TG} {vs : List Nat} (hi : σ[i]? = some (some (.ref a))) (hx : SqL K H0 a xs) (hz : xs.length ≤ 1000) (hl : ys.length = xs.length)
    (he : ∀ (j : Nat) (x y : V), xs[j]? = some x → ys[j]? = some y → ∀ (H : Hp) (R : VK), Same H0 H → R y H →
      g x (wipe σ vs) H fun σ2 H2 => wipe σ2 vs = wipe σ vs ∧ te σ2 H2 R) :
    Gives H0 (tLc (iList K (tVar i)) g tYes te vs) (gLst (ys.map gEq)) σ := fun H Q s q => by
  refine ⟨_, hi, a, rfl, ⟨xs, s.seq hx⟩, fun D nD => ?_⟩
  have sD : Same H (upd H D (.lst [])) := same_put nD
  have y := sizeLine_eq
  refine lc_list (K := K) (a := a) (xs := xs) (fun k H' => Same H H' ∧ H' D = some (.lst (ys.take k))) ⟨sD, upd_same⟩ (fun k H' _ ⟨s', _⟩ => s'.seq (s.seq hx)) ?_ ?_
  · rintro k x H' hk ⟨s', eD⟩
    have hk' : k < ys.length := by
      obtain ⟨h, _⟩ := List.getElem?_eq_some_iff.mp hk
      omega
    have hy := List.getElem?_eq_getElem hk'
    refine cast ?_ (he k x ys[k] hk hy H' (fun y H4 => ∃ acc, H4 D = some (.lst acc) ∧ acc.length < sizeLine ∧ Same H (upd H4 D (.lst (acc ++ [y]))) ∧ upd H4 D (.lst (acc ++ [y])) D = some (.lst (ys.take (k + 1)))) (s.trans s') ⟨_, eD, ?_, ?_, ?_⟩)
    · rfl
    · rw [List.length_take]
      omega
    · intro b o e
      rw [upd_ne (ne_of_none e nD)]
      exact s' _ _ e
    · rw [upd_same, List.take_add_one, hy]
      rfl
  · rintro H' ⟨s', eD⟩
    rw [← hl, List.take_length] at eD
    exact q H' _ s' ⟨D, ys, rfl, eD, allEq⟩
/-- [elt for i in range(m)], the elements plain values -/
theorem g_lcR {ys : List V} {m : Int} {g : TG} {vs : List Nat} (hm : -(2 ^ 62) ≤ m ∧ m < 2 ^ 62) (hl : ys.length = m.toNat) (hz : ys.length ≤ 1000)
    (he : ∀ (j : Nat) (y : V), ys[j]? = some y → ∀ (H : Hp) (R : VK), Same H0 H → R y H →
      g (.int (0 + j)) (wipe σ vs) H fun σ2 H2 => wipe σ2 vs = wipe σ vs ∧ te σ2 H2 R) :
    Gives H0 (tLc (iRng1 (tCons (tC (.int m)) tNil)) g tYes te vs) (gLst (ys.map gEq)) σ := fun H Q s q => by
  refine ⟨m, rfl, hm.1, hm.2, fun D nD => ?_⟩
  have sD : Same H (upd H D (.lst [])) := same_put nD
  have y := sizeLine_eq
  refine lc_range (lo := 0) (n := m.toNat) (fun k H' => Same H H' ∧ H' D = some (.lst (ys.take k))) ⟨sD, upd_same⟩ ?_ ?_
  · rintro k H' hk ⟨s', eD⟩
    have hk' : k < ys.length := by omega
    have hy := List.getElem?_eq_getElem hk'
    refine cast ?_ (he k ys[k] hy H' (fun y H4 => ∃ acc, H4 D = some (.lst acc) ∧ acc.length < sizeLine ∧ Same H (upd H4 D (.lst (acc ++ [y]))) ∧ upd H4 D (.lst (acc ++ [y])) D = some (.lst (ys.take (k + 1)))) (s.trans s') ⟨_, eD, ?_, ?_, ?_⟩)
    · rfl
    · rw [List.length_take]
      omega
    · intro b o e
      rw [upd_ne (ne_of_none e nD)]
      exact s' _ _ e
    · rw [upd_same, List.take_add_one, hy]
      rfl
  · rintro H' ⟨s', eD⟩
    rw [← hl, List.take_length] at eD
    exact q H' _ s' ⟨D, ys, rfl, eD, allEq⟩
/-! ### tests whose answer is known -/
def GivesT (H0 : Hp) (tt : TT) (b : Bool) (σ : L2.St) : Prop := ∀ (H : Hp) (Q : Bool → Hp → Prop), Same H0 H → (∀ H', Same H H' → Q b H') → tt σ H Q
theorem s_skip {tt : TT} {t rest : TS} {D : Ends} (h : GivesT H0 tt false σ) (k : ∀ H', Same H0 H' → rest D σ H') : tSeq (tIfS tt t tNext) rest D σ H0 :=
  h H0 _ Same.rfl' fun H' s => iteF (k H' s)
theorem s_skip1 {tt : TT} {t : TS} {D : Ends} (h : GivesT H0 tt false σ) (k : ∀ H', Same H0 H' → D.nx σ H') : tIfS tt t tNext D σ H0 :=
  h H0 _ Same.rfl' fun H' s => iteF (k H' s)
theorem g_repr (h : Gives H0 te G σ) (hd : ∀ H u, Same H0 H → G.p H u → ∃ a, u = .ref a ∧ Da K H u d) (h1 : d.showable = true) (h2 : d.depth ≤ 64) (h3 : d.shown.length ≤ sizeLine) :
    Gives H0 (tCB (rRepr K) (tCons te tNil)) (gEq (.str d.shown)) σ := fun H Q s q =>
  h H _ s fun H1 u s1 g1 => by
    obtain ⟨a, rfl, da⟩ := hd H1 u (s.trans s1) g1
    exact ⟨a, d, rfl, da, h1, h2, h3, q H1 _ s1 rfl⟩
theorem t_neS {te' : TE} {x : Str} (h : Gives H0 te (gEq (.str x)) σ) (h' : Gives H0 te' (gEq (.str x)) σ) : GivesT H0 (tTest (tOp rNe te te')) false σ := fun H Q s q =>
  h H _ s fun H1 u s1 e1 => h' H1 _ (s.trans s1) fun H2 u' s2 e2 => by
    have e1 : u = .str x := e1
    have e2 : u' = .str x := e2
    subst e1
    subst e2
    refine ⟨rfl, _, rfl, ?_⟩
    rw [decide_eq_true rfl]
    exact q H2 (s1.trans s2)
theorem dp_bools {H : Hp} : ∀ bs : List Bool, DpAll K H (bs.map V.bl) (bs.map PyData.bool)
  | [] => .nil
  | b :: bs => .cons (.bl b) (dp_bools bs)
theorem eqv_bools : ∀ bs : List Bool, PyData.eqvAll (bs.map PyData.bool) (bs.map PyData.bool) = true
  | [] => by simp [PyData.eqvAll]
  | b :: bs => by simp [PyData.eqvAll, PyData.eqv, eqv_bools bs]
theorem lay_bools : ∀ bs : List Bool, PyData.canLayAll0 (bs.map PyData.bool) = true
  | [] => by simp [PyData.canLayAll0]
  | b :: bs => by simp [PyData.canLayAll0, PyData.canLay0, lay_bools bs]
theorem depth_bools : ∀ bs : List Bool, PyData.depthAll (bs.map PyData.bool) = 0
  | [] => by simp [PyData.depthAll]
  | b :: bs => by simp [PyData.depthAll, PyData.depth, depth_bools bs]
theorem shaped_bools (bs : List Bool) : SeqAt.shaped (.list (bs.map PyData.bool)) = true := by
  show (PyData.canLay0 (.list (bs.map .bool)) && decide (PyData.depth (.list (bs.map .bool)) ≤ 64)) = true
  simp [PyData.canLay0, PyData.depth, lay_bools, depth_bools]
theorem all_bl {H : Hp} : ∀ {bs : List Bool} {us : List V}, AllG (bs.map fun b => gEq (.bl b)) H us → us = bs.map V.bl
  | [], _, .nil => rfl
  | _ :: _, _, .cons h t => by
    have h : _ = V.bl _ := h
    rw [h, all_bl t]
    rfl
theorem t_neB {te' : TE} {bs : List Bool} (h : Gives H0 te (gLst (bs.map fun b => gEq (.bl b))) σ) (h' : Gives H0 te' (gLst (bs.map fun b => gEq (.bl b))) σ) :
    GivesT H0 (tTest (tOp (rNeD K) te te')) false σ := fun H Q s q =>
  h H _ s fun H1 u s1 ⟨p1, us1, e1, l1, g1⟩ => h' H1 _ (s.trans s1) fun H2 u' s2 ⟨p2, us2, e2, l2, g2⟩ => by
    subst e1
    subst e2
    rw [all_bl g1] at l1
    rw [all_bl g2] at l2
    refine ⟨_, _, .lst (.inl (.inl (s2 _ _ l1))) (dp_bools bs), .lst (.inl (.inl l2)) (dp_bools bs), shaped_bools bs, shaped_bools bs, _, rfl, ?_⟩
    have z : PyData.eqv (.list (bs.map .bool)) (.list (bs.map .bool)) = true := by
      simp only [PyData.eqv]
      exact eqv_bools bs
    rw [z]
    exact q H2 (s1.trans s2)
theorem t_not {tt : TT} {b : Bool} (h : GivesT H0 tt b σ) : GivesT H0 (tNot tt) (!b) σ := fun H Q s q => h H _ s q
theorem t_orF {tt uu : TT} (h : GivesT H0 tt false σ) (k : GivesT H0 uu false σ) : GivesT H0 (tOr tt uu) false σ := fun H Q s q =>
  h H _ s fun H1 s1 => iteF (k H1 Q (s.trans s1) fun H2 s2 => q H2 (s1.trans s2))
end
section
variable {K : PySem.W.Frag} {p : Addr} {H0 : Hp} {σ : L2.St}
theorem g_nonD : Gives H0 (tC .non) (gDa K p .none) σ := g_c fun _ => Da.non
theorem g_blD {b : Bool} : Gives H0 (tC (.bl b)) (gDa K p (.bool b)) σ := g_c fun _ => Da.bl b
theorem g_intD {i : Int} : Gives H0 (tC (.int i)) (gDa K p (.int i)) σ := g_c fun _ => Da.int i
theorem g_strD {x : Str} : Gives H0 (tC (.str x)) (gDa K p (.str x)) σ := g_c fun _ => Da.str x
end
theorem sum_le_all (m : Nat) : ∀ l : List Nat, (∀ n ∈ l, n ≤ m) → l.sum ≤ m * l.length
  | [], _ => by simp
  | n :: l, h => by
    have h1 := h n (List.mem_cons_self ..)
    have h2 := sum_le_all m l fun k hk => h k (List.mem_cons_of_mem _ hk)
    rw [List.sum_cons, List.length_cons, Nat.mul_succ]
    omega
theorem mem_all {H : Hp} : ∀ {Gs : List GP} {us : List V}, AllG Gs H us → ∀ v ∈ us, ∃ G ∈ Gs, G.p H v
  | _, _, .nil, _, h => nomatch h
  | G :: _, _, .cons h t, v, hv => by
    rcases List.mem_cons.mp hv with rfl | hv
    · exact ⟨G, List.mem_cons_self .., h⟩
    · obtain ⟨G', h1, h2⟩ := mem_all t v hv
      exact ⟨G', List.mem_cons_of_mem _ h1, h2⟩
theorem all_eq {H : Hp} : ∀ {ys us : List V}, AllG (ys.map gEq) H us → us = ys
  | [], _, .nil => rfl
  | _ :: _, _, .cons h t => by
    have h : _ = _ := h
    rw [h, all_eq t]
end Ev

/-! ## General steps -/
namespace Ev
open PySem PySem.Spec PyProof.Rows L2
section
variable {K : PySem.W.Frag} {B H0 : Hp} {σ : L2.St} {te tf : TE} {ta : TA} {i : Nat} {x v : V} {d : PyData} {ds : List PyData} {b c : Bool} {T : String} {tt uu : TT} {t rest : TS} {D : Ends} {a : Addr} {xs : List V} {k : Int} {G : GP}
theorem t_or (h : GivesT H0 tt b σ) (k : b = false → GivesT H0 uu c σ) : GivesT H0 (tOr tt uu) (b || c) σ := fun H Q s q =>
  h H _ s fun H1 s1 => by
    cases b with
    | true => exact iteT (q H1 s1)
    | false => exact iteF (k rfl H1 Q (s.trans s1) fun H2 s2 => q H2 (s1.trans s2))
theorem s_ifB (h : GivesT H0 tt b σ) (k1 : b = true → ∀ H', Same H0 H' → t { D with nx := rest D } σ H') (k2 : b = false → ∀ H', Same H0 H' → rest D σ H') : tSeq (tIfS tt t tNext) rest D σ H0 :=
  h H0 _ Same.rfl' fun H' s => by
    cases b with
    | true => exact iteT (k1 rfl H' s)
    | false => exact iteF (k2 rfl H' s)
theorem t_andB (h : GivesT H0 tt b σ) (k : b = true → GivesT H0 uu c σ) : GivesT H0 (tAnd tt uu) (b && c) σ := fun H Q s q =>
  h H _ s fun H1 s1 => by
    cases b with
    | true => exact iteT (k rfl H1 Q (s.trans s1) fun H2 s2 => q H2 (s1.trans s2))
    | false => exact iteF (q H1 s1)
theorem s_ifB1 (h : GivesT H0 tt b σ) (k1 : b = true → ∀ H', Same H0 H' → t D σ H') (k2 : b = false → ∀ H', Same H0 H' → D.nx σ H') : tIfS tt t tNext D σ H0 :=
  h H0 _ Same.rfl' fun H' s => by
    cases b with
    | true => exact iteT (k1 rfl H' s)
    | false => exact iteF (k2 rfl H' s)
theorem s_set1 (h : Gives H0 te G σ) (k : ∀ H' u, Same H0 H' → G.p H' u → D.nx (σ.set i (some u)) H') : tAsg te (gName i) D σ H0 :=
  h H0 _ Same.rfl' fun H' u s g => k H' u s g
theorem t_eqI2 {r k : Int} (h : Gives H0 te (gEq (.int r)) σ) : GivesT H0 (tTest (tOp rEq te (tC (.int k)))) (decide (r = k)) σ := fun H Q s q =>
  h H _ s fun H1 u s1 e => by
    have e : u = .int r := e
    subst e
    refine ⟨rfl, _, rfl, ?_⟩
    have z : decide (V.int r = V.int k) = decide (r = k) := decide_eq_decide.mpr ⟨fun h => V.int.inj h, fun h => by rw [h]⟩
    rw [z]
    exact q H1 s1
theorem t_eqI {r k : Int} (h : σ[i]? = some (some (.int r))) : GivesT H0 (tTest (tOp rEq (tVar i) (tC (.int k)))) (decide (r = k)) σ := fun H Q s q => by
  refine ⟨_, h, rfl, _, rfl, ?_⟩
  have z : decide (V.int r = V.int k) = decide (r = k) := decide_eq_decide.mpr ⟨fun h => V.int.inj h, fun h => by rw [h]⟩
  rw [z]
  exact q H Same.rfl'
theorem t_neI {r k : Int} (h : Gives H0 te (gEq (.int r)) σ) : GivesT H0 (tTest (tOp rNe te (tC (.int k)))) (!decide (r = k)) σ := fun H Q s q =>
  h H _ s fun H1 u s1 e => by
    have e : u = .int r := e
    subst e
    refine ⟨rfl, _, rfl, ?_⟩
    have z : decide (V.int r = V.int k) = decide (r = k) := decide_eq_decide.mpr ⟨fun h => V.int.inj h, fun h => by rw [h]⟩
    rw [z]
    exact q H1 s1
theorem g_and (h : Gives H0 te (gEq (.bl b)) σ) (k : b = true → Gives H0 tf (gEq (.bl c)) σ) : Gives H0 (tAndV te tf) (gEq (.bl (b && c))) σ := fun H Q s q =>
  h H _ s fun H1 u s1 e => by
    refine ⟨b, e, ?_⟩
    cases b with
    | true => exact iteT (k rfl H1 Q (s.trans s1) fun H2 u2 s2 e2 => q H2 u2 (s1.trans s2) e2)
    | false => exact iteF (q H1 _ s1 rfl)
theorem t_valB (h : Gives H0 te (gEq (.bl b)) σ) : GivesT H0 (tB te) b σ := fun H Q s q => h H _ s fun H1 u s1 e => ⟨b, e, q H1 s1⟩
end
abbrev rGtI : R2 := rI0 fun i j => .bl (decide (j < i))
abbrev rLeI : R2 := rI0 fun i j => .bl (decide (i ≤ j))
abbrev rLtI : R2 := rI0 fun i j => .bl (decide (i < j))
theorem g_all {K : PySem.W.Frag} {H0 : Hp} {σ : L2.St} {te : TE} {bs : List Bool} (h : Gives H0 te (gLst (bs.map fun b => gEq (.bl b))) σ) : Gives H0 (tCB (rAll K) (tCons te tNil)) (gEq (.bl (bs.all id))) σ := fun H Q s q =>
  h H _ s fun H1 u s1 g1 => by
    obtain ⟨p, us, rfl, hp, ha⟩ := g1
    have eu := all_bl ha
    subst eu
    exact ⟨p, bs, rfl, .inl (.inl hp), q H1 _ s1 rfl⟩
def rReprA (K : PySem.W.Frag) : List V → Hp → VK → Prop := fun xs H Q =>
  ∃ (x : V) (d : PyData), xs = [x] ∧ Da K H x d ∧ d.showable = true ∧ d.depth ≤ 64 ∧ d.shown.length ≤ sizeLine ∧ Q (.str d.shown) H
theorem call_reprA {X : Cx} (hm : ∃ mm, X.base.Ns sysModules mm) (gd : X.A.guards = some []) (hu : X.A.units + 70 < cLine) :
    CallR X (.builtin "repr") (rReprA X.K) := by
  intro pins s σ H xs us Q I r h
  obtain ⟨x, d, rfl, hs, sh, dp, sz, q⟩ := h
  have big : ∀ a, x = .ref a → wpAny (model X.prog X.w) X.A (call (.builtin "repr") us) (EP X pins σ Q) X.xe s := by
    rintro a rfl
    exact call_repr hm gd hu pins s σ H _ us Q I r ⟨a, d, rfl, hs, sh, dp, sz, q⟩
  cases hs with
  | non =>
    cases r with
    | cons r1 r2 =>
      cases r2
      cases r1
      rw [PyData.shown] at q
      exact PySem.P.repr_of_none ⟨.str _, H, I.tok _, ⟨_, rfl⟩, q⟩
  | bl b =>
    cases r with
    | cons r1 r2 =>
      cases r2
      cases r1
      rw [PyData.shown] at q
      exact PySem.P.repr_of_bool ⟨.str _, H, I.tok _, ⟨_, rfl⟩, q⟩
  | int i =>
    cases r with
    | cons r1 r2 =>
      cases r2
      obtain ⟨t, rfl⟩ := r1
      rw [PyData.shown] at q
      exact PySem.P.repr_of_int (by rw [PyData.showable] at sh; exact of_decide_eq_true sh) ⟨.str _, H, I.tok _, ⟨_, rfl⟩, q⟩
  | str z =>
    cases r with
    | cons r1 r2 =>
      cases r2
      obtain ⟨t, rfl⟩ := r1
      rw [PyData.shown] at q sz
      exact PySem.P.repr_of_str ⟨.str _, H, I.tok _, ⟨_, rfl⟩, q⟩ sz
  | lst h1 h2 => exact big _ rfl
  | tup h1 h2 => exact big _ rfl
  | dic h1 h2 => exact big _ rfl
theorem s_par {H0 : Hp} {σ : L2.St} {ta : TA} {G1 G2 : GP} {i j : Nat} {D : Ends} {rest : TS} (h : GivesL H0 ta [G1, G2] σ) (k : ∀ H' u1 u2, Same H0 H' → G1.p H' u1 → G2.p H' u2 → rest D ((σ.set i (some u1)).set j (some u2)) H') : tSeq (tPar i j ta) rest D σ H0 :=
  h H0 _ Same.rfl' fun H' us s g => by
    cases g with
    | @cons _ u1 _ _ g1 g =>
    cases g with
    | @cons _ u2 _ _ g2 g =>
    cases g
    exact ⟨u1, u2, rfl, k H' u1 u2 s g1 g2⟩
section
variable {K : PySem.W.Frag} {B H0 : Hp} {σ : L2.St} {te tf : TE} {ta : TA} {i : Nat} {x v : V} {d : PyData} {ds : List PyData} {b c : Bool} {T : String} {tt uu : TT} {t rest : TS} {D : Ends} {a : Addr} {xs : List V} {k : Int} {G : GP}
theorem g_reprA (h : σ[i]? = some (some x)) (hd : Da K H0 x d) (h1 : d.showable = true) (h2 : d.depth ≤ 64) (h3 : d.shown.length ≤ sizeLine) : Gives H0 (tCB (rReprA K) (tCons (tVar i) tNil)) (gEq (.str d.shown)) σ := fun H Q s q =>
  ⟨_, h, x, d, rfl, hd.mono s, h1, h2, h3, q H _ Same.rfl' rfl⟩
theorem g_eqS {y z : Str} (h : Gives H0 te (gEq (.str y)) σ) (h' : Gives H0 tf (gEq (.str z)) σ) : Gives H0 (tOp rEq te tf) (gEq (.bl (decide (y = z)))) σ := fun H Q s q =>
  h H _ s fun H1 u s1 e1 => h' H1 _ (s.trans s1) fun H2 u' s2 e2 => by
    have e1 : u = .str y := e1
    have e2 : u' = .str z := e2
    subst e1
    subst e2
    refine ⟨rfl, q H2 _ (s1.trans s2) ?_⟩
    show _ = _
    congr 1
    exact decide_eq_decide.mpr ⟨fun h => V.str.inj h, fun h => by rw [h]⟩
end
theorem Gives.imp {H0 : Hp} {te : TE} {G G' : GP} {σ : L2.St} (h : Gives H0 te G σ) (i : ∀ H u, Same H0 H → G.p H u → G'.p H u) : Gives H0 te G' σ := fun H Q s q =>
  h H _ s fun H1 u s1 g => q H1 u s1 (i H1 u (s.trans s1) g)
theorem keepA {a p : Addr} {H1 H H' : Hp} (np : H1 p = none) (h : ∀ o, H1 a = some o → H a = some o) (b : Bu p H H') : ∀ o, H1 a = some o → H' a = some o := fun o e => b _ _ (ne_of_none e np) (h o e)
theorem sq_of {K : PySem.W.Frag} {a : Addr} {H H' : Hp} {zs : List V} (s : SqL K H a zs) (h : ∀ o, H a = some o → H' a = some o) : SqL K H' a zs := by
  rcases s with (e | ⟨o, e⟩) | e
  · exact .inl (.inl (h _ e))
  · exact .inl (.inr ⟨o, h _ e⟩)
  · exact .inr e
theorem mm_at (z : Int) (h : z ≤ 3) : -(2 ^ 62) ≤ (if z > 1 then z else 1) ∧ (if z > 1 then z else 1) < 2 ^ 62 ∧ (if z > 1 then z else 1).toNat ≤ 3 := by
  split <;> omega
theorem mm_le (n : Int) : (if n < 3 then n else 3) ≤ 3 := by
  split <;> omega
section
variable {K : PySem.W.Frag} {B H0 : Hp} {σ : L2.St} {te tf : TE} {ta : TA} {i : Nat} {x v : V} {d : PyData} {ds : List PyData} {b c : Bool} {T : String} {tt uu : TT} {t rest : TS} {D : Ends} {a : Addr} {xs : List V} {k : Int} {G : GP}
theorem g_lcQ {a : Addr} {xs ys : List V} {i : Nat} {g : TG} {vs : List Nat} (hi : σ[i]? = some (some (.ref a))) (hx : SqL K H0 a xs) (hz : xs.length ≤ 1000) (hl : ys.length = xs.length)
    (he : ∀ (j : Nat) (x y : V), xs[j]? = some x → ys[j]? = some y → ∀ (H : Hp) (R : VK), Same H0 H → (∀ H', Same H H' → R y H') →
      g x (wipe σ vs) H fun σ2 H2 => wipe σ2 vs = wipe σ vs ∧ te σ2 H2 R) :
    Gives H0 (tLc (iList K (tVar i)) g tYes te vs) (gLst (ys.map gEq)) σ := fun H Q s q => by
  refine ⟨_, hi, a, rfl, ⟨xs, s.seq hx⟩, fun D nD => ?_⟩
  have sD : Same H (upd H D (.lst [])) := same_put nD
  have y := sizeLine_eq
  refine lc_list (K := K) (a := a) (xs := xs) (fun k H' => Same H H' ∧ H' D = some (.lst (ys.take k))) ⟨sD, upd_same⟩ (fun k H' _ ⟨s', _⟩ => s'.seq (s.seq hx)) ?_ ?_
  · rintro k x H' hk ⟨s', eD⟩
    have hk' : k < ys.length := by
      obtain ⟨h, _⟩ := List.getElem?_eq_some_iff.mp hk
      omega
    have hy := List.getElem?_eq_getElem hk'
    refine cast ?_ (he k x ys[k] hk hy H' (fun y H4 => ∃ acc, H4 D = some (.lst acc) ∧ acc.length < sizeLine ∧ Same H (upd H4 D (.lst (acc ++ [y]))) ∧ upd H4 D (.lst (acc ++ [y])) D = some (.lst (ys.take (k + 1)))) (s.trans s') fun H4 s4 => ⟨_, s4 _ _ eD, ?_, ?_, ?_⟩)
    · rfl
    · rw [List.length_take]
      omega
    · intro b o e
      rw [upd_ne (ne_of_none e nD)]
      exact s4 _ _ (s' _ _ e)
    · rw [upd_same, List.take_add_one, hy]
      rfl
  · rintro H' ⟨s', eD⟩
    rw [← hl, List.take_length] at eD
    exact q H' _ s' ⟨D, ys, rfl, eD, allEq⟩
end
/-! ### f(k = v, ..), keywords alone -/
section
variable {X : Cx} {CX : CXT} {k : Nat} {f : Addr} {fd : FuncData} {ps ks : List Str} {sp : Sp} {E : XK} {x : Str} {p pos : Pos} {kws : List Keyword} {tk : TA} {pm : {α : Type} → List α → List α}
def tCallKs (pm : {α : Type} → List α → List α) (sp : Sp) (E : XK) (tk : TA) : TE := fun σ H Q => tk σ H fun zs H2 => sp (pm zs) H2 Q E
theorem pe_callKs (pm : {α : Type} → List α → List α) (F : FnOk X.prog X.w X.K X.mg X.base CX k f fd ps sp) (hr : Room k X.A) (hg : Gl X x) (hm : X.mg x = some (.ref f)) (hk : PySem.W.keepIn X.K (.ref f) = true)
    (hb : ∀ (s : Shared) (us : List Value), us.length = ks.length → BindsTo s fd ⟨[], ks.zip us⟩ (ps.zip (pm us))) (hpm : ∀ (zs : List V) (us : List Value), zs.length = ks.length → Vals zs us → Vals (pm zs) (pm us)) (hx : Passes CX X E)
    (hkw : PK X kws tk) (hl : ∀ zs H Q E, sp (pm zs) H Q E → zs.length = ks.length) (hall : (backToKw pos (keywordEach kws X.env)).all (·.1.isSome) = true := by rfl) (hks : (backToKw pos (keywordEach kws X.env)).filterMap (·.1) = ks := by rfl)
    (hdb : (x == ("__debug__" : Str)) = false := by decide) (hpl : ((backTo pos (starEach [] X.env)).any (·.1) || (backToKw pos (keywordEach kws X.env)).any (·.1.isNone)) = false := by rfl) :
    PE X (.Call (.Name x p) [] kws pos) (tCallKs pm sp E tk) := by
  refine ⟨fun pins s σ H Q I h => ?_⟩
  refine wpAny_Call_Name_kw (ld_glob I hg hm ?_ hdb)
  refine PySem.W.callWith_KW0 (h₀ := X.base) I.ok.mod.kin hk hall ?_ hpl
  refine thn (hkw.run pos pins s σ H _ I h) fun ws s2 ⟨zs, H2, I2, rz, q2⟩ => ⟨I2.kIn, ?_⟩
  rw [hks]
  have hz := hl _ _ _ _ q2
  refine wpAny_call (codeAny_mono (F.run X.A X.stack s2 H2 ⟨[], ks.zip ws⟩ (pm ws) (pm zs) Q E hr I2.env0 (hb s2 ws (rz.length.symm.trans hz)) (hpm zs ws hz rz) q2) fun r s' hq => ?_)
  cases r with
  | error e => exact hx pins σ H2 s2 e s' I2 hq
  | ok fl =>
    cases fl with
    | ret u => exact I2.after hq
    | next => exact False.elim hq
    | brk => exact False.elim hq
    | cont => exact False.elim hq
end
end Ev

/-! ## Sets of texts, whose members can be walked -/
namespace Ev
open PySem PySem.Spec PyProof.Rows L2
def keyS (e : Int × Value) : Str := match e.2 with
  | .str x _ => x
  | _ => ""
def goodS (w : World) (e : Int × Value) : Prop := ∃ x tk, e = (hashStr w x, Value.str x tk)
/-- what is left when k comes in -/
def addN (ks : List Str) (k : Str) : List Str := if k ∈ ks then ks else ks ++ [k]
theorem mem_addN {ks : List Str} {k x : Str} : x ∈ addN ks k ↔ x ∈ ks ∨ x = k := by
  unfold addN
  split
  · exact ⟨.inl, fun z => z.elim id fun e => by rw [e]; assumption⟩
  · rw [List.mem_append, List.mem_singleton]
theorem addN_nodup {ks : List Str} {k : Str} (h : ks.Nodup) : (addN ks k).Nodup := by
  unfold addN
  split
  · exact h
  · rename_i n
    rw [List.nodup_append]
    refine ⟨h, by simp, fun x hx y hy e => ?_⟩
    rw [List.mem_singleton.mp hy] at e
    rw [e] at hx
    exact n hx
theorem addN_len {ks : List Str} {k : Str} : (addN ks k).length ≤ ks.length + 1 := by
  unfold addN
  split
  · exact Nat.le_succ _
  · rw [List.length_append]
    exact Nat.le_refl _
/-- the set of the texts ks at a -/
def SetS (w : World) (h : Heap) (a : Addr) (ks : List Str) : Prop := ∃ (o : Obj) (es : Array (Int × Value)) (ep : Nat) (t : SetTable), h.get? a = some o ∧ o.ExactSet ∧ o.data = .set es ep t ∧ (∀ e ∈ es.toList, goodS w e) ∧
  (es.toList.map keyS).Perm ks ∧ ks.Nodup ∧ es.size < scanBound ∧ t.fits es.size = true ∧ Ris t.place.toList ∧ (w.params.followText "set-order" = true ∨ t.led = true)
section
variable {P : Program} {w : World} {A : Around} {E : Value → Shared → Prop} {s : Shared} {h h' : Heap} {a : Addr} {ks : List Str}
theorem SetS.at (R : SetS w h a ks) (k : ∀ o, h.get? a = some o → h'.get? a = some o) : SetS w h' a ks := by
  obtain ⟨o, es, ep, t, ho, r⟩ := R
  exact ⟨o, es, ep, t, k o ho, r⟩
theorem goodS_elems {l : List (Int × Value)} (g : ∀ e ∈ l, goodS w e) : ElemsOf (PySem.strKind P w) l := fun e he => by
  obtain ⟨x, tk, rfl⟩ := g e he
  refine ⟨⟨x, ?_, rfl⟩, rfl⟩
  show Value.isStrOf x (.str x tk) = true
  simp [Value.isStrOf]
theorem goodS_is {e : Int × Value} (g : goodS w e) (x : Str) : (PySem.strKind P w).is x e.2 = true ↔ keyS e = x := by
  obtain ⟨y, tk, rfl⟩ := g
  show Value.isStrOf x (.str y tk) = true ↔ y = x
  simp [Value.isStrOf]
theorem SetS.kind (R : SetS w h a ks) : h.SetOf (PySem.strKind P w) a (fun k => decide (k ∈ ks)) ks.length := by
  obtain ⟨o, es, ep, t, ho, hx, hd, g, pm, nd, hb, hf, _⟩ := R
  refine ⟨o, es, ep, t, ho, hx, hd, goodS_elems g, fun k => ?_, hb, hf, ?_⟩
  · rw [decide_eq_true_iff, ← pm.mem_iff, List.mem_map]
    constructor
    · rintro ⟨e, he, q⟩
      exact ⟨e, he, (goodS_is (g e he) k).2 q⟩
    · rintro ⟨e, he, q⟩
      exact ⟨e, he, (goodS_is (g e he) k).1 q⟩
  · have z := pm.length_eq
    rw [List.length_map, Array.length_toList] at z
    exact z
theorem setS_new (w : World) (h : Heap) : SetS w (h.push { cls := .type "set", dict := none, data := .set #[] 0 (.fresh 0 0 (!w.params.followText "set-order")) }) h.objs.size [] := by
  refine ⟨_, #[], 0, _, Heap.get?_push_size _ rfl, ⟨rfl, rfl, rfl⟩, rfl, fun e he => ?_, .nil, .nil, by decide, by rfl, .nil, ?_⟩
  · cases he
  · by_cases z : w.params.followText "set-order" = true
    · exact .inl z
    · refine .inr ?_
      show (!w.params.followText "set-order") = true
      rw [Bool.eq_false_iff.mpr z]
      rfl
/-- the entries es1 in the table t1 are written, and laid anew where the table is full -/
theorem lay_S {g : Bool → Sem Unit} (hg : ∀ (b : Bool) (s1 : Shared) (Q' : Unit → Shared → Prop), Q' () s1 → wpAny (model P w) A (g b) Q' E s1) {o : Obj} {es es1 : Array (Int × Value)} {ep : Nat} {t t1 : SetTable}
    (ho : s.heap.get? a = some o) (hx : o.ExactSet) (hd : o.data = .set es ep t) (g1 : ∀ e ∈ es1.toList, goodS w e) (pm : (es1.toList.map keyS).Perm ks) (nd : ks.Nodup) (hb : es1.size < scanBound) (hf : t1.fits es1.size = true)
    (hr : Ris t1.place.toList) (hl : w.params.followText "set-order" = true ∨ t1.led = true) {was : Bool} {R : Option Bool → Shared → Prop} (k : ∀ h', Heap.SameBut a s.heap h' → SetS w h' a ks → R (some true) { s with heap := h' }) :
    wpAny (model P w) A (do
        storeSet a es1 t1
        if (!was && t1.tooFull) = true then do
            g (relayAll t1 es1 (SetTable.grown es1.size)).2.2
            storeSet a (relayAll t1 es1 (SetTable.grown es1.size)).1 (relayAll t1 es1 (SetTable.grown es1.size)).2.1
            pure (some true)
          else pure (some true)) R E s := by
  have put : ∀ {hh : Heap} {oo : Obj} {e0 e1 : Array (Int × Value)} {n : Nat} {t0 t2 : SetTable}, hh.get? a = some oo → oo.data = .set e0 n t0 → (hh.update a (Obj.putSet e1 t2)).get? a = some { oo with data := .set e1 (n + 1) t2 } := by
    intro hh oo e0 e1 n t0 t2 x y
    have z := Heap.get?_update_self (Obj.putSet e1 t2) x (by rw [putSet_of e1 t2 y]; rfl)
    rw [putSet_of e1 t2 y] at z
    exact z
  have o1 := put (e1 := es1) (t2 := t1) ho hd
  have b1 := Heap.SameBut.update s.heap a (Obj.putSet es1 t1)
  refine wpAny_bind (wpAny_storeSet_of ho hd ?_ (fits_of_scanBound hb))
  by_cases full : (!was && t1.tooFull) = true
  · rw [if_pos full]
    have q1 := relayAll_perm t1 es1 (SetTable.grown es1.size)
    have q2 := relayAll_fits t1 es1 (SetTable.grown es1.size)
    have q3 := relayAll_ris t1 es1 (SetTable.grown es1.size)
    have q4 := relayAll_led t1 es1 (SetTable.grown es1.size)
    revert q1 q2 q3 q4
    generalize relayAll t1 es1 (SetTable.grown es1.size) = Z
    obtain ⟨e2, t2, gv⟩ := Z
    intro q1 q2 q3 q4
    have sz : e2.size = es1.size := by
      have z := q1.length_eq
      rwa [Array.length_toList, Array.length_toList] at z
    refine wpAny_bind (hg _ _ _ (wpAny_bind (wpAny_storeSet_of o1 rfl (wpAny_pure (k _ (b1.trans (Heap.SameBut.update _ a _)) ?_)) (fits_of_scanBound (by rw [sz]; exact hb)))))
    refine ⟨_, e2, _, t2, put o1 rfl, hx, rfl, fun e he => g1 e (q1.mem_iff.mp he), (q1.map keyS).trans pm, nd, by rw [sz]; exact hb, q2, q3, ?_⟩
    rcases hl with z | z
    · exact .inl z
    · exact .inr (q4.trans z)
  · rw [if_neg full]
    exact wpAny_pure (k _ b1 ⟨_, es1, _, t1, o1, hx, rfl, g1, pm, nd, hb, hf, hr, hl⟩)
theorem lay_in {k : Str} {tk : Tok} {Q : Bool → Shared → Prop} (R : SetS w s.heap a ks) (room : ks.length + 1 < scanBound)
    (q : ∀ h', Heap.SameBut a s.heap h' → SetS w h' a (addN ks k) → ∀ b, Q b { s with heap := h' }) : wpAny (model P w) A (setAddHashed a (.str k tk) ((PySem.strKind P w).hash k)) Q E s := by
  obtain ⟨o, es, ep, t, ho, hx, hd, g, pm, nd, hb, hf, hr, hl⟩ := R
  have hel : ElemsOf (PySem.strKind P w) es.toList := goodS_elems g
  have me : (PySem.strKind P w).is k (.str k tk) = true := by
    show Value.isStrOf k (.str k tk) = true
    simp [Value.isStrOf]
  have sc : (Value.str k tk).scannable = true := rfl
  have quiet : ∀ (b : Bool) (s1 : Shared) (Q' : Unit → Shared → Prop), Q' () s1 → wpAny (model P w) A (match b with | true => rule "set.scan.the-table-gave-way" | false => pure ()) Q' E s1 := fun b s1 Q' z => by
    cases b
    · exact wpAny_pure z
    · exact wpAny_rule z
  unfold setAddHashed setAddHashedIn
  refine wpAny_holding (wpAny_bind (wpAny_setState_of ho hd hf ?_))
  dsimp only
  rw [byScan_of sc hb hel]
  simp only [↓reduceIte]
  unfold setAddByScan
  refine wpAny_bind (wpAny_bind (wpAny_rule (wpAny_bind (wpAny_setScan_of me ho hd hf hel ?_))))
  cases hi : List.findIdx? (fun e => (PySem.strKind P w).is k e.2) es.toList with
  | some j =>
    dsimp only
    obtain ⟨hj, pj, _⟩ := List.findIdx?_eq_some_iff_getElem.mp hi
    have inn : k ∈ ks := by
      refine pm.mem_iff.mp (List.mem_map.mpr ⟨es.toList[j], List.getElem_mem hj, ?_⟩)
      exact (goodS_is (P := P) (g _ (List.getElem_mem hj)) k).1 pj
    have e : addN ks k = ks := if_pos inn
    rw [e] at q
    exact wpAny_pure (wpAny_pure (q s.heap (Heap.SameBut.refl a s.heap) ⟨o, es, ep, t, ho, hx, hd, g, pm, nd, hb, hf, hr, hl⟩ _))
  | none =>
    dsimp only
    have out : k ∉ ks := fun z => by
      obtain ⟨e, he, ek⟩ := List.mem_map.mp (pm.mem_iff.mpr z)
      have c := List.findIdx?_eq_none_iff.mp hi e he
      rw [(goodS_is (P := P) (g e he) k).2 ek] at c
      cases c
    have e : addN ks k = ks ++ [k] := if_neg out
    have nd1 : (ks ++ [k]).Nodup := by
      rw [← e]
      exact addN_nodup nd
    have q1 := layNew_perm t es ((PySem.strKind P w).hash k) (.str k tk)
    have q2 := layNew_fits t es ((PySem.strKind P w).hash k) (.str k tk)
    have q3 := layNew_ris t es ((PySem.strKind P w).hash k) (.str k tk) hr
    have q4 := layNew_led t es ((PySem.strKind P w).hash k) (.str k tk)
    revert q1 q2 q3 q4
    generalize layNew t es ((PySem.strKind P w).hash k) (.str k tk) = Z
    obtain ⟨es1, t1, was, gave⟩ := Z
    intro q1 q2 q3 q4
    dsimp only at q1 q2 q3 q4 ⊢
    rw [Array.toList_push] at q1
    have g1 : ∀ x ∈ es1.toList, goodS w x := fun x hx => by
      rcases List.mem_append.mp (q1.mem_iff.mp hx) with z | z
      · exact g x z
      · rw [List.mem_singleton.mp z]
        exact ⟨k, tk, rfl⟩
    have pm1 : (es1.toList.map keyS).Perm (ks ++ [k]) := by
      have z := q1.map keyS
      rw [List.map_append] at z
      exact z.trans (List.Perm.append_right _ pm)
    have sz : es1.size < scanBound := by
      have z := pm1.length_eq
      rw [List.length_map, Array.length_toList, List.length_append] at z
      rw [z]
      exact room
    have l1 : w.params.followText "set-order" = true ∨ t1.led = true := by
      rcases hl with z | z
      · exact .inl z
      · exact .inr (q4.trans z)
    rw [e] at q
    refine wpAny_bind (quiet _ _ _ ?_)
    split
    · refine wpAny_bind ?_
      rw [hashByValue_scannable 8 sc]
      refine wpAny_pure ?_
      refine lay_S ?_ ho hx hd g1 pm1 nd1 sz ?_ ?_ ?_ fun h' sb r => ?_
      · intro b s1 Q' z
        cases b <;> first | exact wpAny_pure z | exact wpAny_rule z
      · first | exact q2 | (split <;> first | exact q2 | exact SetTable.fits_plain_off q2)
      · first | exact q3 | (split <;> exact q3)
      · first | exact l1 | (split <;> exact l1)
      · exact wpAny_pure (q h' sb r _)
    · refine wpAny_bind (wpAny_pure ?_)
      simp only [↓reduceIte]
      refine lay_S ?_ ho hx hd g1 pm1 nd1 sz q2 q3 l1 fun h' sb r => ?_
      · intro b s1 Q' z
        cases b <;> first | exact wpAny_pure z | exact wpAny_rule z
      · exact wpAny_pure (q h' sb r _)
/-- a text comes into a set -/
theorem add_S {k : Str} {tk : Tok} {Q : Value → Shared → Prop} (R : SetS w s.heap a ks) (room : ks.length + 1 < scanBound)
    (q : ∀ h', Heap.SameBut a s.heap h' → SetS w h' a (addN ks k) → Q .none { s with heap := h', toks := s.toks + 1 }) : wpAny (model P w) A (call (.builtin "set.add") [.ref a, .str k tk]) Q E s := by
  have me : (PySem.strKind P w).is k (.str k tk) = true := by
    show Value.isStrOf k (.str k tk) = true
    simp [Value.isStrOf]
  refine wpAny_call_entry F.slot_set_add (R.kind (P := P)).typeIs F.entry_set_add ?_ (F.args_set_add_2 _ _)
  unfold Builtin.«set.add» Builtin.Frozenset.oneOther
  simp only [List.isEmpty_nil, bind_assoc]
  unfold Builtin.Frozenset.addrOf setAdd
  refine wpAny_bind (wpAny_pure ?_)
  try dsimp only
  refine wpAny_bind (wpAny_pure ?_)
  try dsimp only
  refine wpAny_bind (wpAny_holding (wpAny_bind ((PySem.strKind P w).pyHash me ?_)))
  refine lay_in (s := { s with toks := s.toks + 1 }) R room fun h' sb r b => ?_
  show wpAny _ _ (ret Value.none) _ _ _
  exact wpAny_pure ⟨_, rfl, q h' sb r⟩
end
end Ev

/-! ## {text for .. in ..}, sorted of a set of texts -/
namespace Ev
open PySem PySem.Spec PyProof.Rows L2
def SetSO (w : World) (a : Addr) (ks : List Str) : HO := .ext fun h => SetS w h a ks
theorem setSO_ok {w : World} {P : Program} {H : Hp} {h : Heap} {a : Addr} {ks : List Str} (R : SetS w h a ks) : ObjOk P w H h a (SetSO w a ks) := by
  refine ⟨R, ?_, fun h1 h2 p k => p.at k⟩
  obtain ⟨o, _, _, _, ho, _⟩ := R
  exact ⟨o, ho⟩
section
variable {X : Cx}
theorem setSO_at {pins : List (Addr × Obj)} {σ : L2.St} {H : Hp} {s : Shared} {a : Addr} {ks : List Str} (I : Inv X pins σ H s) (ha : H a = some (SetSO X.w a ks)) : SetS X.w s.heap a ks := (I.hok a _ ha).1
theorem addSO {pins : List (Addr × Obj)} {σ : L2.St} {H : Hp} {s : Shared} {E : Value → Shared → Prop} {a : Addr} {ks : List Str} {k : Str} {tk : Tok} {Q : Value → Shared → Prop} (I : Inv X pins σ H s) (ha : H a = some (SetSO X.w a ks)) (room : ks.length + 1 < scanBound)
    (q : ∀ s', Inv X pins σ (upd H a (SetSO X.w a (addN ks k))) s' → Q .none s') : wpAny (model X.prog X.w) X.A (call (.builtin "set.add") [.ref a, .str k tk]) Q E s := by
  refine add_S (setSO_at I ha) room fun h' sb R => q _ ?_
  have he : ∃ u, h'.get? a = some u := by
    obtain ⟨o, _, _, _, ho, _⟩ := R
    exact ⟨o, ho⟩
  exact I.write (e := a) (t' := s.toks + 1) (by rw [ha]; trivial) (.inl rfl) (fun b u hb hu => (sb.2 b hb).trans hu) he (setSO_ok R)
/-- a set comprehension whose elements are texts -/
def tScS (w : World) (wi : TI) (g : TG) (tt : TT) (te : TE) (vs : List Nat) : TE := fun σ H Q => wi σ H fun J H1 => ∀ D, H1 D = none → ∃ W : Nat → Nat → Hp → Prop, (∃ m, W 0 m (upd H1 D (SetSO w D []))) ∧ ∀ i m H, W i m H →
  (J.stop i H ∧ Q (.ref D) H) ∨ (J.go i H ∧ ∃ Nx : Hp → Prop, (∀ H', Nx H' → ∃ m', m' < m ∧ W (i + 1) m' H') ∧ ∀ x H', J.yld i H x H' → g x (wipe σ vs) H' fun σ2 H2 => wipe σ2 vs = wipe σ vs ∧ tt σ2 H2 fun b H3 =>
    if b = true then te σ2 H3 fun y H4 => ∃ (c : Str) (ks : List Str), y = .str c ∧ H4 D = some (SetSO w D ks) ∧ ks.length + 1 < scanBound ∧ Nx (upd H4 D (SetSO w D (addN ks c))) else Nx H3)
theorem pe_scS {elt tg iter : Expr} {ifs : List Expr} {scope : Scope} {own : List (Str × Nat)} {pos : Pos} {wi : TI} {g : TG} {tt : TT} {te : TE} (hc : X.calm = true) (hN : X.N.Nodup) (hi : PI X tg iter wi) (ok : BlkOk X.N X.env.scope scope own)
    (hg : ∀ (s : Shared) (H : Hp) (C : Addr) (cl : List (Str × Addr)) (fp : List Addr), PG (X.blk s H scope (compEnvC scope cl C X.env) fp) tg g) (ht : ∀ (s : Shared) (H : Hp) (C : Addr) (cl : List (Str × Addr)) (fp : List Addr), PTs (X.blk s H scope (compEnvC scope cl C X.env) fp) ifs tt)
    (he : ∀ (s : Shared) (H : Hp) (C : Addr) (cl : List (Str × Addr)) (fp : List Addr), PE (X.blk s H scope (compEnvC scope cl C X.env) fp) elt te) (hs : ∀ x, foldedSetIterable iter X.env x = pure x := by intro _; rfl) :
    PE X (.SetComp elt [⟨tg, iter, ifs, 0⟩] scope pos) (tScS X.w wi g tt te (own.map (·.2))) := by
  refine ⟨fun pins s σ H Q I h => ?_⟩
  rw [PpSet.eval_SetComp]
  have fr : ∀ y ∈ scope.names, y.2 = .free → ∃ c, X.env.cells.lookup y.1 = some c := fun y hy e => (ok.free y hy e).elim (fun k => I.ok.has _ (.inl k)) fun k => I.ok.has _ (.inr k)
  refine wpAny_comprehension_free (use := none) rfl hs (closure_ok fr) ok.kind (fun y hy e => by rw [ok.uniq y hy, e]) (thn (hi.run pins s σ H _ I h) fun xv s1 hx => thn hx fun itv s2 h2 => ?_)
  obtain ⟨it, fp, tn, J, H2, rfl, I2, T, st2, f2, q⟩ := h2
  refine PpSet.newSet_ok (newEnv_comp ?_)
  -- the set, new at D, and the block's own context
  obtain ⟨D, hD⟩ : ∃ D, s2.heap.objs.size = D := ⟨_, rfl⟩
  obtain ⟨s3, hs3⟩ : ∃ s3 : Shared, { s2 with heap := s2.heap.push { cls := .type "set", dict := none, data := .set #[] 0 (.fresh 0 0 (!X.w.params.followText "set-order")) } } = s3 := ⟨_, rfl⟩
  have h3 : s3.heap = s2.heap.push { cls := .type "set", dict := none, data := .set #[] 0 (.fresh 0 0 (!X.w.params.followText "set-order")) } := by rw [← hs3]
  have old3 : ∀ b o, s2.heap.get? b = some o → s3.heap.get? b = some o := fun b o e => by
    rw [h3]
    exact Heap.get?_push_of_some _ e
  obtain ⟨W, ⟨m0, w0⟩, turn⟩ := q D (I2.hok.fresh (Nat.le_of_eq hD))
  obtain ⟨H3, hH3⟩ : ∃ H3 : Hp, upd H2 D (SetSO X.w D []) = H3 := ⟨_, rfl⟩
  rw [hH3] at w0
  have I3 : Inv X pins σ H3 s3 := by
    rw [← hs3, ← hH3, ← hD]
    exact I2.laid (t' := s2.toks) (fun b o e => Heap.get?_push_of_some _ e) (Nat.le_refl _) (setSO_ok (setS_new X.w s2.heap))
  have f3 : ∀ b ∈ fp, FpOk X pins H3 b ∧ b < s3.heap.objs.size := fun b hb => by
    obtain ⟨o, eo, _⟩ := T.obj _ _ st2 b hb
    have lt2 := Heap.lt_size eo
    have ne : b ≠ D := by
      rw [← hD]
      exact Nat.ne_of_lt lt2
    refine ⟨⟨?_, (f2 b hb).2⟩, Heap.lt_size (old3 b o eo)⟩
    rw [← hH3, upd_ne ne]
    exact (f2 b hb).1
  have I4 := block_start I3 ok hN f3
  have pg := hg s3 H3 s3.heap.objs.size (cellsFrom (s3.heap.objs.size + 1) scope.names (cloFrom X.env.cells scope.names [])) fp
  have pt := ht s3 H3 s3.heap.objs.size (cellsFrom (s3.heap.objs.size + 1) scope.names (cloFrom X.env.cells scope.names [])) fp
  have pe := he s3 H3 s3.heap.objs.size (cellsFrom (s3.heap.objs.size + 1) scope.names (cloFrom X.env.cells scope.names [])) fp
  rw [hs3]
  show codeAny _ _ (.compStart (.SetComp elt [⟨tg, iter, ifs, 0⟩] scope pos) 0 (.ref it) (.ref s2.heap.objs.size) (compEnvC scope (cellsFrom (s3.heap.objs.size + 1) scope.names (cloFrom X.env.cells scope.names [])) s3.heap.objs.size X.env)) (compPost (model X.prog X.w) X.A X.xe none _ (.ref s2.heap.objs.size) s3.heap.objs.size) { s3 with heap := pushCells (s3.heap.push { cls := .type "dict", data := .dict #[] }) scope.names }
  rw [hD]
  obtain ⟨ce, hce⟩ : ∃ ce, compEnvC scope (cellsFrom (s3.heap.objs.size + 1) scope.names (cloFrom X.env.cells scope.names [])) s3.heap.objs.size X.env = ce := ⟨_, rfl⟩
  have cL : ce.locals = s3.heap.objs.size := by
    rw [← hce]
    rfl
  obtain ⟨s4, hs4⟩ : ∃ s4 : Shared, { s3 with heap := pushCells (s3.heap.push { cls := .type "dict", data := .dict #[] }) scope.names } = s4 := ⟨_, rfl⟩
  rw [hce] at I4 pg pt pe ⊢
  rw [hs4] at I4 ⊢
  have st4 : tn 0 s4.heap := T.keep _ _ _ st2 fun b _ o e => by
    rw [← hs4]
    exact pushCells_keeps _ _ _ _ (Heap.get?_push_of_some _ (old3 b o e))
  let Y := X.blk s3 H3 scope ce fp
  have out : ∀ {σ' : L2.St} {H' : Hp} {s' : Shared}, Inv Y [] σ' H' s' → (∀ b ∈ fp, H' b = none) → ∀ b ∈ fp, FpOk Y [] H' b := fun {σ' H' s'} I' hn b hb =>
    ⟨hn b hb, (I'.ok.exf b hb).1, I'.ok.exfs b hb, .inl hb, fun x c e => (I'.ok.exf b hb).2 x c e, fun p hp => absurd (show p ∈ ([] : List (Addr × Obj)) ++ [] from hp) (by simp)⟩
  -- what holds between two turns
  let Mid : Nat → Shared → Prop := fun n s' => ∃ i H', Inv Y [] (wipe σ (own.map (·.2))) H' s' ∧ tn i s'.heap ∧ (∀ b ∈ fp, H' b = none) ∧ W i n H'
  have loop : codeAny (model X.prog X.w) X.A (.compLoop (.SetComp elt [⟨tg, iter, ifs, 0⟩] scope pos) 0 (.ref it) (.ref D) ce) (compPost (model X.prog X.w) X.A X.xe none (EP X pins σ Q) (.ref D) s3.heap.objs.size) s4 := by
    refine PpSet.compLoopS_any Mid (fun n s5 ⟨i, H5, I5, st5, n5, w5⟩ => ?_) m0 ⟨0, H3, I4, st4, fun b hb => (f3 b hb).1.1, w0⟩
    rcases turn i n H5 w5 with ⟨stop, qq⟩ | ⟨go, Nx, hNx, step⟩
    · refine thnF (T.done Y rfl rfl rfl hc i [] s5 _ H5 (fun _ _ => False) I5 (out I5 n5) st5 stop) fun r s6 ⟨hr, I6⟩ => ?_
      subst hr
      have I7 : Inv X pins σ H5 s6 := I3.call' (ch := fp) I6.os I6.base I6.hok I6.bare fun b hb => ⟨(f3 b hb).1.2.2.2.1, (f3 b hb).1.2.1, (f3 b hb).1.2.2.2.2.1, (f3 b hb).1.2.2.2.2.2⟩
      have nC : H5 s3.heap.objs.size = none := by
        rw [← cL]
        exact I6.free
      obtain ⟨m, hn, _⟩ := I6.loc
      have hn : s6.heap.Ns ce.locals m := hn
      rw [cL] at hn
      obtain ⟨z0, z1, _, z3, z4, z5⟩ := I3.fpOk (Nat.le_refl _) nC
      exact ⟨m, hn, fun h'' sb => ⟨.ref D, H5, I7.turned (t' := s6.toks) (fun b o hb e => (sb.2 b hb).trans e) z0 z1 z3 z4 z5, rfl, qq⟩⟩
    · refine thnF (T.item Y rfl rfl rfl hc i [] s5 _ H5 (fun _ _ => False) I5 (out I5 n5) st5 go) fun r s6 ⟨u, hr, h6⟩ => ?_
      subst hr
      refine thnF h6 fun _ s7 ⟨x, H7, I7, r7, y7, st7, n7⟩ => ?_
      refine thnF (pg.run _ s7 _ H7 x u _ (I7.pinned (out I7 n7) (T.obj _ _ st7)) r7 (step x H7 y7)) fun _ s8 ⟨σ8, H8, I8, hw8, q8⟩ => ?_
      refine thnF (pt.run _ s8 σ8 H8 _ I8 q8) fun b s9 ⟨H9, I9, q9⟩ => ?_
      have next : ∀ {s' : Shared} {H' : Hp}, Inv Y ([] ++ pinsAt fp s7.heap) σ8 H' s' → Nx H' → ∃ m, m < n ∧ Mid m s' := fun {s' H'} I' nx => by
        obtain ⟨m', hm, w'⟩ := hNx H' nx
        have pin' : ∀ b ∈ fp, ∀ o, s7.heap.get? b = some o → s'.heap.get? b = some o ∧ H' b = none := fun b hb o e => by
          have z := I'.pin (b, o) (List.mem_append_right _ (List.mem_append_right _ (mem_pinsAt hb e)))
          exact ⟨z.1, z.2.1⟩
        have hl : (wipe σ (own.map (·.2))).length = σ8.length := by
          rw [← hw8, wipe_length]
        refine ⟨m', hm, i + 1, H', (I'.unpinned (pins := [])).weak hl (fun j v e => ?_), T.keep _ _ _ st7 fun b hb o e => (pin' b hb o e).1, fun b hb => ?_, w'⟩
        · rw [← hw8] at e
          exact (wipe_some e).1
        · obtain ⟨o, e, _⟩ := T.obj _ _ st7 b hb
          exact (pin' b hb o e).2
      dsimp only at q9
      by_cases hb : b = true
      · subst hb
        rw [if_pos rfl] at q9 ⊢
        refine thnF (pe.run _ s9 σ8 H9 _ I9 q9) fun z s10 ⟨yv, H10, I10, r10, c0, ks, ey, hD10, hz10, nx⟩ => ?_
        subst ey
        obtain ⟨tk, rfl⟩ := (show ∃ tk, z = Value.str c0 tk from r10)
        exact addSO (X := Y) I10 hD10 hz10 fun s11 I11 => next I11 nx
      · rw [if_neg hb] at q9 ⊢
        exact next I9 q9
  exact PpSet.codeAny_compStart_set loop (T.self X.A 0 _ _ _ st4 loop)
end
end Ev

/-! ## sorted(set of texts), set(list of texts) -/
namespace Ev
open PySem PySem.Spec PyProof.Rows L2
section
variable {P : Program} {w : World} {A : Around} {E : Value → Shared → Prop} {s : Shared} {a : Addr} {ks : List Str}
theorem strs_map {w : World} : ∀ {vs : List Value}, (∀ v ∈ vs, ∃ x tk, v = Value.str x tk) → StrsAre vs (vs.map fun v => keyS (0, v))
  | [], _ => .nil
  | v :: vs, h => by
    obtain ⟨x, tk, rfl⟩ := h v (List.mem_cons_self ..)
    exact .cons x tk (strs_map (w := w) fun u hu => h u (List.mem_cons_of_mem _ hu))
theorem sorted_S {Q : Value → Shared → Prop} (R : SetS w s.heap a ks) (hh : A.handled = none) (few : ks.length < 64)
    (q : ∀ s' p (out : Array Value) (c : Nat) (ys : List Str), (∀ b o, s.heap.get? b = some o → s'.heap.get? b = some o) → s'.gens = s.gens → s'.os = s.os → s.heap.objs.size ≤ p →
      s'.heap.get? p = some (seqObj "list" out c) → StrsAre out.toList ys → ys.Perm ks → sortedS ys = true → Q (.ref p) s') : wpAny (model P w) A (call (.builtin "sorted") [.ref a]) Q E s := by
  obtain ⟨o, es, ep, t, ho, hx, hd, g, pm, nd, hb, hf, hr, hl⟩ := R
  refine Calls.call_function_entry kind_sorted plain_sorted entry_sorted (args_sorted1 _) ?_
  unfold Builtin.«sorted»
  refine wpAny_bind (m := checkCount "sorted" 1 1 _) (wpAny_pure ?_)
  refine wpAny_bind (collect_set (A := A.in1) hh ⟨o, ho, hx.1, hd⟩ hf hb hr hl fun s1 vs k1 hz g1 o1 pv => ?_)
  have all : ∀ v ∈ vs, ∃ x tk, v = Value.str x tk := fun v hv => by
    obtain ⟨e, he, rfl⟩ := List.mem_map.mp (pv.mem_iff.mp hv)
    obtain ⟨x, tk, rfl⟩ := g e he
    exact ⟨x, tk, rfl⟩
  have hS := strs_map (w := w) all
  have pk : (vs.map fun v => keyS (0, v)).Perm ks := by
    refine (pv.map fun v => keyS (0, v)).trans ?_
    rw [List.map_map]
    exact pm
  have hvl : vs.length = ks.length := by
    have z := pk.length_eq
    rw [List.length_map] at z
    exact z
  refine wpAny_bind (wpAny_newList ?_ (by rw [hvl, sizeLine_eq]; omega))
  have hoL : (s1.heap.push (seqObj "list" vs.toArray 0)).get? s1.heap.objs.size = some (seqObj "list" vs.toArray 0) := Heap.get?_push_size _ rfl
  refine wpAny_bind (wpAny_holding (wpAny_call_entry slot_list_sort ⟨_, hoL, rfl⟩ entry_list_sort
    (list_sort_treeK strKind_oneLt hoL hS.keysOf (fun v₁ v₂ rest e => keyKind_strs (by rw [← e]; exact hS)) (by rw [hvl]; exact few) fun st' hp hs => ⟨_, rfl, ?_⟩) (args_list_sort _)))
  obtain ⟨ys, y1, y2, y3⟩ := sorted_out_str hS hp hs
  obtain ⟨c, hc⟩ := sortedHeap_at (vs := vs) (out := (arrOf st').map (·.2)) hoL
  refine wpAny_pure ⟨_, rfl, q _ s1.heap.objs.size _ c ys (fun b u e => ?_) g1 o1 hz hc y1 (y2.trans pk) y3⟩
  have z := k1 b u e
  have lt := Heap.lt_size z
  show (sortedHeap (s1.heap.push (seqObj "list" vs.toArray 0)) s1.heap.objs.size vs ((arrOf st').map (·.2))).get? b = some u
  rw [sortedHeap_old (Nat.ne_of_lt lt) (by rw [size_push']; exact Nat.lt_succ_of_lt lt)]
  exact Heap.get?_push_of_some _ z
/-- the members, in the order in which they came -/
def uniq : List Str → List Str → List Str
  | acc, [] => acc
  | acc, x :: xs => uniq (addN acc x) xs
theorem uniq_snoc : ∀ (xs acc : List Str) (x : Str), uniq acc (xs ++ [x]) = addN (uniq acc xs) x
  | [], _, _ => rfl
  | y :: xs, acc, x => uniq_snoc xs (addN acc y) x
theorem uniq_len : ∀ (xs acc : List Str), (uniq acc xs).length ≤ acc.length + xs.length
  | [], _ => Nat.le_refl _
  | x :: xs, acc => by
    have h := uniq_len xs (addN acc x)
    have h2 := addN_len (ks := acc) (k := x)
    show (uniq (addN acc x) xs).length ≤ acc.length + (xs.length + 1)
    omega
theorem uniq_mem : ∀ (xs acc : List Str) (z : Str), z ∈ uniq acc xs ↔ z ∈ acc ∨ z ∈ xs
  | [], acc, z => by
    rw [show uniq acc [] = acc from rfl]
    simp
  | x :: xs, acc, z => by
    show z ∈ uniq (addN acc x) xs ↔ _
    rw [uniq_mem xs, mem_addN, List.mem_cons, or_assoc]
theorem uniq_nodup : ∀ (xs acc : List Str), acc.Nodup → (uniq acc xs).Nodup
  | [], _, h => h
  | x :: xs, acc, h => uniq_nodup xs (addN acc x) (addN_nodup h)
/-- the loop of set.update, over texts -/
theorem update_S {I : Addr} {fp wr : List Addr} {G : Array GenState → Array GenState → Prop} {n : Nat} {Pv : Nat → Value → Prop} {St : Nat → Shared → Prop} {R : Result → Shared → Prop} (W : WalksS P w A.in1 I fp wr G n Pv St) (D : Addr) (hDf : D ∉ fp)
    (zs : List Str) (hn : n = zs.length) (hv : ∀ i v, Pv i v → ∃ x tk, zs[i]? = some x ∧ v = .str x tk) (few : zs.length + 1 < scanBound) :
    ∀ (k i : Nat) (s : Shared), n - i = k → i ≤ n → St i s → SetS w s.heap D (uniq [] (zs.take i)) → (∀ s', Moved (D :: wr) G s s' → SetS w s'.heap D (uniq [] zs) → R (.ok (.ret .none)) s') →
      codeAny (model P w) A (.builtin "set.update.loop" ⟨[.ref D, .ref I], []⟩) R s := by
  have hDw : D ∉ wr := fun z => hDf (W.sub _ z)
  have sub : ∀ b ∈ wr, b ∈ D :: wr := fun b hb => List.mem_cons_of_mem _ hb
  intro k
  induction k with
  | zero =>
    intro i s hk hi hst hS q
    have hin : i = zs.length := by omega
    rw [hin, List.take_length] at hS
    have hin' : i = n := by omega
    subst hin'
    refine codeAny_builtin F.entry_set_update_loop ?_
    rw [Around.under_plainId F.plain_set_update_loop _]
    show wpAny _ A.in1 (pyNext (.ref I) >>= _) _ _ s
    refine wpAny_bind (W.done s _ _ hst fun s' hm => ?_)
    show wpAny _ A.in1 (ret Value.none) _ _ s'
    exact wpAny_pure (q s' (hm.mono sub) (hS.at fun o e => hm.heap D o hDw e))
  | succ k ih =>
    intro i s hk hi hst hS q
    have hlt : i < n := by omega
    refine codeAny_builtin F.entry_set_update_loop ?_
    rw [Around.under_plainId F.plain_set_update_loop _]
    show wpAny _ A.in1 (pyNext (.ref I) >>= _) _ _ s
    refine wpAny_bind (W.item i s _ _ hlt hst fun v s' hP hst' hm => ?_)
    obtain ⟨x, tk, hx, rfl⟩ := hv i v hP
    have hS' : SetS w s'.heap D (uniq [] (zs.take i)) := hS.at fun o e => hm.heap D o hDw e
    show wpAny _ A.in1 (holding [Value.str x tk] (setAdd D (.str x tk)) >>= _) _ _ s'
    refine wpAny_bind (wpAny_holding ?_)
    unfold setAdd
    have me : (PySem.strKind P w).is x (.str x tk) = true := by
      show Value.isStrOf x (.str x tk) = true
      simp [Value.isStrOf]
    refine wpAny_holding (wpAny_bind ((PySem.strKind P w).pyHash me ?_))
    have room : (uniq [] (zs.take i)).length + 1 < scanBound := by
      have z := uniq_len (zs.take i) []
      rw [List.length_take] at z
      have z0 : ([] : List Str).length = 0 := rfl
      omega
    refine lay_in (s := { s' with toks := s'.toks + 1 }) hS' room fun h' sb R2 b => ?_
    rw [← uniq_snoc, show zs.take i ++ [x] = zs.take (i + 1) by rw [List.take_add_one, hx]; rfl] at R2
    refine wpAny_pure ⟨plainId_quiet F.plain_set_update_loop _, ih (i + 1) _ (by omega) hlt (W.frame _ s' _ _ hst' (Nat.le_add_right _ _) fun b hb o e => ?_) R2 fun s'' hm'' hS'' => ?_⟩
    · rw [sb.2 b (fun z : b = D => hDf (by rw [← z]; exact hb))]
      exact e
    · refine q s'' (Moved.trans W.gtrans ((hm.mono sub).then_heap (Nat.le_add_right _ _) fun b o hb e => ?_) hm'') hS''
      rw [sb.2 b (fun z : b = D => hb (by rw [z]; exact List.mem_cons_self))]
      exact e
end
section
variable {X : Cx}
/-- sorted(set of texts) -/
def rSortSS (w : World) : List V → Hp → VK → Prop := fun vs H Q => ∃ (a : Addr) (ks : List Str), vs = [V.ref a] ∧ H a = some (SetSO w a ks) ∧ ks.length < 64 ∧ ∀ (ys : List Str) (p : Addr), ys.Perm ks → sortedS ys = true → H p = none → Q (.ref p) (upd H p (.lst (ys.map V.str)))
theorem cr_sortSS (hc : X.calm = true) : CallR X (.builtin "sorted") (rSortSS X.w) := by
  intro pins s σ H vs us Q I r h
  obtain ⟨a, ks, rfl, ha, few, q⟩ := h
  rw [Vals.ref1 r]
  refine sorted_S (setSO_at I ha) (I.ok.hd hc) few fun s' p out c ys k g o hp hg hi pm hs => ?_
  have hn : H p = none := I.hok.fresh hp
  have hlen : (ys.map V.str).length ≤ sizeLine := by
    have z := pm.length_eq
    rw [List.length_map, sizeLine_eq]
    omega
  have J : Inv X pins σ (upd H p (.lst (ys.map V.str))) { s with heap := s'.heap, gens := s'.gens, drawn := s'.drawn, toks := s'.toks } :=
    I.call (ch := []) (Un.laid k hp hn) (I.hok.laid k hp ⟨hlen, out.toList, c, vals_of_strs hi, hg⟩) (by rw [g]; exact I.bare) (fun _ z => nomatch z)
  have e : s' = { s with heap := s'.heap, gens := s'.gens, drawn := s'.drawn, toks := s'.toks } := by
    cases s'
    cases s
    cases o
    rfl
  rw [e]
  exact ⟨.ref p, _, J, rfl, q ys p pm hs hn⟩
end
end Ev

/-! ## set(list of texts) -/
namespace Ev
open PySem PySem.Spec PyProof.Rows L2
section
variable {P : Program} {w : World} {A : Around} {E : Value → Shared → Prop} {s : Shared}
theorem strs_get : ∀ {vs : List Value} {zs : List Str} {i : Nat} {v : Value}, StrsAre vs zs → vs[i]? = some v → ∃ x tk, zs[i]? = some x ∧ v = .str x tk
  | _, _, _, _, .nil, e => by cases e
  | _, _, 0, _, .cons x tk _, e => by
    cases e
    exact ⟨x, tk, rfl, rfl⟩
  | _, _, i + 1, _, .cons _ _ h, e => strs_get (i := i) h e
/-- a new empty set behind the heap -/
abbrev emp (w : World) (h : Heap) : Heap := h.push { cls := .type "set", dict := none, data := .set #[] 0 (.fresh 0 0 (!w.params.followText "set-order")) }
theorem set_S {l : Addr} {items : Array Value} {zs : List Str} {Q : Value → Shared → Prop} (hh : A.handled = none) (hl : s.heap.IsList l items) (hit : StrsAre items.toList zs) (few : zs.length + 1 < scanBound)
    (q : ∀ (h' : Heap) (tk : Nat), SetS w h' s.heap.objs.size (uniq [] zs) → (∀ b o, s.heap.get? b = some o → h'.get? b = some o) → Q (.ref s.heap.objs.size) { s with heap := h', toks := tk }) :
    wpAny (model P w) A (call (.type "set") [.ref l]) Q E s := by
  have hz : items.size = zs.length := by
    have z := hit.length
    rw [Array.length_toList] at z
    exact z
  obtain ⟨c, tl, hmro⟩ := F.called_set.mro
  have f1 := F.called_set.made
  have f2 := F.called_set.sub
  have f3 := F.called_set.notType
  have f4 := F.called_set.canCreate
  have f5 := F.typeCall_set_1 (.ref l)
  refine wpAny_call (codeAny_of_tree ?_)
  show wpAny _ _ (callAny (.type "set") _) _ _ _
  refine wpAny_pure ⟨Code.quiet_builtin _ (by decide +kernel), codeAny_builtin F.entry_type_call ?_⟩
  rw [Around.under_plain (weight_type_call_type "set" [.ref l] []) rfl]
  repeat (any_goals (first | assumption | wp_step))
  refine codeAny_mono (code_set_led1 (.ref l) (E := E) (Q₁ := fun v s1 => v = .ref s.heap.objs.size ∧ s1 = { s with heap := emp w s.heap }) ⟨rfl, rfl⟩) fun r s1 hr => ?_
  match r, hr with
  | .error e, hr => exact hr
  | .ok (.ret v), hr =>
    obtain ⟨rfl, rfl⟩ := hr
    have hD : (emp w s.heap).get? s.heap.objs.size = some { cls := .type "set", dict := none, data := .set #[] 0 (.fresh 0 0 (!w.params.followText "set-order")) } := Heap.get?_push_size _ rfl
    have hT : Shared.TypeIs { s with heap := emp w s.heap } (.ref s.heap.objs.size) "set" := ⟨_, hD, rfl⟩
    have f6 := F.called_set.init.lookup
    have f7 := F.called_set.init.bind (.ref s.heap.objs.size)
    repeat (any_goals (first | assumption | wp_step))
    refine codeAny_mono (codeAny_call_builtin (R := wants (fun r s2 => r = .none ∧ ∃ h' tk, s2 = { s with heap := h', toks := tk } ∧ SetS w h' s.heap.objs.size (uniq [] zs) ∧ ∀ b o, s.heap.get? b = some o → h'.get? b = some o) E)
      F.called_set.init.plain F.entry_set_init (check_set_init_1 hT ?_)) fun r2 s2 hr2 => ?_
    · obtain ⟨⟨oc, od, odt, osl⟩, ho, hc, nl, hd⟩ := hl
      simp only at hc hd
      subst hc hd
      have ho1 : (emp w s.heap).get? l = some { cls := .type "list", dict := od, data := .seq items nl, slots := osl } := Heap.get?_push_of_some _ ho
      have l1 : (emp w s.heap).IsList l items := ⟨_, ho1, rfl, nl, rfl⟩
      have f8 := F.sub_list_set
      have f9 := F.sub_list_frozenset
      have f10 : (Value.type "list" == Value.type "dict") = false := by decide
      unfold Builtin.«set.__init__» noKeywords Builtin.Frozenset.updateFrom
      generalize hPI : pyIter = PI
      wp_walk
      subst hPI
      refine wpAny_pyIter_list l1 (wpAny_bind (wpAny_runValue ?_))
      have lt : l < s.heap.objs.size := Heap.lt_size ho
      have h3 : A.in1.in1.in1.handled = none := by simp [hh]
      have sz : (emp w s.heap).objs.size = s.heap.objs.size + 1 := Heap.size_push ..
      have neI : l ≠ (emp w s.heap).objs.size := by
        rw [sz]
        exact Nat.ne_of_lt (Nat.lt_succ_of_lt lt)
      have nf : s.heap.objs.size ∉ [(emp w s.heap).objs.size, l] := by
        rw [sz, List.mem_cons, List.mem_singleton, not_or]
        exact ⟨Nat.ne_of_lt (Nat.lt_succ_self _), Nat.ne_of_gt lt⟩
      have hv : ∀ (i : Nat) (v : Value), items[i]? = some v → ∃ x tk, zs[i]? = some x ∧ v = .str x tk := fun i v e => by
        have z : items.toList[i]? = some v := by
          rw [Array.getElem?_toList]
          exact e
        exact strs_get hit z
      refine update_S ((Walks.list h3 _ l neI items).toS) s.heap.objs.size nf zs hz hv few (items.size - 0) 0 _ (by omega) (Nat.zero_le _) ⟨⟨_, Heap.get?_push_size _ rfl, rfl, rfl⟩, l1.push _⟩
        ((setS_new w s.heap).at fun o e => Heap.get?_push_of_some _ e) fun s' hm hS' => ?_
      obtain ⟨h', g2, d', tk', os'⟩ := s'
      have eg : g2 = s.gens := hm.gens
      have ed : d' = s.drawn := hm.drawn
      have eo : os' = s.os := hm.os
      subst eg
      subst ed
      subst eo
      show wpAny _ _ _ _ _ _
      refine wpAny_pure ?_
      show wpAny _ _ (ret Value.none) _ _ _
      refine wpAny_pure ⟨rfl, h', tk', rfl, hS', fun b o e => ?_⟩
      have lb := Heap.lt_size e
      refine hm.heap b o (fun z => ?_) (Heap.get?_push_of_some _ (Heap.get?_push_of_some _ e))
      rcases List.mem_cons.mp z with z | z
      · rw [z] at lb
        exact Nat.lt_irrefl _ lb
      · have z := List.mem_singleton.mp z
        rw [z, sz] at lb
        exact Nat.not_lt_of_le (Nat.le_succ _) lb
    · match r2, hr2 with
      | .error e, hr2 => exact hr2
      | .ok (.ret v), hr2 =>
        obtain ⟨rfl, h', tk, rfl, hS', hk⟩ := hr2
        repeat (any_goals (first | assumption | wp_step))
        exact q _ _ hS' hk
      | .ok .next, hr2 => exact hr2.elim
      | .ok .brk, hr2 => exact hr2.elim
      | .ok .cont, hr2 => exact hr2.elim
  | .ok .next, hr => exact hr.elim
  | .ok .brk, hr => exact hr.elim
  | .ok .cont, hr => exact hr.elim
end
section
variable {X : Cx}
/-- set(list of texts) -/
def rSetS (K : PySem.W.Frag) (w : World) : List V → Hp → VK → Prop := fun xs H Q => ∃ (l : Addr) (zs : List Str), xs = [V.ref l] ∧ SqL K H l (zs.map V.str) ∧ zs.length < 4000 ∧ ∀ a, H a = none → Q (.ref a) (upd H a (SetSO w a (uniq [] zs)))
theorem cr_setS (hc : X.calm = true) : CallR X (.type "set") (rSetS X.K X.w) := by
  intro pins s σ H xs us Q I r h
  obtain ⟨l, zs, rfl, hl, few, q⟩ := h
  rw [Vals.ref1 r]
  obtain ⟨its, rv, pl, hz⟩ := I.list hl
  have hn : H s.heap.objs.size = none := I.hok.fresh (Nat.le_refl _)
  have hb : scanBound = 4096 := rfl
  refine set_S (P := X.prog) (w := X.w) (I.ok.hd hc) pl.isList (by simpa using rv.strs) (by omega) fun h' tk R k => ?_
  exact ⟨.ref s.heap.objs.size, upd H s.heap.objs.size (SetSO X.w s.heap.objs.size (uniq [] zs)), I.laid (t' := tk) k (Nat.le_refl _) (setSO_ok R), rfl, q _ hn⟩
end
end Ev

/-! ## Programs, pairs, and what comprehensions over them give -/
namespace Ev
open PySem PySem.Spec PyProof.Rows L2
/-- a statement that is never reached -/
theorem ps_dead {X : Cx} {st : Stmt} : PS X st (fun _ _ _ => False) := ⟨fun _ _ _ _ _ _ h => h.elim⟩
theorem pss_dead {X : Cx} {b : List Stmt} : PSs X b (fun _ _ _ => False) := ⟨fun _ _ _ _ _ _ h => h.elim⟩
inductive It where
  | line (x : Str) (t : Int)
  | loop (r : Int) (is : List It)
mutual
def It.d : It → PyData
  | .line x t => .tuple [.str "line", .str x, .int t]
  | .loop r is => .tuple [.str "loop", .int r, .tuple (Its.d is)]
def Its.d : List It → List PyData
  | [] => []
  | i :: is => It.d i :: Its.d is
end
theorem Its.d_map : ∀ is : List It, Its.d is = is.map It.d
  | [] => by rw [Its.d]; rfl
  | i :: is => by rw [Its.d, Its.d_map is]; rfl
/-- loops at most n deep, numbers from 0 below 2 ^ B -/
def Okp (B : Nat) : Nat → It → Prop
  | _, .line _ t => 0 ≤ t ∧ t < (2 ^ B : Nat)
  | 0, .loop _ _ => False
  | n + 1, .loop r is => 0 ≤ r ∧ r < (2 ^ B : Nat) ∧ ∀ i ∈ is, Okp B n i
theorem okp_line {B n : Nat} {x : Str} {t : Int} : Okp B n (.line x t) ↔ 0 ≤ t ∧ t < (2 ^ B : Nat) := by
  cases n <;> exact Iff.rfl
mutual
/-- the lines with their ticks, all rounds r times -/
def It.sp (r : Int) : It → List (Str × Int)
  | .line x t => [(x, r * t)]
  | .loop k is => Its.sp (r * k) is
def Its.sp (r : Int) : List It → List (Str × Int)
  | [] => []
  | i :: is => It.sp r i ++ Its.sp r is
end
theorem Its.sp_app (r : Int) : ∀ is js : List It, Its.sp r (is ++ js) = Its.sp r is ++ Its.sp r js
  | [], js => by
    rw [List.nil_append, Its.sp]
    rfl
  | i :: is, js => by
    rw [List.cons_append, Its.sp, Its.sp, Its.sp_app r is js, List.append_assoc]
theorem Its.sp_one (r : Int) (i : It) : Its.sp r [i] = It.sp r i := by
  rw [Its.sp, Its.sp, List.append_nil]
mutual
/-- how many lines there are -/
def It.nl : It → Nat
  | .line _ _ => 1
  | .loop _ is => Its.nl is
def Its.nl : List It → Nat
  | [] => 0
  | i :: is => It.nl i + Its.nl is
end
mutual
theorem It.sp_len (r : Int) : ∀ i : It, (It.sp r i).length = It.nl i
  | .line x t => by
    rw [It.sp, It.nl]
    rfl
  | .loop k is => by
    rw [It.sp, It.nl, Its.sp_len (r * k) is]
theorem Its.sp_len (r : Int) : ∀ is : List It, (Its.sp r is).length = Its.nl is
  | [] => by
    rw [Its.sp, Its.nl]
    rfl
  | i :: is => by
    rw [Its.sp, Its.nl, List.length_append, It.sp_len r i, Its.sp_len r is]
end
theorem Its.nl_app : ∀ is js : List It, Its.nl (is ++ js) = Its.nl is + Its.nl js
  | [], js => by
    rw [List.nil_append, Its.nl, Nat.zero_add]
  | i :: is, js => by
    rw [List.cons_append, Its.nl, Its.nl, Its.nl_app is js, Nat.add_assoc]
theorem Its.nl_mem : ∀ {is : List It} {i : It}, i ∈ is → It.nl i ≤ Its.nl is
  | j :: is, i, h => by
    rw [Its.nl]
    rcases List.mem_cons.mp h with rfl | h
    · exact Nat.le_add_right _ _
    · exact Nat.le_trans (Its.nl_mem h) (Nat.le_add_left _ _)
/-! ### pairs -/
def pairD (p : Str × Int) : PyData := .tuple [.str p.1, .int p.2]
/-- a list of pairs -/
def gPl (K : PySem.W.Frag) (ps : List (Str × Int)) : GP := ⟨fun H u => ∃ l us, u = .ref l ∧ H l = some (.lst us) ∧ DaAll K H us (ps.map pairD), fun s ⟨l, us, h1, h2, h3⟩ => ⟨l, us, h1, s _ _ h2, h3.mono s⟩⟩
section
variable {K : PySem.W.Frag} {H H' : Hp}
theorem da_app {us vs : List V} {ds es : List PyData} : DaAll K H us ds → DaAll K H vs es → DaAll K H (us ++ vs) (ds ++ es)
  | .nil, k => k
  | .cons h t, k => .cons h (da_app t k)
theorem daAll_len : ∀ {vs : List V} {ds : List PyData}, DaAll K H vs ds → vs.length = ds.length
  | _, _, .nil => rfl
  | _, _, .cons _ t => by
    rw [List.length_cons, List.length_cons, daAll_len t]
theorem daAll_at : ∀ {vs : List V} {ds : List PyData} {j : Nat} {x : V}, DaAll K H vs ds → vs[j]? = some x → ∃ d, ds[j]? = some d ∧ Da K H x d
  | _, _, _, _, .nil, e => by cases e
  | _, _, 0, _, .cons h _, e => by
    cases e
    exact ⟨_, rfl, h⟩
  | _, _, j + 1, _, .cons _ t, e => daAll_at (j := j) t e
mutual
/-- made of tuples alone -/
def tupD : PyData → Bool
  | .tuple ds => tupDs ds
  | .list _ => false
  | .dict _ => false
  | _ => true
def tupDs : List PyData → Bool
  | [] => true
  | d :: ds => tupD d && tupDs ds
end
/-- what is no list stays -/
def Kt (H H' : Hp) : Prop := ∀ b o, H b = some o → (∀ xs, o ≠ .lst xs) → H' b = some o
theorem Kt.of {H H' : Hp} (s : Same H H') : Kt H H' := fun b o e _ => s b o e
theorem Kt.put {H : Hp} {l : Addr} {xs : List V} {o : HO} (h : H l = some (.lst xs)) : Kt H (upd H l o) := fun b u e n => by
  have z : b ≠ l := fun z => by
    rw [z, h] at e
    cases e
    exact n xs rfl
  rw [upd_ne z]
  exact e
theorem Kt.trans {H1 H2 H3 : Hp} (a : Kt H1 H2) (b : Kt H2 H3) : Kt H1 H3 := fun x o e n => b x o (a x o e n) n
mutual
theorem Da.kt (k : Kt H H') : ∀ {v : V} {d : PyData}, tupD d = true → Da K H v d → Da K H' v d
  | _, _, _, .non => .non
  | _, _, _, .bl b => .bl b
  | _, _, _, .int i => .int i
  | _, _, _, .str x => .str x
  | _, _, n, .lst _ _ => by
    rw [tupD] at n
    cases n
  | _, _, n, .tup h t => by
    rw [tupD] at n
    refine .tup ?_ (DaAll.kt k n t)
    rcases h with (e | ⟨o, e⟩) | e
    · exact .inl (.inl (k _ _ e fun xs z => by cases z))
    · exact .inl (.inr ⟨o, k _ _ e fun xs z => by cases z⟩)
    · exact .inr e
  | _, _, n, .dic _ _ => by
    rw [tupD] at n
    cases n
theorem DaAll.kt (k : Kt H H') : ∀ {vs : List V} {ds : List PyData}, tupDs ds = true → DaAll K H vs ds → DaAll K H' vs ds
  | _, _, _, .nil => .nil
  | _, _, n, .cons h t => by
    rw [tupDs, Bool.and_eq_true] at n
    exact .cons (Da.kt k n.1 h) (DaAll.kt k n.2 t)
end
theorem tup_pairs : ∀ ps : List (Str × Int), tupDs (ps.map pairD) = true
  | [] => by rw [List.map_nil, tupDs]
  | p :: ps => by
    rw [List.map_cons, tupDs, tup_pairs ps, Bool.and_true]
    unfold pairD
    simp [tupD, tupDs]
theorem da_pair {x : V} {p : Str × Int} (h : Da K H x (pairD p)) : ∃ a, x = .ref a ∧ SqT K H a [.str p.1, .int p.2] := by
  unfold pairD at h
  cases h with
  | @tup a xs _ hs ha =>
  cases ha with
  | cons h1 ha =>
  cases ha with
  | cons h2 ha =>
  cases ha
  cases h1
  cases h2
  exact ⟨a, rfl, hs⟩
end
/-! ### comprehensions whose elements are plain values -/
section
variable {K : PySem.W.Frag} {H0 : Hp} {σ : L2.St} {te ti : TE} {tt : TT}
/-- over a list that an expression gives -/
theorem g_lcF {ds : List PyData} {f : Nat → Bool} {y : Nat → V} {g : TG} {vs : List Nat} (hi : ∀ (H : Hp) (Q : VK), Same H0 H → (∀ H' l us, Same H H' → SqL K H' l us → DaAll K H' us ds → Q (.ref l) H') → ti σ H Q) (hz : ds.length ≤ 1000000)
    (he : ∀ (j : Nat) (x : V) (d : PyData), ds[j]? = some d → ∀ (H : Hp) (R : VK) (N : Hp → Prop), Same H0 H → Da K H x d → (f j = true → ∀ H', Same H H' → R (y j) H') → (f j = false → ∀ H', Same H H' → N H') →
      g x (wipe σ vs) H fun σ2 H2 => wipe σ2 vs = wipe σ vs ∧ tt σ2 H2 fun b H3 => if b = true then te σ2 H3 R else N H3) :
    Gives H0 (tLc (iList K ti) g tt te vs) (gLst ((((List.range ds.length).filter f).map y).map gEq)) σ := fun H Q s q => by
  refine hi H _ s fun H1 l us s1 hl ha => ⟨l, rfl, ⟨us, hl⟩, fun D nD => ?_⟩
  have sl := sizeLine_eq
  have hlen := daAll_len ha
  refine lc_list (K := K) (a := l) (xs := us) (fun k H' => Same H1 H' ∧ H' D = some (.lst (((List.range k).filter f).map y))) ⟨same_put nD, upd_same⟩ (fun k H' _ ⟨s', _⟩ => s'.seq hl) ?_ ?_
  · rintro k x H' hk ⟨s', eD⟩
    obtain ⟨d, hd, hx⟩ := daAll_at ha hk
    have hkl : k < ds.length := (List.getElem?_eq_some_iff.mp hd).1
    have hll : (((List.range k).filter f).map y).length < sizeLine := by
      rw [List.length_map]
      have z := List.length_filter_le f (List.range k)
      rw [List.length_range] at z
      omega
    refine cast ?_ (he k x d hd H' (fun y' H4 => ∃ acc, H4 D = some (.lst acc) ∧ acc.length < sizeLine ∧ Same H1 (upd H4 D (.lst (acc ++ [y']))) ∧ upd H4 D (.lst (acc ++ [y'])) D = some (.lst (((List.range (k + 1)).filter f).map y)))
      (fun H4 => Same H1 H4 ∧ H4 D = some (.lst (((List.range (k + 1)).filter f).map y))) (s.trans (s1.trans s')) (hx.mono s') (fun e H4 s4 => ⟨_, s4 _ _ eD, hll, ?_, ?_⟩) (fun e H4 s4 => ⟨s'.trans s4, ?_⟩))
    · rfl
    · intro b o e
      rw [upd_ne (ne_of_none e nD)]
      exact s4 _ _ (s' _ _ e)
    · rw [upd_same, List.range_succ, List.filter_append, List.map_append]
      simp [e]
    · rw [List.range_succ, List.filter_append]
      simp [e]
      exact s4 _ _ eD
  · rintro H' ⟨s', eD⟩
    rw [hlen] at eD
    exact q H' _ (s1.trans s') ⟨D, _, rfl, eD, allEq⟩
theorem range_map {α β : Type} (l : List α) (f : α → β) (d : β) : (List.range l.length).map (fun j => ((l[j]?).map f).getD d) = l.map f := by
  apply List.ext_getElem
  · rw [List.length_map, List.length_range, List.length_map]
  · intro i h1 h2
    rw [List.getElem_map, List.getElem_range, List.getElem_map]
    rw [List.length_map] at h2
    rw [List.getElem?_eq_getElem h2]
    rfl
/-- sum of a list of numbers -/
theorem g_sum {ns : List Int} (h : Gives H0 te (gLst ((ns.map V.int).map gEq)) σ) : Gives H0 (tCB (rSum K) (tCons te tNil)) (gEq (.int ns.sum)) σ := fun H Q s q =>
  h H _ s fun H1 u s1 ⟨p, us, e, hp, ha⟩ => by
    have eu := all_eq ha
    subst eu
    subst e
    exact ⟨p, ns, rfl, .inl (.inl hp), q H1 _ s1 rfl⟩
end
end Ev

/-! ## Texts in order -/
namespace Ev
open PySem PySem.Spec PyProof.Rows
theorem lt_irr : ∀ a : List Nat, ltCps a a = false
  | [] => rfl
  | x :: a => by
    show (decide (x < x) || (x == x && ltCps a a)) = false
    rw [lt_irr a]
    simp
theorem lt_tri : ∀ a b : List Nat, ltCps a b = false → ltCps b a = false → a = b
  | [], [], _, _ => rfl
  | [], _ :: _, h, _ => by cases h
  | _ :: _, [], _, h => by cases h
  | x :: a, y :: b, h1, h2 => by
    have h1 : (decide (x < y) || (x == y && ltCps a b)) = false := h1
    have h2 : (decide (y < x) || (y == x && ltCps b a)) = false := h2
    rw [Bool.or_eq_false_iff, decide_eq_false_iff_not] at h1 h2
    have e : x = y := by omega
    subst e
    rw [beq_self_eq_true, Bool.true_and] at h1 h2
    rw [lt_tri a b h1.2 h2.2]
/-- not greater is transitive -/
theorem le_tr : ∀ a b c : List Nat, ltCps b a = false → ltCps c b = false → ltCps c a = false
  | [], [], c, _, h => h
  | [], _ :: _, [], _, h => by cases h
  | [], _ :: _, _ :: _, _, _ => rfl
  | _ :: _, [], _, h, _ => by cases h
  | _ :: _, _ :: _, [], _, h => by cases h
  | x :: a, y :: b, z :: c, h1, h2 => by
    have h1 : (decide (y < x) || (y == x && ltCps b a)) = false := h1
    have h2 : (decide (z < y) || (z == y && ltCps c b)) = false := h2
    show (decide (z < x) || (z == x && ltCps c a)) = false
    rw [Bool.or_eq_false_iff, decide_eq_false_iff_not] at h1 h2 ⊢
    refine ⟨by omega, ?_⟩
    by_cases e : z = x
    · subst e
      have e2 : y = z := by omega
      subst e2
      rw [beq_self_eq_true, Bool.true_and] at h1 h2 ⊢
      exact le_tr a b c h1.2 h2.2
    · have : (z == x) = false := by simpa using e
      rw [this, Bool.false_and]
def LeS (a b : Str) : Prop := ltCps b.cps.toList a.cps.toList = false
theorem LeS.rfl' (a : Str) : LeS a a := lt_irr _
theorem LeS.tr {a b c : Str} (h : LeS a b) (k : LeS b c) : LeS a c := le_tr _ _ _ h k
theorem LeS.anti {a b : Str} (h : LeS a b) (k : LeS b a) : a = b := by
  have e := lt_tri _ _ k h
  obtain ⟨x⟩ := a
  obtain ⟨y⟩ := b
  have e : x.toList = y.toList := e
  rw [Array.toList_inj.mp e]
theorem rising_pw : ∀ (r : List Str) (p : Str), risingS p r = true → (p :: r).Pairwise LeS
  | [], _, _ => List.pairwise_singleton _ _
  | x :: r, p, h => by
    have h : (!ltCps x.cps.toList p.cps.toList && risingS x r) = true := h
    rw [Bool.and_eq_true] at h
    have ih := rising_pw r x h.2
    have px : LeS p x := by
      show ltCps x.cps.toList p.cps.toList = false
      have := h.1
      revert this
      cases ltCps x.cps.toList p.cps.toList <;> simp
    refine List.pairwise_cons.mpr ⟨fun y hy => ?_, ih⟩
    rcases List.mem_cons.mp hy with rfl | hy
    · exact px
    · exact px.tr ((List.pairwise_cons.mp ih).1 y hy)
theorem sorted_pw : ∀ {l : List Str}, sortedS l = true → l.Pairwise LeS
  | [], _ => .nil
  | x :: r, h => rising_pw r x h
/-- two rows in order with the same members are one -/
theorem pw_same : ∀ {l m : List Str}, l.Pairwise LeS → m.Pairwise LeS → l.Perm m → l = m
  | [], m, _, _, p => p.nil_eq
  | x :: l, [], _, _, p => by
    have := p.length_eq
    cases this
  | x :: l, y :: m, h, k, p => by
    obtain ⟨h1, h2⟩ := List.pairwise_cons.mp h
    obtain ⟨k1, k2⟩ := List.pairwise_cons.mp k
    have e : x = y := by
      have xy : LeS x y := by
        rcases List.mem_cons.mp (p.mem_iff.mpr (List.mem_cons_self ..)) with e | e
        · rw [e]
          exact LeS.rfl' _
        · exact h1 y e
      have yx : LeS y x := by
        rcases List.mem_cons.mp (p.mem_iff.mp (List.mem_cons_self ..)) with e | e
        · rw [e]
          exact LeS.rfl' _
        · exact k1 x e
      exact xy.anti yx
    subst e
    rw [pw_same h2 k2 p.cons_inv]
theorem sorted_same {l m : List Str} (h : sortedS l = true) (k : sortedS m = true) (p : l.Perm m) : l = m := pw_same (sorted_pw h) (sorted_pw k) p
theorem lt_two : ∀ a b : List Nat, ltCps a b = true → ltCps b a = true → False
  | [], [], h, _ => by cases h
  | [], _ :: _, _, h => by cases h
  | _ :: _, [], h, _ => by cases h
  | x :: a, y :: b, h1, h2 => by
    have h1 : (decide (x < y) || (x == y && ltCps a b)) = true := h1
    have h2 : (decide (y < x) || (y == x && ltCps b a)) = true := h2
    rw [Bool.or_eq_true, decide_eq_true_iff, Bool.and_eq_true, beq_iff_eq] at h1 h2
    rcases h1 with h1 | h1
    · rcases h2 with h2 | h2
      · omega
      · omega
    · rcases h2 with h2 | h2
      · omega
      · exact lt_two a b h1.2 h2.2
def insS (x : Str) : List Str → List Str
  | [] => [x]
  | y :: r => if ltCps y.cps.toList x.cps.toList = true then y :: insS x r else x :: y :: r
theorem ins_perm (x : Str) : ∀ l : List Str, (insS x l).Perm (x :: l)
  | [] => .refl _
  | y :: r => by
    unfold insS
    split
    · exact ((ins_perm x r).cons y).trans (List.Perm.swap x y r)
    · exact .refl _
theorem ins_pw (x : Str) : ∀ l : List Str, l.Pairwise LeS → (insS x l).Pairwise LeS
  | [], _ => List.pairwise_singleton _ _
  | y :: r, h => by
    obtain ⟨h1, h2⟩ := List.pairwise_cons.mp h
    unfold insS
    split
    · rename_i c
      refine List.pairwise_cons.mpr ⟨fun z hz => ?_, ins_pw x r h2⟩
      rcases List.mem_cons.mp ((ins_perm x r).mem_iff.mp hz) with rfl | hz
      · show ltCps z.cps.toList y.cps.toList = false
        by_cases e : ltCps z.cps.toList y.cps.toList = true
        · exact (lt_two _ _ c e).elim
        · exact Bool.eq_false_iff.mpr e
      · exact h1 z hz
    · rename_i c
      have xy : LeS x y := Bool.eq_false_iff.mpr c
      refine List.pairwise_cons.mpr ⟨fun z hz => ?_, h⟩
      rcases List.mem_cons.mp hz with rfl | hz
      · exact xy
      · exact xy.tr (h1 z hz)
def srtS : List Str → List Str
  | [] => []
  | x :: l => insS x (srtS l)
theorem srt_perm : ∀ l : List Str, (srtS l).Perm l
  | [] => .refl _
  | x :: l => (ins_perm x _).trans ((srt_perm l).cons x)
theorem srt_pw : ∀ l : List Str, (srtS l).Pairwise LeS
  | [] => .nil
  | x :: l => ins_pw x _ (srt_pw l)
theorem srt_is {l ys : List Str} (p : ys.Perm l) (h : sortedS ys = true) : ys = srtS l := pw_same (sorted_pw h) (srt_pw l) (p.trans (srt_perm l).symm)
/-- the same members, in order -/
theorem srt_eq {l m : List Str} (h : l.Nodup) (k : m.Nodup) (e : ∀ x, x ∈ l ↔ x ∈ m) : srtS l = srtS m :=
  pw_same (srt_pw l) (srt_pw m) ((srt_perm l).trans (((List.perm_ext_iff_of_nodup h k).mpr e).trans (srt_perm m).symm))
end Ev

/-! ## Items, taken apart -/
namespace Ev
open PySem PySem.Spec PyProof.Rows L2
theorem dec_str (x : Str) : decide (V.str x = V.str x) = true := decide_eq_true rfl
theorem dec_ll : decide (V.str "loop" = V.str "line") = false := decide_eq_false fun h => absurd (V.str.inj h) (by decide)
theorem s_ret2 {r1 r2 : List V → Hp → VK → Prop} {te : TE} {D : Ends} {σ : L2.St} {H : Hp} (h : te σ H fun x H1 => r2 [x] H1 fun y H2 => r1 [y] H2 D.rt) : tRet (tCB r1 (tCons (tCB r2 (tCons te tNil)) tNil)) D σ H := h
theorem abs_lt {t : Int} {B : Nat} (h0 : 0 ≤ t) (h1 : t < (2 ^ B : Nat)) : t.natAbs < 2 ^ B := by omega
/-- an item, taken apart -/
theorem da_line {K : PySem.W.Frag} {H : Hp} {v : V} {x : Str} {t : Int} (h : Da K H v (It.d (.line x t))) : ∃ b, v = .ref b ∧ SqT K H b [.str "line", .str x, .int t] := by
  rw [It.d] at h
  cases h with
  | @tup b xs _ hs ha =>
  cases ha with
  | cons h1 ha =>
  cases ha with
  | cons h2 ha =>
  cases ha with
  | cons h3 ha =>
  cases ha
  cases h1
  cases h2
  cases h3
  exact ⟨b, rfl, hs⟩
theorem da_loop {K : PySem.W.Frag} {H : Hp} {v : V} {r : Int} {is : List It} (h : Da K H v (It.d (.loop r is))) : ∃ b w, v = .ref b ∧ SqT K H b [.str "loop", .int r, w] ∧ Da K H w (.tuple (is.map It.d)) := by
  rw [It.d, Its.d_map] at h
  cases h with
  | @tup b xs _ hs ha =>
  cases ha with
  | cons h1 ha =>
  cases ha with
  | cons h2 ha =>
  cases ha with
  | @cons w _ _ _ h3 ha =>
  cases ha
  cases h1
  cases h2
  exact ⟨b, w, rfl, hs, h3⟩
theorem da_prog {K : PySem.W.Frag} {H : Hp} {v : V} {ds : List PyData} (h : Da K H v (.tuple ds)) : ∃ a xs, v = .ref a ∧ SqT K H a xs ∧ DaAll K H xs ds := by
  cases h with
  | tup hs ha => exact ⟨_, _, rfl, hs, ha⟩
theorem sp_take {r : Int} {is : List It} {i : Nat} {it : It} (h : is[i]? = some it) : Its.sp r (is.take (i + 1)) = Its.sp r (is.take i) ++ It.sp r it := by
  rw [List.take_add_one, h, Its.sp_app]
  show _ ++ Its.sp r [it] = _
  rw [Its.sp_one]
theorem nl_take {is : List It} {i : Nat} {it : It} (h : is[i]? = some it) : Its.nl (is.take i) + It.nl it ≤ Its.nl is := by
  have e : is = is.take i ++ is.drop i := (List.take_append_drop i is).symm
  obtain ⟨hi, hx⟩ := List.getElem?_eq_some_iff.mp h
  rw [List.drop_eq_getElem_cons hi, hx] at e
  have z := congrArg Its.nl e
  rw [Its.nl_app, Its.nl] at z
  omega
section
variable {P : Program} {w : World} {K : PySem.W.Frag} {mg : Str → Option Value} {base : Heap}
theorem no_fn {CX : CXT} {k : Nat} {f : Addr} {fd : FuncData} {ps : List Str} : FnOk P w K mg base CX k f fd ps (fun _ _ _ _ => False) :=
  ⟨fun _ _ _ _ h => h.elim, fun _ _ _ _ _ _ _ _ _ _ _ _ _ h => h.elim⟩
/-- what a program must be, to be asked about -/
structure Prg (K : PySem.W.Frag) (B dep : Nat) (H : Hp) (x : V) (is : List It) : Prop where
  da : Da K H x (.tuple (is.map It.d))
  ok : ∀ i ∈ is, Okp B dep i
  few : Its.nl is ≤ 100000
theorem Prg.same {B dep : Nat} {H H' : Hp} {x : V} {is : List It} (h : Prg K B dep H x is) (s : Same H H') : Prg K B dep H' x is := ⟨h.da.mono s, h.ok, h.few⟩
/-- bounds for numbers -/
def Room2 (B dep : Nat) : Prop := 0 < B ∧ 64 + (dep + 1) * B ≤ 900000
def lenI (is : List It) : Int := ((Its.sp 1 is).map (·.2)).sum
end
def linesI (is : List It) : List Str := srtS (uniq [] ((Its.sp 1 is).map (·.1)))
end Ev

/-! ## How long a text of data is; whiles; items as tuples -/
namespace Ev
open PySem PySem.Spec PyProof.Rows L2
/-- a while by an invariant with a number that falls -/
theorem while_w {c : TT} {tb : TS} {D : Ends} {σ : L2.St} {H : Hp} (W : Nat → L2.St → Hp → Prop) (h0 : ∃ m, W m σ H)
    (hs : ∀ m σ H, W m σ H → c σ H fun b H1 => if b = true then tb { D with nx := fun σ' H' => ∃ m', m' < m ∧ W m' σ' H', ct := fun σ' H' => ∃ m', m' < m ∧ W m' σ' H', bk := D.nx } σ H1 else D.nx σ H1)
    (mono : ∀ σ H Q Q', (∀ b H1, Q b H1 → Q' b H1) → c σ H Q → c σ H Q') : tWhile c tb D σ H := by
  refine ⟨W, h0, fun m σ' H' w => mono σ' H' _ _ (fun b H1 h => ?_) (hs m σ' H' w)⟩
  by_cases e : b = true
  · rw [if_pos e] at h ⊢
    exact ⟨_, fun σ2 H2 n => n, h⟩
  · rw [if_neg e] at h ⊢
    exact h
mutual
def It.sz : It → Nat
  | .line _ _ => 1
  | .loop _ is => 1 + Its.sz is
def Its.sz : List It → Nat
  | [] => 0
  | i :: is => It.sz i + Its.sz is
end
theorem sz_mem : ∀ {is : List It} {i : It}, i ∈ is → It.sz i ≤ Its.sz is
  | j :: is, i, h => by
    rw [Its.sz]
    rcases List.mem_cons.mp h with rfl | h
    · exact Nat.le_add_right _ _
    · exact Nat.le_trans (sz_mem h) (Nat.le_add_left _ _)
theorem drop_one {is : List It} {i : Nat} {it : It} (h : is[i]? = some it) : (is.drop i).take 1 = [it] := by
  obtain ⟨hi, hx⟩ := List.getElem?_eq_some_iff.mp h
  rw [List.drop_eq_getElem_cons hi, hx]
  rfl
theorem atI_of {xs : List V} {i : Nat} {v : V} (h : xs[i]? = some v) : atI xs (i : Nat) = some v := atI_nat h
section
variable {K : PySem.W.Frag}
/-- a part of a program -/
theorem Prg.part {B dep : Nat} {H : Hp} {u x : V} {is js : List It} (hp : Prg K B dep H x is) (hu : Da K H u (.tuple (js.map It.d))) (hm : ∀ i ∈ js, i ∈ is) (hn : Its.nl js ≤ Its.nl is) : Prg K B dep H u js :=
  ⟨hu, fun i hi => hp.ok i (hm i hi), Nat.le_trans hn hp.few⟩
theorem nl_take_le (is : List It) (n : Nat) : Its.nl (is.take n) ≤ Its.nl is := by
  have z := congrArg Its.nl (List.take_append_drop n is)
  rw [Its.nl_app] at z
  omega
theorem nl_drop_le (is : List It) (n : Nat) : Its.nl (is.drop n) ≤ Its.nl is := by
  have z := congrArg Its.nl (List.take_append_drop n is)
  rw [Its.nl_app] at z
  omega
theorem map_take {α β : Type} (f : α → β) (l : List α) (n : Nat) : (l.map f).take n = (l.take n).map f := (List.map_take ..).symm
end
structure Sz (e w : Nat) (d : PyData) : Prop where
  sh : d.showable = true
  ls : d.leavesShort 1000 = true
  dp : d.depth ≤ e
  wt : d.weight ≤ w
theorem Sz.up {e e' w w' : Nat} {d : PyData} (h : Sz e w d) (he : e ≤ e') (hw : w ≤ w') : Sz e' w' d := ⟨h.sh, h.ls, Nat.le_trans h.dp he, Nat.le_trans h.wt hw⟩
theorem Sz.fits {e w : Nat} {d : PyData} (h : Sz e w d) (he : e ≤ 64) (hw : w ≤ 16000) : d.showable = true ∧ d.depth ≤ 64 ∧ d.shown.length ≤ sizeLine := by
  refine ⟨h.sh, Nat.le_trans h.dp he, ?_⟩
  have z := PyData.shown_le 1000 (by decide) d h.ls
  have y := sizeLine_eq
  have h1 : (1000 + 2) * d.weight ≤ 1002 * 16000 := Nat.mul_le_mul_left _ (Nat.le_trans h.wt hw)
  omega
theorem sz_int {i : Int} {k : Nat} (h : i.natAbs < 2 ^ k) (h0 : 0 < k) (hk : k ≤ 900) : Sz 0 k (.int i) := by
  have hl := PySem.Flt.log2_lt_of h0 h
  refine ⟨?_, ?_, ?_, ?_⟩
  · rw [PyData.showable]
    exact decide_eq_true (by omega)
  · rw [PyData.leavesShort]
    refine decide_eq_true ?_
    have z := int_text_length_le h0 hl
    have e : (PyData.shown (.int i)).length = (toString i).length := by
      rw [PyData.shown, PySem.ofString_length]
    omega
  · rw [PyData.depth]
    exact Nat.le_refl _
  · rw [PyData.weight]
    split <;> omega
theorem sz_str {x : Str} {n : Nat} (h : x.cps.size ≤ n) (hc : (x.cps.toList.all fun c => decide (c < 16 ^ 8)) = true) : Sz 0 n (.str x) := by
  refine ⟨by rw [PyData.showable], ?_, ?_, ?_⟩
  · rw [PyData.leavesShort]
    exact hc
  · rw [PyData.depth]
    exact Nat.le_refl _
  · rw [PyData.weight]
    exact h
theorem sz_all {e w : Nat} : ∀ {ds : List PyData}, (∀ d ∈ ds, Sz e w d) → PyData.showableAll ds = true ∧ PyData.leavesShortAll 1000 ds = true ∧ PyData.depthAll ds ≤ e ∧ PyData.weightAll ds ≤ ds.length * (w + 1)
  | [], _ => by
    refine ⟨by rw [PyData.showableAll], by rw [PyData.leavesShortAll], ?_, ?_⟩
    · rw [PyData.depthAll]
      exact Nat.zero_le _
    · rw [PyData.weightAll]
      exact Nat.zero_le _
  | d :: ds, h => by
    obtain ⟨h1, h2, h3, h4⟩ := h d (List.mem_cons_self ..)
    obtain ⟨k1, k2, k3, k4⟩ := sz_all fun x hx => h x (List.mem_cons_of_mem _ hx)
    refine ⟨by rw [PyData.showableAll, h1, k1]; rfl, by rw [PyData.leavesShortAll, h2, k2]; rfl, ?_, ?_⟩
    · rw [PyData.depthAll]
      exact Nat.max_le.mpr ⟨h3, k3⟩
    · rw [PyData.weightAll, List.length_cons, Nat.succ_mul]
      omega
theorem sz_tup {e w : Nat} {ds : List PyData} (h : ∀ d ∈ ds, Sz e w d) : Sz (e + 1) (ds.length * (w + 1)) (.tuple ds) := by
  obtain ⟨k1, k2, k3, k4⟩ := sz_all h
  refine ⟨by rw [PyData.showable]; exact k1, by rw [PyData.leavesShort]; exact k2, ?_, by rw [PyData.weight]; exact k4⟩
  rw [PyData.depth]
  omega
theorem sz_lst {e w : Nat} {ds : List PyData} (h : ∀ d ∈ ds, Sz e w d) : Sz (e + 1) (ds.length * (w + 1)) (.list ds) := by
  obtain ⟨k1, k2, k3, k4⟩ := sz_all h
  refine ⟨by rw [PyData.showable]; exact k1, by rw [PyData.leavesShort]; exact k2, ?_, by rw [PyData.weight]; exact k4⟩
  rw [PyData.depth]
  omega
def nmB (x : Str) : Bool := (decide (x.cps.size ≤ 8) && x.cps.toList.all fun c => decide (c < 16 ^ 8)) && PyData.strOk x
theorem nm_sz {x : Str} (h : nmB x = true) : Sz 0 8 (.str x) := by
  unfold nmB at h
  rw [Bool.and_eq_true, Bool.and_eq_true] at h
  exact sz_str (of_decide_eq_true h.1.1) h.1.2
theorem nm_ok {x : Str} (h : nmB x = true) : PyData.strOk x = true := by
  unfold nmB at h
  rw [Bool.and_eq_true] at h
  exact h.2
mutual
/-- names and numbers are short -/
def It.nm : It → Prop
  | .line x t => nmB x = true ∧ t.natAbs < 2 ^ 128
  | .loop r is => r.natAbs < 2 ^ 128 ∧ Its.nm is
def Its.nm : List It → Prop
  | [] => True
  | i :: is => It.nm i ∧ Its.nm is
end
mutual
def It.ni : It → Nat
  | .line _ _ => 1
  | .loop _ is => 1 + Its.ni is
def Its.ni : List It → Nat
  | [] => 0
  | i :: is => It.ni i + Its.ni is
end
theorem lit_sz : Sz 0 8 (.str "line") ∧ Sz 0 8 (.str "loop") := ⟨nm_sz (by decide +kernel), nm_sz (by decide +kernel)⟩
mutual
theorem It.szd : ∀ (n : Nat) (B : Nat) (i : It), Okp B n i → It.nm i → (It.d i).showable = true ∧ (It.d i).leavesShort 1000 = true ∧ (It.d i).depth ≤ 2 * n + 1 ∧ (It.d i).weight + 1 ≤ 165 * It.ni i
  | n, B, .line x t, _, h => by
    rw [It.nm] at h
    rw [It.d, It.ni]
    have z := sz_tup (e := 0) (w := 128) (ds := [.str "line", .str x, .int t]) fun d hd => by
      rcases List.mem_cons.mp hd with rfl | hd
      · exact lit_sz.1.up (Nat.le_refl _) (by decide)
      rcases List.mem_cons.mp hd with rfl | hd
      · exact (nm_sz h.1).up (Nat.le_refl _) (by decide)
      rcases List.mem_cons.mp hd with rfl | hd
      · exact sz_int h.2 (by decide) (by decide)
      cases hd
    refine ⟨z.sh, z.ls, Nat.le_trans z.dp (by omega), ?_⟩
    rw [PyData.weight, PyData.weightAll, PyData.weightAll, PyData.weightAll, PyData.weightAll]
    have w1 := lit_sz.1.wt
    have w2 := (nm_sz h.1).wt
    have w3 := (sz_int (i := t) h.2 (by decide) (by decide)).wt
    omega
  | 0, B, .loop r is, h, _ => h.elim
  | n + 1, B, .loop r is, ho, h => by
    rw [It.nm] at h
    obtain ⟨_, _, hj⟩ : 0 ≤ r ∧ r < (2 ^ B : Nat) ∧ ∀ i ∈ is, Okp B n i := ho
    obtain ⟨k1, k2, k3, k4⟩ := Its.szd n B is hj h.2
    have z1 := lit_sz.2
    have z2 := sz_int (i := r) h.1 (by decide) (by decide)
    rw [It.d, Its.d_map, It.ni]
    refine ⟨?_, ?_, ?_, ?_⟩
    · rw [PyData.showable, PyData.showableAll, PyData.showableAll, PyData.showableAll, PyData.showableAll, z1.sh, z2.sh]
      rw [PyData.showable, k1]
      rfl
    · rw [PyData.leavesShort, PyData.leavesShortAll, PyData.leavesShortAll, PyData.leavesShortAll, PyData.leavesShortAll, z1.ls, z2.ls]
      rw [PyData.leavesShort, k2]
      rfl
    · rw [PyData.depth, PyData.depthAll, PyData.depthAll, PyData.depthAll, PyData.depthAll]
      have d1 := z1.dp
      have d2 := z2.dp
      have d3 : (PyData.tuple (is.map It.d)).depth ≤ 2 * n + 2 := by
        rw [PyData.depth]
        omega
      have : max (PyData.str "loop").depth (max (PyData.int r).depth (max (PyData.tuple (is.map It.d)).depth 0)) ≤ 2 * n + 2 := by
        refine Nat.max_le.mpr ⟨by omega, Nat.max_le.mpr ⟨by omega, Nat.max_le.mpr ⟨d3, by omega⟩⟩⟩
      omega
    · rw [PyData.weight, PyData.weightAll, PyData.weightAll, PyData.weightAll, PyData.weightAll]
      rw [show (PyData.tuple (is.map It.d)).weight = PyData.weightAll (is.map It.d) by rw [PyData.weight]]
      have w1 := z1.wt
      have w2 := z2.wt
      have h5 : PyData.weightAll (is.map It.d) ≤ 165 * Its.ni is := k4
      omega
theorem Its.szd : ∀ (n : Nat) (B : Nat) (is : List It), (∀ i ∈ is, Okp B n i) → Its.nm is → PyData.showableAll (is.map It.d) = true ∧ PyData.leavesShortAll 1000 (is.map It.d) = true ∧ PyData.depthAll (is.map It.d) ≤ 2 * n + 1 ∧ PyData.weightAll (is.map It.d) ≤ 165 * Its.ni is
  | n, B, [], _, _ => by
    refine ⟨by rw [List.map_nil, PyData.showableAll], by rw [List.map_nil, PyData.leavesShortAll], ?_, ?_⟩
    · rw [List.map_nil, PyData.depthAll]
      exact Nat.zero_le _
    · rw [List.map_nil, PyData.weightAll]
      exact Nat.zero_le _
  | n, B, i :: is, ho, h => by
    rw [Its.nm] at h
    obtain ⟨h1, h2, h3, h4⟩ := It.szd n B i (ho i (List.mem_cons_self ..)) h.1
    obtain ⟨k1, k2, k3, k4⟩ := Its.szd n B is (fun j hj => ho j (List.mem_cons_of_mem _ hj)) h.2
    refine ⟨by rw [List.map_cons, PyData.showableAll, h1, k1]; rfl, by rw [List.map_cons, PyData.leavesShortAll, h2, k2]; rfl, ?_, ?_⟩
    · rw [List.map_cons, PyData.depthAll]
      exact Nat.max_le.mpr ⟨h3, k3⟩
    · rw [List.map_cons, PyData.weightAll, Its.ni]
      omega
end
theorem nm_of : ∀ {is : List It}, (∀ i ∈ is, It.nm i) → Its.nm is
  | [], _ => by
    rw [Its.nm]
    trivial
  | i :: is, h => by
    rw [Its.nm]
    exact ⟨h i (List.mem_cons_self ..), nm_of fun j hj => h j (List.mem_cons_of_mem _ hj)⟩
theorem ni_mul {W : Nat} : ∀ {is : List It}, (∀ i ∈ is, It.ni i ≤ W) → Its.ni is ≤ is.length * W
  | [], _ => by
    rw [Its.ni]
    exact Nat.zero_le _
  | i :: is, h => by
    rw [Its.ni, List.length_cons, Nat.succ_mul]
    have a := h i (List.mem_cons_self ..)
    have b := ni_mul fun j hj => h j (List.mem_cons_of_mem _ hj)
    omega
mutual
theorem It.nl_ni : ∀ i : It, It.nl i ≤ It.ni i
  | .line _ _ => by
    rw [It.nl, It.ni]
    exact Nat.le_refl _
  | .loop _ is => by
    rw [It.nl, It.ni]
    exact Nat.le_trans (Its.nl_ni is) (Nat.le_add_left _ _)
theorem Its.nl_ni : ∀ is : List It, Its.nl is ≤ Its.ni is
  | [] => by
    rw [Its.nl]
    exact Nat.zero_le _
  | i :: is => by
    rw [Its.nl, Its.ni]
    exact Nat.add_le_add (It.nl_ni i) (Its.nl_ni is)
end
mutual
theorem It.tupd : ∀ i : It, tupD (It.d i) = true
  | .line x t => by
    rw [It.d, tupD, tupDs, tupDs, tupDs, tupDs, tupD, tupD, tupD]
    rfl
    all_goals (intros; contradiction)
  | .loop r is => by
    rw [It.d, tupD, tupDs, tupDs, tupDs, tupDs, tupD, tupD, tupD, Its.tupd is]
    rfl
    all_goals (intros; contradiction)
theorem Its.tupd : ∀ is : List It, tupDs (Its.d is) = true
  | [] => by rw [Its.d, tupDs]
  | i :: is => by rw [Its.d, tupDs, It.tupd i, Its.tupd is]; rfl
end
theorem prog_tup (is : List It) : tupD (.tuple (is.map It.d)) = true := by
  rw [tupD, ← Its.d_map]
  exact Its.tupd is
theorem Bu.kt {p : Addr} {H H' : Hp} {xs : List V} (h : Bu p H H') (hp : H p = some (.lst xs)) : Kt H H' := fun b o e n => by
  refine h b o (fun z => ?_) e
  rw [z, hp] at e
  cases e
  exact n xs rfl
theorem Prg.kt {K : PySem.W.Frag} {B dep : Nat} {H H' : Hp} {x : V} {is : List It} (h : Prg K B dep H x is) (k : Kt H H') : Prg K B dep H' x is := ⟨h.da.kt k (prog_tup is), h.ok, h.few⟩
/-! ### the ticks, written out -/
mutual
def It.w : It → List Str
  | .line x t => List.replicate t.toNat x
  | .loop r is => (List.replicate r.toNat (Its.w is)).flatten
def Its.w : List It → List Str
  | [] => []
  | i :: is => It.w i ++ Its.w is
end
theorem w_app : ∀ is js : List It, Its.w (is ++ js) = Its.w is ++ Its.w js
  | [], js => by
    rw [List.nil_append, Its.w, List.nil_append]
  | i :: is, js => by
    rw [List.cons_append, Its.w, Its.w, w_app is js, List.append_assoc]
theorem w_one (i : It) : Its.w [i] = It.w i := by
  rw [Its.w, Its.w, List.append_nil]
mutual
/-- numbers from 0 -/
def It.nn : It → Prop
  | .line _ t => 0 ≤ t
  | .loop r is => 0 ≤ r ∧ Its.nn is
def Its.nn : List It → Prop
  | [] => True
  | i :: is => It.nn i ∧ Its.nn is
end
mutual
/-- numbers from 1, no empty loop -/
def It.ps : It → Prop
  | .line _ t => 1 ≤ t
  | .loop r is => 1 ≤ r ∧ is ≠ [] ∧ Its.ps is
def Its.ps : List It → Prop
  | [] => True
  | i :: is => It.ps i ∧ Its.ps is
end
mutual
theorem It.ps_nn : ∀ i : It, It.ps i → It.nn i
  | .line x t, h => by
    rw [It.ps] at h
    rw [It.nn]
    omega
  | .loop r is, h => by
    rw [It.ps] at h
    rw [It.nn]
    exact ⟨by omega, Its.ps_nn is h.2.2⟩
theorem Its.ps_nn : ∀ is : List It, Its.ps is → Its.nn is
  | [], _ => by
    rw [Its.nn]
    trivial
  | i :: is, h => by
    rw [Its.ps] at h
    rw [Its.nn]
    exact ⟨It.ps_nn i h.1, Its.ps_nn is h.2⟩
end
theorem ps_mem : ∀ {is : List It} {i : It}, Its.ps is → i ∈ is → It.ps i
  | j :: is, i, h, m => by
    rw [Its.ps] at h
    rcases List.mem_cons.mp m with rfl | m
    · exact h.1
    · exact ps_mem h.2 m
theorem ps_of : ∀ {is : List It}, (∀ i ∈ is, It.ps i) → Its.ps is
  | [], _ => by
    rw [Its.ps]
    trivial
  | i :: is, h => by
    rw [Its.ps]
    exact ⟨h i (List.mem_cons_self ..), ps_of fun j hj => h j (List.mem_cons_of_mem _ hj)⟩
theorem ps_take {is : List It} (h : Its.ps is) (n : Nat) : Its.ps (is.take n) := ps_of fun i hi => ps_mem h (List.mem_of_mem_take hi)
theorem ps_one {i : It} (h : It.ps i) : Its.ps [i] := ps_of fun j hj => by
  rw [List.mem_singleton.mp hj]
  exact h
theorem flat_count (x : Str) (l : List Str) : ∀ n : Nat, ((List.replicate n l).flatten.count x) = n * l.count x
  | 0 => by
    rw [List.replicate_zero, Nat.zero_mul]
    rfl
  | n + 1 => by
    rw [List.replicate_succ, List.flatten_cons, List.count_append, flat_count x l n, Nat.succ_mul]
    omega
theorem flat_len (l : List Str) : ∀ n : Nat, ((List.replicate n l).flatten.length) = n * l.length
  | 0 => by
    rw [List.replicate_zero, Nat.zero_mul]
    rfl
  | n + 1 => by
    rw [List.replicate_succ, List.flatten_cons, List.length_append, flat_len l n, Nat.succ_mul]
    omega
theorem mem_flat {x : Str} {l : List Str} {n : Nat} (h : 1 ≤ n) : x ∈ (List.replicate n l).flatten ↔ x ∈ l := by
  rw [List.mem_flatten]
  constructor
  · rintro ⟨m, h1, h2⟩
    rw [List.eq_of_mem_replicate h1] at h2
    exact h2
  · intro hx
    exact ⟨l, List.mem_replicate.mpr ⟨by omega, rfl⟩, hx⟩
mutual
theorem It.w_pos : ∀ i : It, It.ps i → 1 ≤ (It.w i).length
  | .line x t, h => by
    rw [It.ps] at h
    rw [It.w, List.length_replicate]
    omega
  | .loop r is, h => by
    rw [It.ps] at h
    rw [It.w, flat_len]
    have z := Its.w_pos is h.2.1 h.2.2
    have z2 : 1 * 1 ≤ r.toNat * (Its.w is).length := Nat.mul_le_mul (by omega) z
    omega
theorem Its.w_pos : ∀ is : List It, is ≠ [] → Its.ps is → 1 ≤ (Its.w is).length
  | [], n, _ => absurd rfl n
  | i :: is, _, h => by
    rw [Its.ps] at h
    rw [Its.w, List.length_append]
    have z := It.w_pos i h.1
    omega
end
/-- the ticks up to one within a loop -/
theorem flat_take {l : List Str} (hl : 1 ≤ l.length) : ∀ (n s : Nat), s < n * l.length → (List.replicate n l).flatten.take s = (List.replicate (s / l.length) l).flatten ++ l.take (s % l.length)
  | 0, s, h => by
    rw [Nat.zero_mul] at h
    omega
  | n + 1, s, h => by
    rw [List.replicate_succ, List.flatten_cons, List.take_append]
    by_cases c : s < l.length
    · rw [Nat.div_eq_of_lt c, Nat.mod_eq_of_lt c, Nat.sub_eq_zero_of_le (Nat.le_of_lt c)]
      simp
    · have e : s = (s - l.length) + l.length := by omega
      rw [Nat.succ_mul] at h
      have ih := flat_take hl n (s - l.length) (by omega)
      rw [List.take_of_length_le (by omega), ih]
      have d1 : s / l.length = (s - l.length) / l.length + 1 := by
        conv => lhs; rw [e]
        rw [Nat.add_div_right _ (by omega)]
      have d2 : s % l.length = (s - l.length) % l.length := by
        conv => lhs; rw [e]
        rw [Nat.add_mod_right]
      rw [d1, d2, List.replicate_succ, List.flatten_cons, List.append_assoc]
theorem flat_get {l : List Str} (hl : 1 ≤ l.length) : ∀ (n s : Nat), s < n * l.length → (List.replicate n l).flatten[s]? = l[s % l.length]?
  | 0, s, h => by
    rw [Nat.zero_mul] at h
    omega
  | n + 1, s, h => by
    rw [List.replicate_succ, List.flatten_cons]
    by_cases c : s < l.length
    · rw [List.getElem?_append_left c, Nat.mod_eq_of_lt c]
    · rw [Nat.succ_mul] at h
      rw [List.getElem?_append_right (by omega), flat_get hl n (s - l.length) (by omega)]
      congr 1
      exact (Nat.mod_eq_sub_mod (by omega)).symm
end Ev

/-! ## The numbers of a pot -/
namespace Ev
open PySem PySem.Spec PyProof.Rows L2
/-- the numbers of a pot out of which at most n draws came by reckoning -/
def PotL (n : Nat) (xs : List V) : Prop := ∃ x y c : Int, xs = [.int x, .int y, .int c] ∧ 0 ≤ x ∧ 0 ≤ y ∧ y < 2305843009213693921 ∧ 0 ≤ c ∧ c ≤ n
theorem own_nn (z m : Int) (b : Bool) (h : 0 < m) : 0 ≤ z % m * (if b = true then 1 else 0) := by
  refine Int.mul_nonneg (Int.emod_nonneg _ (by omega)) ?_
  cases b <;> decide
theorem flag_in (b : Bool) : -(2 ^ 64) < (if b = true then 1 else 0 : Int) ∧ (if b = true then 1 else 0 : Int) < 2 ^ 64 := by
  cases b <;> decide
theorem seq_nn {d : Int} {n : Nat} (h0 : 0 ≤ d) (h1 : d < n) : seqIndex? d n = some d.toNat := by
  unfold seqIndex?
  simp only []
  first
    | (rw [if_neg (by omega), if_pos (by omega)])
    | (split <;> simp_all <;> omega)
    | omega
/-- what len of a list or a tuple asks -/
def rLenK (K : PySem.W.Frag) : List V → Hp → VK → Prop := fun xs H Q => ∃ p ys, xs = [V.ref p] ∧ (SqL K H p ys ∨ SqT K H p ys) ∧ Q (.int (ys.length : Nat)) H
/-- what is tracked in H' and was not in H -/
def newer (H H' : Hp) : Hp := fun b => if H b = none then H' b else none
theorem newer_at {H H' : Hp} {b : Addr} (h : H b = none) : newer H H' b = H' b := if_pos h
theorem newer_le {A B A' B' : Hp} (h1 : ∀ b, A b = none → A' b = none) (h2 : ∀ b o, A b = none → B b = some o → B' b = some o) : Same (newer A B) (newer A' B') := fun b o e => by
  by_cases hb : A b = none
  · rw [newer_at hb] at e
    rw [newer_at (h1 b hb)]
    exact h2 b o hb e
  · have z : newer A B b = none := if_neg hb
    rw [z] at e
    cases e
theorem newer_sub {H H' : Hp} (h : ∀ b o, H b = none → H' b = some o → H' b = some o) : Same (newer H H') H' := fun b o e => by
  by_cases hb : H b = none
  · rw [newer_at hb] at e
    exact e
  · have z : newer H H' b = none := if_neg hb
    rw [z] at e
    cases e
theorem daAll_append {K : PySem.W.Frag} {H : Hp} {v : V} {d : PyData} (h : Da K H v d) : ∀ {vs : List V} {ds : List PyData}, DaAll K H vs ds → DaAll K H (vs ++ [v]) (ds ++ [d])
  | _, _, .nil => .cons h .nil
  | _, _, .cons a t => .cons a (daAll_append h t)
/-- tracked things stay tracked -/
theorem Bu.dom {p : Addr} {H H' : Hp} {o : HO} (h : Bu p H H') (hp : H' p = some o) (b : Addr) (e : H' b = none) : H b = none := by
  cases q : H b with
  | none => rfl
  | some u =>
    by_cases z : b = p
    · rw [z, hp] at e
      cases e
    · rw [h b u z q] at e
      cases e
theorem dom1 {p l : Addr} {H H' : Hp} {o1 o2 o3 : HO} (h : Bu p H H') (hp : H' p = some o1) (hl : H' l = some o2) {t : Addr} (e : H' t = none) : upd H l o3 t = none := by
  have ntl : t ≠ l := fun z => by
    rw [z, hl] at e
    cases e
  rw [upd_ne ntl]
  exact h.dom hp t e
theorem log_le {m : Int} (h1 : 1 ≤ m) (h2 : m ≤ 10 ^ 18) : m.natAbs.log2 < 9000 :=
  Nat.lt_of_lt_of_le (PySem.Flt.log2_lt_of (show 0 < 64 by decide) (show m.natAbs < 2 ^ 64 by omega)) (by decide)
theorem PotL.up {n m : Nat} {xs : List V} (h : PotL n xs) (k : n ≤ m) : PotL m xs := by
  obtain ⟨x, y, c, h1, h2, h3, h4, h5, h6⟩ := h
  exact ⟨x, y, c, h1, h2, h3, h4, h5, by omega⟩
theorem bu_seq {K : PySem.W.Frag} {p q : Addr} {H H' : Hp} {zs : List V} (n : q ≠ p) (h : Bu p H H') (s : SqL K H q zs) : SqL K H' q zs := by
  rcases s with (e | ⟨o, e⟩) | e
  · exact .inl (.inl (h _ _ n e))
  · exact .inl (.inr ⟨o, h _ _ n e⟩)
  · exact .inr e
end Ev

/-! ## isinstance of any datum; slices of tuples -/
namespace Ev
open PySem PySem.Spec PyProof.Rows L2
def tyD : PyData → String
  | .none => "NoneType"
  | .bool _ => "bool"
  | .int _ => "int"
  | .str _ => "str"
  | .list _ => "list"
  | .tuple _ => "tuple"
  | .dict _ => "dict"
theorem Da.ty {K : PySem.W.Frag} {H : Hp} {x : V} {d : PyData} (h : Da K H x d) : TyX K H x (.type (tyD d)) := by
  cases h with
  | non => exact .base .non
  | bl b => exact .base (.bl b)
  | int i => exact .base (.int i)
  | str x => exact .base (.str x)
  | lst hs ha =>
    rcases hs with (e | ⟨o, e⟩) | ⟨o, its, n, e, hc, _⟩
    · exact .base (.lst e)
    · exact .base (.frz e)
    · exact .kList e hc
  | tup hs ha =>
    rcases hs with (e | ⟨o, e⟩) | ⟨o, its, n, e, hc, _⟩
    · exact .base (.tup e)
    · exact .fTuple e
    · exact .kTuple e hc
  | dic e hk => exact .base (.dK e)
def isD (T : String) (d : PyData) : Bool := (kitB (tyD d) T).getD false
def OkT (T : String) : Prop := T = "int" ∨ T = "bool" ∨ T = "tuple" ∨ T = "str"
theorem kit_D {T : String} (hT : OkT T) (d : PyData) : kitB (tyD d) T = some (isD T d) := by
  rcases hT with rfl | rfl | rfl | rfl <;> cases d <;> kernel_rfl
theorem isD_int (d : PyData) : isD "int" d = (match d with | .int _ => true | .bool _ => true | _ => false) := by
  cases d <;> kernel_rfl
theorem isD_bool (d : PyData) : isD "bool" d = (match d with | .bool _ => true | _ => false) := by
  cases d <;> kernel_rfl
theorem isD_tuple (d : PyData) : isD "tuple" d = (match d with | .tuple _ => true | _ => false) := by
  cases d <;> kernel_rfl
theorem isD_str (d : PyData) : isD "str" d = (match d with | .str _ => true | _ => false) := by
  cases d <;> kernel_rfl
def tIsT (K : PySem.W.Frag) (T : String) (i : Nat) : TE := fun σ H Q => ∃ (x : V) (d : PyData), σ[i]? = some (some x) ∧ Da K H x d ∧ Q (.bl (isD T d)) H
section
variable {X : Cx} {x y : Str} {i : Nat} {p1 p2 q1 q2 : Pos}
theorem pe_isT {T : String} (hT : OkT T) (m : X.mg "isinstance" = none) (hv : ∀ pos, PE X (.Name y pos) (tVar i)) (hx : ∀ pos, PE X (.Name x pos) (tC (.ty T))) (hg : Gl X "isinstance" := by rfl) :
    PE X (.Call (.Name "isinstance" p1) [.Name y q1, .Name x q2] [] p2) (tIsT X.K T i) := by
  refine PE.imp (pe_callB call_isi hg m (by decide +kernel) (pa_cons (hv q1) (pa_cons (hx q2) pa_nil))) ?_
  rintro σ H Q ⟨x, d, h1, h2, h3⟩
  exact ⟨x, h1, x, .ty T, .type (tyD d), .type T, isD T d, rfl, .ty T, h2.ty, kit_ty (kit_D hT d), h3⟩
end
section
variable {K : PySem.W.Frag} {H0 : Hp} {σ : L2.St} {i : Nat} {x : V} {d : PyData} {T : String} {b c : Bool} {tt uu : TT} {t rest : TS} {D : Ends}
theorem t_isT (h : σ[i]? = some (some x)) (hd : Da K H0 x d) : GivesT H0 (tB (tIsT K T i)) (isD T d) σ := fun H Q s q => ⟨x, d, h, hd.mono s, _, rfl, q H Same.rfl'⟩
end
def intD (lo hi : Int) : PyData → Bool
  | .int i => decide (lo ≤ i) && decide (i ≤ hi)
  | _ => false
theorem ty_of {X : Cx} {x : Str} {T : String} {pos : Pos} (hg : Gl X x) (hm : X.mg x = none) (hb : bootBuiltins x = some (.type T)) (hn : x ≠ "__name__" := by decide) (hd : (x == ("__debug__" : Str)) = false := by decide) :
    PE X (.Name x pos) (tC (.ty T)) := pe_bltn (v := .ty T) hg hm hb (show RelV (.ty T) (.type T) from rfl) hn hd
def cutD (ds : List PyData) (lo hi : Option Int) : List PyData := (ds.drop (HT.sIx ds.length 0 lo)).take (HT.sIx ds.length ds.length hi - HT.sIx ds.length 0 lo)
theorem cut_to (ds : List PyData) (i : Nat) : cutD ds none (some (i : Nat)) = ds.take i := by
  unfold cutD
  rw [HT.sIx_none, HT.sIx_nat, List.drop_zero, Nat.sub_zero]
  by_cases h : i ≤ ds.length
  · rw [Nat.min_eq_left h]
  · rw [Nat.min_eq_right (by omega), List.take_of_length_le (by omega), List.take_of_length_le (by omega)]
theorem cut_mid (ds : List PyData) (i j : Nat) : cutD ds (some (i : Nat)) (some (j : Nat)) = (ds.drop i).take (j - i) := by
  unfold cutD
  rw [HT.sIx_nat, HT.sIx_nat]
  by_cases h : i ≤ ds.length
  · rw [Nat.min_eq_left h]
    by_cases k : j ≤ ds.length
    · rw [Nat.min_eq_left k]
    · rw [Nat.min_eq_right (by omega), List.take_of_length_le (by rw [List.length_drop]; omega), List.take_of_length_le (by rw [List.length_drop]; omega)]
  · have e : min i ds.length = ds.length := Nat.min_eq_right (by omega)
    rw [e, List.drop_of_length_le (Nat.le_refl _), List.drop_of_length_le (show ds.length ≤ i by omega), List.take_nil, List.take_nil]
theorem daAll_take {K : PySem.W.Frag} {H : Hp} : ∀ {vs : List V} {ds : List PyData} (n : Nat), DaAll K H vs ds → DaAll K H (vs.take n) (ds.take n)
  | _, _, 0, _ => .nil
  | _, _, _ + 1, .nil => .nil
  | _, _, n + 1, .cons a t => .cons a (daAll_take n t)
theorem daAll_drop {K : PySem.W.Frag} {H : Hp} : ∀ {vs : List V} {ds : List PyData} (n : Nat), DaAll K H vs ds → DaAll K H (vs.drop n) (ds.drop n)
  | _, _, 0, h => h
  | _, _, _ + 1, .nil => .nil
  | _, _, n + 1, .cons _ t => daAll_drop n t
/-- a slice of a tuple -/
theorem sl_val {K : PySem.W.Frag} {H : Hp} {x : V} {ds : List PyData} {lo hi : Option Int} {Q : VK} (hd : Da K H x (.tuple ds)) (q : ∀ H' u, Same H H' → Da K H' u (.tuple (cutD ds lo hi)) → Q u H') : rSlA K x lo hi H Q := by
  cases hd with
  | @tup a xs _ hs ha =>
  have hl := daAll_len ha
  refine ⟨a, xs, rfl, hs, fun e => ?_, fun e r nr => ?_⟩
  · refine q _ _ Same.rfl' ?_
    have z : cutD ds lo hi = ds := by
      unfold cutD
      rw [← hl, e.1, e.2, hl, List.drop_zero, Nat.sub_zero, List.take_length]
    rw [z]
    exact .tup hs ha
  · refine q _ _ (same_put nr) (.tup (xs := cutV xs lo hi) (.inl (.inl upd_same)) ?_)
    have z := (daAll_take (HT.sIx xs.length xs.length hi - HT.sIx xs.length 0 lo) (daAll_drop (HT.sIx xs.length 0 lo) ha)).mono (same_put (o := .tup (cutV xs lo hi)) nr)
    unfold cutV cutD
    rw [← hl]
    exact z
theorem cut_from (ds : List PyData) (i : Nat) : cutD ds (some (i : Nat)) none = ds.drop i := by
  unfold cutD
  rw [HT.sIx_none, HT.sIx_nat]
  by_cases h : i ≤ ds.length
  · rw [Nat.min_eq_left h, List.take_of_length_le (by rw [List.length_drop]; exact Nat.le_refl _)]
  · rw [Nat.min_eq_right (by omega), List.drop_of_length_le (Nat.le_refl _), List.drop_of_length_le (by omega), List.take_nil]
end Ev

/-! ## Defs by name: what stands there, and what it promises -/
namespace Ev
open PySem PySem.Spec PyProof.Rows L2
/-- a def of the module -/
structure Def (K : PySem.W.Frag) (mg : Str → Option Value) (x : Str) (st : Stmt) (ps : List Str) : Prop where
  ex : ∃ (f : Addr) (fd : FuncData), Fun K x x st f fd ∧ Binds K fd ps [] ∧ mg x = some (.ref f)
/-- a def that keeps a promise, ready to be called -/
structure Cal (P : Program) (w : World) (K : PySem.W.Frag) (mg : Str → Option Value) (base : Heap) (k : Nat) (x : Str) (ps : List Str) (sp : Sp) : Prop where
  ex : ∃ (f : Addr) (fd : FuncData), FnG P w K mg base CX0 k f fd ps sp ∧ Binds K fd ps [] ∧ mg x = some (.ref f) ∧ PySem.W.keepIn K (.ref f) = true
section
variable {P : Program} {w : World} {K : PySem.W.Frag} {mg : Str → Option Value} {base : Heap} {x : Str} {st : Stmt} {ps N : List Str} {sp : Sp} {k j : Nat}
theorem Cal.up (C : Cal P w K mg base j x ps sp) (h : j ≤ k) : Cal P w K mg base k x ps sp := by
  obtain ⟨f, fd, F, b, m, v⟩ := C.ex
  exact ⟨f, fd, F.up h, b, m, v⟩
theorem Cal.of {f : Addr} {fd : FuncData} (F : FnOk P w K mg base CX0 k f fd ps sp) (b : Binds K fd ps []) (m : mg x = some (.ref f)) (v : PySem.W.keepIn K (.ref f) = true) : Cal P w K mg base k x ps sp :=
  ⟨f, fd, .of F, b, m, v⟩
theorem Def.ok (D : Def K mg x st ps) (S : FnScope N ps (defScope st)) (len : ∀ vs H Q E, sp vs H Q E → vs.length = ps.length)
    (hbody : ∀ (f : Addr) (cdv : Value) (A : Around) (outer : List Env) (s : Shared) (H : Hp) (vs : List V) (Q : VK) (E : XK),
      Room k (A.deeper (envOfC x (defScope st) s.heap.objs.size f cdv)) → A.guards = some [] → sp vs H Q E →
      ∃ t, PSs (cxOf CX0 P w K mg base N x (defScope st) f cdv A outer s H E).nox (defBody st) t ∧
        t { nx := fun _ H' => Q .non H', rt := Q } (start N vs) H) : Cal P w K mg base (k + 1) x ps sp := by
  obtain ⟨f, fd, F, b, m⟩ := D.ex
  exact ⟨f, fd, okG F S len (hbody f), b, m, F.kp⟩
theorem no_cal (D : Def K mg x st ps) : Cal P w K mg base k x ps (fun _ _ _ _ => False) := by
  obtain ⟨f, fd, F, b, m⟩ := D.ex
  exact ⟨f, fd, .of no_fn, b, m, F.kp⟩
end
section
variable {X : Cx} {k : Nat} {ps : List Str} {sp : Sp} {x : Str} {p pos : Pos} {e : Expr} {es : List Expr} {t : TA}
theorem pcall (C : Cal X.prog X.w X.K X.mg X.base k x ps sp) (hr : Room k X.A) (gd : X.A.guards = some []) (hg : Gl X x) (ha : PA X (e :: es) t)
    (hdb : (x == ("__debug__" : Str)) = false := by decide) (he : starEach (e :: es) X.env = (false, eval e X.env) :: starEach es X.env := by rfl)
    (hpl : (backTo pos (starEach es X.env)).any (·.1) = false := by rfl) : PE X (.Call (.Name x p) (e :: es) [] pos) (tCall sp [] E0 t) := by
  obtain ⟨f, fd, F, hb, hm, hk⟩ := C.ex
  exact pe_callG F hr gd hg hm hk hb .nil pass0 ha hdb he hpl
theorem pcall0 (C : Cal X.prog X.w X.K X.mg X.base k x ps sp) (hr : Room k X.A) (gd : X.A.guards = some []) (hg : Gl X x)
    (hdb : (x == ("__debug__" : Str)) = false := by decide) : PE X (.Call (.Name x p) [] [] pos) (tCall sp [] E0 tNil) := by
  obtain ⟨f, fd, F, hb, hm, hk⟩ := C.ex
  exact pe_callG0 F hr gd hg hm hk hb .nil pass0 hdb
end
theorem hu70 {A : Around} {k : Nat} (hr : Room k A) : A.units + 70 < cLine := by
  have := hr.un
  omega
/-- built-in names that the module leaves alone -/
def nbs : List Str := ["len", "abs", "int", "bool", "isinstance", "range", "max", "min", "sum", "repr", "divmod", "tuple", "sorted", "set", "enumerate", "zip", "list", "dict", "any", "all", "str", "reversed"]
def NB (mg : Str → Option Value) : Prop := ∀ x ∈ nbs, mg x = none
theorem NB.at {mg : Str → Option Value} (h : NB mg) {x : Str} (hx : nbs.contains x = true := by decide +kernel) : mg x = none := h x (List.contains_iff_mem.mp hx)
/-! ### is_whole, is_integer_within -/
def spWh (K : PySem.W.Frag) : Sp := fun vs H Q _ => ∃ (x : V) (d : PyData), vs = [x] ∧ Da K H x d ∧ Q (.bl (isD "int" d && !isD "bool" d)) H
def spIn (K : PySem.W.Frag) : Sp := fun vs H Q _ => ∃ (x : V) (d : PyData) (lo hi : Int), vs = [x, .int lo, .int hi] ∧ Da K H x d ∧ ∀ H', Same H H' → Q (.bl (intD lo hi d)) H'
/-! ### tuple * 0, tuple * 1 -/
theorem tuple_mul1 (l : Addr) (items : Array Value) (n : Nat) (dd : Option Addr) (sl : Array (Option Value)) (x : Int) (u : Tok) (c0 : (decide (x < -(2 ^ 63)) || decide (x ≥ 2 ^ 63)) = false) (c1 : (items.isEmpty || x == 1) = true) :
    Meets (Builtin.«tuple.__mul__» ⟨[.ref l, .int x u], []⟩) (fun _ R s => s.heap.get? l = some { cls := .type "tuple", dict := dd, data := .seq items n, slots := sl } ∧
      R (.ok (.ret (Value.ref l))) s) :=
  .of_wp fun prog w A R s h => by
    obtain ⟨hp, g, d, tk, os⟩ := s
    obtain ⟨hl, h⟩ := h
    have f1 := AutoSeq1.idx_int
    wp_walk using wpAny_loadPart' hl
    repeat (first
      | (refine wpAny_ite_false (decide_eq_false (by rw [c0]; exact Bool.false_ne_true)) ?_; wp_walk using wpAny_loadPart' hl)
      | (refine wpAny_ite_true (decide_eq_true c1) ?_; wp_walk using wpAny_loadPart' hl))
    exact ⟨_, rfl, h⟩
theorem tuple_mul0 (l : Addr) (items : Array Value) (n : Nat) (dd : Option Addr) (sl : Array (Option Value)) (x : Int) (u : Tok) (c0 : (decide (x < -(2 ^ 63)) || decide (x ≥ 2 ^ 63)) = false) (c1 : (items.isEmpty || x == 1) = false)
    (c2 : (decide (x ≤ 0) || items.isEmpty) = true) :
    Meets (Builtin.«tuple.__mul__» ⟨[.ref l, .int x u], []⟩) (fun _ R s => s.heap.get? l = some { cls := .type "tuple", dict := dd, data := .seq items n, slots := sl } ∧
      R (.ok (.ret (Value.ref s.heap.objs.size))) { s with heap := s.heap.push { cls := Value.type "tuple", data := Data.seq #[] }, toks := s.toks }) :=
  .of_wp fun prog w A R s h => by
    obtain ⟨hp, g, d, tk, os⟩ := s
    obtain ⟨hl, h⟩ := h
    have f1 := AutoSeq1.idx_int
    wp_walk using wpAny_loadPart' hl
    repeat (first
      | (refine wpAny_ite_false (decide_eq_false (by rw [c0]; exact Bool.false_ne_true)) ?_; wp_walk using wpAny_loadPart' hl)
      | (refine wpAny_ite_false (decide_eq_false (by rw [c1]; exact Bool.false_ne_true)) ?_; wp_walk using wpAny_loadPart' hl)
      | (refine wpAny_ite_true (decide_eq_true c2) ?_; wp_walk using wpAny_loadPart' hl))
    exact ⟨_, rfl, h⟩
def rRepT01 (K : PySem.W.Frag) : R2 := fun x y H Q => ∃ l xs k, x = .ref l ∧ y = .int k ∧ SqT K H l xs ∧ xs ≠ [] ∧ ((k = 1 ∧ Q (.ref l) H) ∨ (k = 0 ∧ ∀ p, H p = none → Q (.ref p) (upd H p (.tup []))))
theorem op_repT01 {X : Cx} : OpR X (binaryOp .Mult) (rRepT01 X.K) := by
  intro pins s σ H x y v u Q I rx ry h
  obtain ⟨l, xs, k, rfl, rfl, hT, hne, h⟩ := h
  cases rx
  obtain ⟨t, rfl⟩ := ry
  obtain ⟨its, r, ⟨⟨cls, dd, data, sl⟩, ho, hc, n, hd⟩, hs⟩ := I.tuple hT
  simp only at hc hd
  subst hc hd
  have hle : its.length = xs.length := r.length.symm
  have hi : its.toArray.isEmpty = false := by
    cases its with
    | nil => exact absurd (List.eq_nil_of_length_eq_zero hle.symm) hne
    | cons a b => rfl
  rcases h with ⟨rfl, q⟩ | ⟨rfl, q⟩
  · refine wpAny_binaryOp_repeat_ref (T := "tuple") (U := "int") (by decide) ⟨_, ho, rfl⟩ (fun s' => typeIs_int s' 1 t) noFill_tuple_mul F.fills_int_mul F.slot_int_rmul repeat_tuple F.slot_int_index.lookup
      (call_meets F.slot_int_rmul (typeIs_int s 1 t) F.entry_int_rmul (F.args_int_rmul_2 _ _) (int_rmul_tuple 1 t l its.toArray n dd sl)
        ⟨ho, rfl, ⟨_, ho, rfl⟩, call_meets F.slot_tuple_mul ⟨_, ho, rfl⟩ F.entry_tuple_mul (F.args_tuple_mul_2 _ _) (tuple_mul1 l its.toArray n dd sl 1 t (by decide) (by rw [hi]; rfl)) ⟨ho, ?_⟩⟩)
    exact ⟨.ref l, H, I, rfl, q⟩
  · refine wpAny_binaryOp_repeat_ref (T := "tuple") (U := "int") (by decide) ⟨_, ho, rfl⟩ (fun s' => typeIs_int s' 0 t) noFill_tuple_mul F.fills_int_mul F.slot_int_rmul repeat_tuple F.slot_int_index.lookup
      (call_meets F.slot_int_rmul (typeIs_int s 0 t) F.entry_int_rmul (F.args_int_rmul_2 _ _) (int_rmul_tuple 0 t l its.toArray n dd sl)
        ⟨ho, rfl, ⟨_, ho, rfl⟩, call_meets F.slot_tuple_mul ⟨_, ho, rfl⟩ F.entry_tuple_mul (F.args_tuple_mul_2 _ _) (tuple_mul0 l its.toArray n dd sl 0 t (by decide) (by rw [hi]; rfl) (by simp)) ⟨ho, ?_⟩⟩)
    refine ⟨.ref s.heap.objs.size, _, I.laid (t' := s.toks) (o := .tup []) (fun b ob q => Heap.get?_push_of_some _ q) (Nat.le_refl _) ?_, rfl, q _ (I.hok.fresh (Nat.le_refl _))⟩
    exact ⟨Nat.zero_le _, [], .nil, IsTup.new _ _⟩
/-! ### pots -/
/-- at p stands a pot out of which at most n draws came by reckoning -/
def PotA (p : Addr) (n : Nat) (H : Hp) : Prop := ∃ xs, H p = some (.lst xs) ∧ PotL n xs
theorem PotA.up {p : Addr} {n m : Nat} {H : Hp} (h : PotA p n H) (k : n ≤ m) : PotA p m H := by
  obtain ⟨xs, e, q⟩ := h
  exact ⟨xs, e, q.up k⟩
theorem PotA.same {p : Addr} {n : Nat} {H H' : Hp} (h : PotA p n H) (s : Same H H') : PotA p n H' := by
  obtain ⟨xs, e, q⟩ := h
  exact ⟨xs, s _ _ e, q⟩
theorem PotA.new {p q : Addr} {n : Nat} {H : Hp} {o : HO} (h : PotA p n H) (nq : H q = none) : PotA p n (upd H q o) := h.same (same_put nq)
theorem PotA.ne {p q : Addr} {n : Nat} {H : Hp} (h : PotA p n H) (nq : H q = none) : p ≠ q := by
  obtain ⟨xs, e, _⟩ := h
  exact ne_of_none e nq
theorem PotA.put {p l : Addr} {n : Nat} {H : Hp} {o : HO} (h : PotA p n H) (ne : p ≠ l) : PotA p n (upd H l o) := by
  obtain ⟨xs, e, q⟩ := h
  exact ⟨xs, by rw [upd_ne ne]; exact e, q⟩
theorem PotA.kt {p : Addr} {n : Nat} {H H' : Hp} (h : PotA p n H) (b : Bu p H H') : Kt H H' := by
  obtain ⟨xs, e, _⟩ := h
  exact b.kt e
/-- tuples stay, while a pot is drawn from -/
theorem Da.bu {K : PySem.W.Frag} {p : Addr} {n : Nat} {H H' : Hp} {u : V} {d : PyData} (hd : Da K H u d) (ht : tupD d = true) (h : PotA p n H) (b : Bu p H H') : Da K H' u d := hd.kt (h.kt b) ht
theorem Bu.same {p : Addr} {H H1 H2 : Hp} (b : Bu p H H1) (s : Same H1 H2) : Bu p H H2 := b.trans (.of s)
def spDraw : Sp := fun vs H Q _ => ∃ (p : Addr) (m : Int) (n : Nat), vs = [.ref p, .int m] ∧ PotA p n H ∧ n < 10000000 ∧ 0 < m ∧ m.natAbs.log2 < 9000 ∧ ∀ H' d, Bu p H H' → PotA p (n + 1) H' → 0 ≤ d → d < m → Q (.int d) H'
def spPick (K : PySem.W.Frag) : Sp := fun vs H Q _ => ∃ (p q : Addr) (zs : List V) (n : Nat), vs = [.ref p, .ref q] ∧ PotA p n H ∧ n < 10000000 ∧ p ≠ q ∧ SqL K H q zs ∧ zs ≠ [] ∧ zs.length ≤ 1000000 ∧
  ∀ H' v, Bu p H H' → PotA p (n + 1) H' → v ∈ zs → Q v H'
def spPotS (K : PySem.W.Frag) : Sp := fun vs H Q _ => ∃ (a : Addr) (ns : List Int) (k : Int), vs = [.ref a, .int k] ∧ SqL K H a (ns.map V.int) ∧ 0 ≤ k ∧ k ≤ 1000 ∧ ∀ H' p, H p = none → Same H H' → PotA p 0 H' → Q (.ref p) H'
theorem log_i {m : Int} {k : Nat} (h1 : 0 ≤ m) (h2 : m < (2 ^ k : Nat)) (h0 : 0 < k) (hk : k ≤ 9000) : m.natAbs.log2 < 9000 :=
  Nat.lt_of_lt_of_le (PySem.Flt.log2_lt_of h0 (show m.natAbs < 2 ^ k by omega)) hk
/-! ### tuples joined; comprehensions whose elements are plain values -/
section
variable {K : PySem.W.Frag} {H0 : Hp} {σ : L2.St} {te ti : TE}
theorem cat_val {H : Hp} {x y : V} {ds es : List PyData} {Q : VK} (hx : Da K H x (.tuple ds)) (hy : Da K H y (.tuple es)) (hl : ds.length + es.length ≤ sizeLine)
    (q : ∀ H' u, Same H H' → Da K H' u (.tuple (ds ++ es)) → Q u H') : rCatA K x y H Q := by
  cases hx with
  | @tup a xs _ hs ha =>
  cases hy with
  | @tup b ys _ ht hb =>
  have l1 := daAll_len ha
  have l2 := daAll_len hb
  refine ⟨a, b, xs, ys, rfl, rfl, hs, ht, by omega, fun e => ?_, fun _ e => ?_, fun _ _ p np => ?_⟩
  · subst e
    cases ha
    exact q H _ Same.rfl' (.tup ht hb)
  · subst e
    cases hb
    refine q H _ Same.rfl' ?_
    rw [List.append_nil]
    exact .tup hs ha
  · exact q _ _ (same_put np) (.tup (xs := xs ++ ys) (.inl (.inl upd_same)) ((da_app ha hb).mono (same_put np)))
theorem g_lcT1 {ds : List PyData} {ys : List V} {g : TG} {vs : List Nat} (hi : ∀ (H : Hp) (Q : VK), Same H0 H → (∀ H' l us, Same H H' → SqT K H' l us → DaAll K H' us ds → Q (.ref l) H') → ti σ H Q) (hz : ds.length ≤ 1000000) (hl : ys.length = ds.length)
    (he : ∀ (j : Nat) (x y : V) (d : PyData), ds[j]? = some d → ys[j]? = some y → ∀ (H : Hp) (R : VK), Same H0 H → Da K H x d → (∀ H', Same H H' → R y H') → g x (wipe σ vs) H fun σ2 H2 => wipe σ2 vs = wipe σ vs ∧ te σ2 H2 R) :
    Gives H0 (tLc (iTup K ti) g tYes te vs) (gLst (ys.map gEq)) σ := fun H Q s q => by
  refine hi H _ s fun H1 l us s1 hl1 ha => ⟨l, rfl, ⟨us, hl1⟩, fun D nD => ?_⟩
  have sl := sizeLine_eq
  have hlen := daAll_len ha
  refine lc_tup (K := K) (a := l) (xs := us) (fun k H' => Same H1 H' ∧ H' D = some (.lst (ys.take k))) ⟨same_put nD, upd_same⟩ (fun k H' _ ⟨s', _⟩ => seqT_mono s' hl1) ?_ ?_
  · rintro k x H' hk ⟨s', eD⟩
    obtain ⟨d, hd, hx⟩ := daAll_at ha hk
    have hkl : k < ds.length := (List.getElem?_eq_some_iff.mp hd).1
    have hk' : k < ys.length := by omega
    have hy := List.getElem?_eq_getElem hk'
    refine cast ?_ (he k x ys[k] d hd hy H' (fun y' H4 => ∃ acc, H4 D = some (.lst acc) ∧ acc.length < sizeLine ∧ Same H1 (upd H4 D (.lst (acc ++ [y']))) ∧ upd H4 D (.lst (acc ++ [y'])) D = some (.lst (ys.take (k + 1))))
      (s.trans (s1.trans s')) (hx.mono s') (fun H4 s4 => ⟨_, s4 _ _ eD, ?_, ?_, ?_⟩))
    · rfl
    · rw [List.length_take]
      omega
    · intro b o e
      rw [upd_ne (ne_of_none e nD)]
      exact s4 _ _ (s' _ _ e)
    · rw [upd_same, List.take_add_one, hy]
      rfl
  · rintro H' ⟨s', eD⟩
    rw [hlen, ← hl, List.take_length] at eD
    exact q H' _ (s1.trans s') ⟨D, _, rfl, eD, allEq⟩
theorem g_lcL1 {ds : List PyData} {ys : List V} {g : TG} {vs : List Nat} (hi : ∀ (H : Hp) (Q : VK), Same H0 H → (∀ H' l us, Same H H' → SqL K H' l us → DaAll K H' us ds → Q (.ref l) H') → ti σ H Q) (hz : ds.length ≤ 1000000) (hl : ys.length = ds.length)
    (he : ∀ (j : Nat) (x y : V) (d : PyData), ds[j]? = some d → ys[j]? = some y → ∀ (H : Hp) (R : VK), Same H0 H → Da K H x d → (∀ H', Same H H' → R y H') → g x (wipe σ vs) H fun σ2 H2 => wipe σ2 vs = wipe σ vs ∧ te σ2 H2 R) :
    Gives H0 (tLc (iList K ti) g tYes te vs) (gLst (ys.map gEq)) σ := fun H Q s q => by
  refine hi H _ s fun H1 l us s1 hl1 ha => ⟨l, rfl, ⟨us, hl1⟩, fun D nD => ?_⟩
  have sl := sizeLine_eq
  have hlen := daAll_len ha
  refine lc_list (K := K) (a := l) (xs := us) (fun k H' => Same H1 H' ∧ H' D = some (.lst (ys.take k))) ⟨same_put nD, upd_same⟩ (fun k H' _ ⟨s', _⟩ => s'.seq hl1) ?_ ?_
  · rintro k x H' hk ⟨s', eD⟩
    obtain ⟨d, hd, hx⟩ := daAll_at ha hk
    have hkl : k < ds.length := (List.getElem?_eq_some_iff.mp hd).1
    have hk' : k < ys.length := by omega
    have hy := List.getElem?_eq_getElem hk'
    refine cast ?_ (he k x ys[k] d hd hy H' (fun y' H4 => ∃ acc, H4 D = some (.lst acc) ∧ acc.length < sizeLine ∧ Same H1 (upd H4 D (.lst (acc ++ [y']))) ∧ upd H4 D (.lst (acc ++ [y'])) D = some (.lst (ys.take (k + 1))))
      (s.trans (s1.trans s')) (hx.mono s') (fun H4 s4 => ⟨_, s4 _ _ eD, ?_, ?_, ?_⟩))
    · rfl
    · rw [List.length_take]
      omega
    · intro b o e
      rw [upd_ne (ne_of_none e nD)]
      exact s4 _ _ (s' _ _ e)
    · rw [upd_same, List.take_add_one, hy]
      rfl
  · rintro H' ⟨s', eD⟩
    rw [hlen, ← hl, List.take_length] at eD
    exact q H' _ (s1.trans s') ⟨D, _, rfl, eD, allEq⟩
theorem hi_tup {i : Nat} {x : V} {ds : List PyData} (hv : σ[i]? = some (some x)) (hd : Da K H0 x (.tuple ds)) :
    ∀ (H : Hp) (Q : VK), Same H0 H → (∀ H' l us, Same H H' → SqT K H' l us → DaAll K H' us ds → Q (.ref l) H') → tVar i σ H Q := fun H Q s q => by
  have z := hd.mono s
  cases z with
  | @tup a xs _ hs ha => exact ⟨_, hv, q H a xs Same.rfl' hs ha⟩
theorem hi_lst {i : Nat} {x : V} {ds : List PyData} (hv : σ[i]? = some (some x)) (hd : Da K H0 x (.list ds)) :
    ∀ (H : Hp) (Q : VK), Same H0 H → (∀ H' l us, Same H H' → SqL K H' l us → DaAll K H' us ds → Q (.ref l) H') → tVar i σ H Q := fun H Q s q => by
  have z := hd.mono s
  cases z with
  | @lst a xs _ hs ha => exact ⟨_, hv, q H a xs Same.rfl' hs ha⟩
end
end Ev

/-! ## The row -/
namespace Ev
open PySem
def topS (i : Nat) : Stmt := PySem.Challenge.pw_evensamples_k48_programs_padded.main.body.getD i (.Pass ⟨0, 0, 0, 0⟩)
end Ev

/-! ## What the script is drawn from -/
namespace Ev
open PySem PySem.Spec PyProof.Rows L2
theorem scSt : FnScope ["_law_script", "_law_k", "_law_cell", "_law_own"] ["_law_script", "_law_k"] (defScope (topS 3)) := ⟨rfl, rfl, rfl, by decide +kernel, rfl, by decide +kernel, by decide +kernel⟩
theorem scDr : FnScope ["_law_stream_here", "_law_many", "_law_digit", "_law_prime", "_law_mixed"] ["_law_stream_here", "_law_many"] (defScope (topS 4)) := ⟨rfl, rfl, rfl, by decide +kernel, rfl, by decide +kernel, by decide +kernel⟩
theorem scPk : FnScope ["_law_stream_here", "_law_some"] ["_law_stream_here", "_law_some"] (defScope (topS 5)) := ⟨rfl, rfl, rfl, by decide +kernel, rfl, by decide +kernel, by decide +kernel⟩
theorem scLn : FnScope ["_law_stream_here", "_law_most", "_law_name"] ["_law_stream_here", "_law_most"] (defScope (topS 6)) := ⟨rfl, rfl, rfl, by decide +kernel, rfl, by decide +kernel, by decide +kernel⟩
theorem bigS : (0 : Int) < (10 ^ (60 : Int).toNat) ^ (5 : Int).toNat := by decide +kernel
section
variable {P : Program} {w : World} {K : PySem.W.Frag} {mg : Str → Option Value} {base : Heap}
theorem ok_stream (D : Def K mg "_law_stream" (topS 3) ["_law_script", "_law_k"]) (nb : NB mg) : Cal P w K mg base 1 "_law_stream" ["_law_script", "_law_k"] (spPotS K) := by
  refine D.ok scSt (fun vs H Q E h => ?_) (fun f cdv A outer s H vs Q E hr gd h => ?_)
  · obtain ⟨a, ns, k, rfl, _⟩ := h
    rfl
  · obtain ⟨a, ns, k, rfl, hS, k0, k1, q⟩ := h
    refine ⟨_, (pss_cons (ps_set (i := 2) scSt.nd rfl (.inl rfl) (pe_ifExp (pt_cmpR op_lt (pv 1) (pe_callB call_len_seq (by rfl) nb.at PySem.boot_len (pa_cons (pv 0) pa_nil)) (nomark _)) (pe_ix ix_list (pv 0) (pv 1) (fun _ _ => rfl)) (pe_op op_add (pe_op op_mul pe_int (pv 1)) pe_int)))
      (pss_cons (ps_set (i := 3) scSt.nd rfl (.inl rfl) (pe_op op_mul (pe_op op_mod (pe_callB call_abs (by rfl) nb.at (by decide +kernel) (pa_cons (pv 2) pa_nil)) (pe_op op_powG (pe_op op_pow pe_int pe_int) pe_int)) (pe_callTy call_int1 (by rfl) nb.at (by decide +kernel) (pa_cons (pe_cmpR op_ge (pe_callB call_abs (by rfl) nb.at (by decide +kernel) (pa_cons (pv 2) pa_nil)) (pe_op op_pow pe_int pe_int) (nomark _)) pa_nil))))
      (pss_one (ps_ret (pe_lst (pa_cons (pv 3) (pa_cons (pe_op op_mod (pe_op op_add (pe_op op_add (pe_op op_mul (pe_op op_mod (pv 2) pe_int) pe_int) (pe_op op_mul (pe_op op_mul pe_int (pv 1)) (pv 1))) pe_int) pe_int) (pa_cons pe_int pa_nil)))))))), ?_⟩
    refine ⟨_, rfl, _, rfl, a, _, rfl, .inl hS, k, _, rfl, rfl, _, rfl, ite2 (fun e => ?a) (fun e => ?b)⟩
    case' a =>
      have hk : k < ((ns.map V.int).length : Int) := of_decide_eq_true e
      rw [List.length_map] at hk
      have hk' : k.toNat < ns.length := by omega
      have g : atI (ns.map V.int) k = some (.int ns[k.toNat]) := by
        have z : (ns.map V.int)[k.toNat]? = some (.int ns[k.toNat]) := by
          rw [List.getElem?_map, List.getElem?_eq_getElem hk']
          rfl
        have y := atI_nat z
        rw [Int.toNat_of_nonneg k0] at y
        exact y
      refine ⟨_, rfl, _, rfl, a, _, k, _, rfl, rfl, hS, g, ?_⟩
    case' b =>
      refine ⟨_, rfl, 13, k, rfl, rfl, .inl ⟨by decide, by decide⟩, _, _, rfl, rfl, ?_⟩
    all_goals
      refine ⟨_, rfl, _, rfl, 10, 60, rfl, rfl, ⟨by decide, by decide, by decide⟩, _, 5, rfl, rfl, ⟨by decide, by decide +kernel⟩, _, _, rfl, rfl, bigS, ?_⟩
      refine ⟨_, rfl, _, rfl, 10, 18, rfl, rfl, ⟨by decide, by decide, by decide⟩, _, _, rfl, rfl, .inr ⟨_, rfl, _, _, rfl, rfl, .inr (flag_in _), ?_⟩⟩
      refine ⟨_, rfl, _, rfl, _, _, rfl, rfl, (show (0 : Int) < 2305843009213693951 by decide), _, _, rfl, rfl, .inr ⟨by decide, by decide⟩, _, rfl, _, _, rfl, rfl, .inl ⟨by decide, by decide⟩, _, rfl, _, _, rfl, rfl, .inr ⟨by omega, by omega⟩, ?_⟩
      refine ⟨_, _, rfl, rfl, _, _, rfl, rfl, _, _, rfl, rfl, (show (0 : Int) < 2305843009213693921 by decide), (by show 3 ≤ sizeLine; decide), fun p np => q _ p np (same_put np) ⟨_, upd_same, ?_⟩⟩
      exact ⟨_, _, 0, rfl, own_nn _ _ _ bigS, Int.emod_nonneg _ (by decide), Int.emod_lt_of_pos _ (by decide), Int.le_refl 0, by decide⟩
theorem ok_draw (D : Def K mg "_law_draw" (topS 4) ["_law_stream_here", "_law_many"]) (nb : NB mg) : Cal P w K mg base 1 "_law_draw" ["_law_stream_here", "_law_many"] spDraw := by
  refine D.ok scDr (fun vs H Q E h => ?_) (fun f cdv A outer s H vs Q E hr gd h => ?_)
  · obtain ⟨p, m, n, rfl, _⟩ := h
    rfl
  · obtain ⟨p, m, n, rfl, ⟨xs, hp, x, y, c, rfl, x0, y0, y1, c0, c1⟩, hn, m0, m1, q⟩ := h
    have hL : SqL K H p [.int x, .int y, .int c] := .inl (.inl hp)
    refine ⟨_, (pss_cons (ps_if (pt_cmpR op_gt (pe_ix ix_list (pv 0) pe_int (fun _ _ => rfl)) pe_int (nomark _))
        (pss_cons (ps_set (i := 2) scDr.nd rfl (.inl rfl) (pe_op op_mod (pe_ix ix_list (pv 0) pe_int (fun _ _ => rfl)) (pv 1)))
        (pss_cons (ps_asg (pe_op op_fdivW (pe_ix ix_list (pv 0) pe_int (fun _ _ => rfl)) (pv 1)) (pg_sub (pv 0) pe_int set_list))
        (pss_one (ps_ret (pv 2)))))
        pss_nil)
      (pss_cons (ps_asg (pe_op op_add (pe_ix ix_list (pv 0) pe_int (fun _ _ => rfl)) pe_int) (pg_sub (pv 0) pe_int set_list))
      (pss_cons (ps_set (i := 3) scDr.nd rfl (.inl rfl) (pe_ix ix_list (pe_lst (pa_cons pe_int (pa_cons pe_int (pa_cons pe_int (pa_cons pe_int (pa_cons pe_int pa_nil)))))) (pe_op op_mod (pe_ix ix_list (pv 0) pe_int (fun _ _ => rfl)) pe_int) (fun _ _ => rfl)))
      (pss_cons (ps_set (i := 4) scDr.nd rfl (.inl rfl) (pe_op op_mod (pe_op op_pow (pe_op op_add (pe_op op_add (pe_ix ix_list (pv 0) pe_int (fun _ _ => rfl)) (pe_op op_mul (pe_op op_mul pe_int (pe_ix ix_list (pv 0) pe_int (fun _ _ => rfl))) (pe_ix ix_list (pv 0) pe_int (fun _ _ => rfl)))) pe_int) pe_int) (pv 3)))
      (pss_one (ps_ret (pe_op op_mod (pe_op op_fdivW (pe_op op_mod (pe_op op_mul (pv 4) (pe_op op_add (pe_op op_mod (pv 4) pe_int) (pe_op op_mul pe_int (pe_ix ix_list (pv 0) pe_int (fun _ _ => rfl))))) pe_int) pe_int) (pv 1)))))))), ?_⟩
    refine ⟨_, rfl, p, _, 0, .int x, rfl, rfl, hL, rfl, _, _, rfl, rfl, _, rfl, ite2 (fun e => ?_) (fun e => ?_)⟩
    · have hx : 0 < x := of_decide_eq_true e
      refine ⟨_, rfl, p, _, 0, .int x, rfl, rfl, hL, rfl, _, rfl, _, _, rfl, rfl, m0, ?_⟩
      refine ⟨_, rfl, p, _, 0, .int x, rfl, rfl, hL, rfl, _, rfl, _, _, rfl, rfl, ⟨m0, m1⟩, _, rfl, p, _, 0, 0, rfl, rfl, hp, rfl, _, rfl, ?_⟩
      exact q _ _ Bu.put ⟨_, upd_same, _, _, _, rfl, Int.ediv_nonneg x0 (Int.le_of_lt m0), y0, y1, c0, by omega⟩ (Int.emod_nonneg _ (by omega)) (Int.emod_lt_of_pos _ m0)
    · refine ⟨_, rfl, p, _, 2, .int c, rfl, rfl, hL, rfl, _, _, rfl, rfl, _, rfl, p, _, 2, 2, rfl, rfl, hp, rfl, ?_⟩
      have c0' : 0 ≤ c + 1 := by omega
      have c1' : c + 1 ≤ 10000001 := by omega
      refine ⟨(by show 5 ≤ sizeLine; decide), fun t nt => ?_⟩
      have npt : p ≠ t := fun z => by
        rw [← z, upd_same] at nt
        cases nt
      let H2 : Hp := upd (upd H p (.lst [.int x, .int y, .int (c + 1)])) t (.lst [.int 2147483647, .int 2147483629, .int 2147483587, .int 2147483579, .int 2147483563])
      have h2 : H2 p = some (.lst [.int x, .int y, .int (c + 1)]) := by
        show upd _ t _ p = _
        rw [upd_ne npt, upd_same]
      have hL2 : SqL K H2 p [.int x, .int y, .int (c + 1)] := .inl (.inl h2)
      have hb : Bu p H H2 := Bu.trans Bu.put (Bu.new nt)
      have hT : SqL K H2 t [.int 2147483647, .int 2147483629, .int 2147483587, .int 2147483579, .int 2147483563] := .inl (.inl upd_same)
      obtain ⟨pr, hpr, p1, p2⟩ : ∃ pr : Int, atI [V.int 2147483647, .int 2147483629, .int 2147483587, .int 2147483579, .int 2147483563] ((c + 1) % 5) = some (.int pr) ∧ 0 < pr ∧ pr < 2147483648 := by
        have r0 : 0 ≤ (c + 1) % 5 := Int.emod_nonneg _ (by decide)
        have r1 : (c + 1) % 5 < 5 := Int.emod_lt_of_pos _ (by decide)
        generalize (c + 1) % 5 = r at r0 r1
        have : r = 0 ∨ r = 1 ∨ r = 2 ∨ r = 3 ∨ r = 4 := by omega
        rcases this with rfl | rfl | rfl | rfl | rfl <;> exact ⟨_, rfl, by decide, by decide⟩
      refine ⟨_, rfl, p, _, 2, .int (c + 1), rfl, rfl, hL2, rfl, _, _, rfl, rfl, (show (0 : Int) < 5 by decide), t, _, _, _, rfl, rfl, hT, hpr, ?_⟩
      have m3 : 0 ≤ 65537 * (c + 1) := by omega
      have m4 : 65537 * (c + 1) * (c + 1) ≤ 65537 * 10000001 * 10000001 := Int.mul_le_mul (Int.mul_le_mul_of_nonneg_left c1' (by decide)) c1' c0' (by decide)
      have m5 : 0 ≤ 65537 * (c + 1) * (c + 1) := Int.mul_nonneg m3 c0'
      refine ⟨_, rfl, p, _, 1, .int y, rfl, rfl, hL2, rfl, _, rfl, p, _, 2, .int (c + 1), rfl, rfl, hL2, rfl, _, _, rfl, rfl, .inl ⟨by decide, by decide⟩, _, rfl, p, _, 2, .int (c + 1), rfl, rfl, hL2, rfl, _, _, rfl, rfl, .inr ⟨by omega, by omega⟩, ?_⟩
      have pb : CPow (y + 65537 * (c + 1) * (c + 1) + 37) 3 := ⟨by decide, by decide, by omega⟩
      refine ⟨_, _, rfl, rfl, _, _, rfl, rfl, _, _, rfl, rfl, pb, _, rfl, _, _, rfl, rfl, p1, ?_⟩
      have u0 : 0 ≤ (y + 65537 * (c + 1) * (c + 1) + 37) ^ (3 : Int).toNat % pr := Int.emod_nonneg _ (by omega)
      have u1 : (y + 65537 * (c + 1) * (c + 1) + 37) ^ (3 : Int).toNat % pr < pr := Int.emod_lt_of_pos _ p1
      have fin := fun d => q H2 d hb ⟨_, h2, x, y, c + 1, rfl, x0, y0, y1, c0', by omega⟩
      show gName 4 (V.int ((y + 65537 * (c + 1) * (c + 1) + 37) ^ (3 : Int).toNat % pr)) _ _ _
      generalize (y + 65537 * (c + 1) * (c + 1) + 37) ^ (3 : Int).toNat % pr = u at u0 u1 ⊢
      have v0 : 0 ≤ u % 10007 := Int.emod_nonneg _ (by decide)
      have v1 : u % 10007 < 10007 := Int.emod_lt_of_pos _ (by decide)
      refine ⟨_, rfl, _, rfl, _, _, rfl, rfl, (show (0 : Int) < 10007 by decide), _, rfl, p, _, 2, .int (c + 1), rfl, rfl, hL2, rfl, _, _, rfl, rfl, .inl ⟨by decide, by decide⟩, _, _, rfl, rfl, ?_⟩
      refine ⟨_, _, rfl, rfl, .inl ⟨by omega, by omega⟩, _, _, rfl, rfl, (show (0 : Int) < 2305843009213693907 by decide), _, _, rfl, rfl, ⟨by decide, by decide +kernel⟩, _, rfl, _, _, rfl, rfl, m0, ?_⟩
      exact fin _ (Int.emod_nonneg _ (by omega)) (Int.emod_lt_of_pos _ m0)
theorem ok_pick (D : Def K mg "_law_pick" (topS 5) ["_law_stream_here", "_law_some"]) (C__law_draw : Cal P w K mg base 1 "_law_draw" ["_law_stream_here", "_law_many"] spDraw) (nb : NB mg) :
    Cal P w K mg base 2 "_law_pick" ["_law_stream_here", "_law_some"] (spPick K) := by
  refine D.ok scPk (fun vs H Q E h => ?_) (fun f cdv A outer s H vs Q E hr gd h => ?_)
  · obtain ⟨p, r, zs, n, rfl, _⟩ := h
    rfl
  · obtain ⟨p, r, zs, n, rfl, hp, hn, ne, hS, z0, z1, q⟩ := h
    refine ⟨_, (pss_one (ps_ret (pe_ix ix_list (pv 1) (pcall C__law_draw (hr.mono (by omega)) gd (by rfl) (pa_cons (pv 0) (pa_cons (pe_callB call_len_seq (by rfl) nb.at PySem.boot_len (pa_cons (pv 1) pa_nil)) pa_nil))) (fun _ _ => rfl)))), ?_⟩
    have hz : 0 < zs.length := by
      cases zs with
      | nil => exact absurd rfl z0
      | cons _ _ => exact Nat.succ_pos _
    refine ⟨_, rfl, _, rfl, _, rfl, r, zs, rfl, .inl hS, p, _, n, rfl, hp, hn, by omega, log_i (k := 20) (by omega) (by omega) (by decide) (by decide), fun H' d hb hy d0 d1 => ?_⟩
    have hd : d.toNat < zs.length := by omega
    have g : atI zs d = some zs[d.toNat] := by
      have y := atI_nat (List.getElem?_eq_getElem hd)
      rw [Int.toNat_of_nonneg d0] at y
      exact y
    exact ⟨r, zs, d, _, rfl, rfl, bu_seq ne.symm hb hS, g, q H' _ hb hy (List.getElem_mem hd)⟩
end
def pool9 : List Str := ["a", "b", "c", "b", "a", "idle", "line", "loop", "zzzzzzzz"]
def spLine (K : PySem.W.Frag) : Sp := fun vs H Q _ => ∃ (p : Addr) (T : Int) (n : Nat), vs = [.ref p, .int T] ∧ PotA p n H ∧ n + 2 ≤ 10000000 ∧ 1 ≤ T ∧ T < (2 ^ 900 : Nat) ∧
  ∀ H' u x t, Bu p H H' → PotA p (n + 2) H' → Da K H' u (It.d (.line x t)) → x ∈ pool9 → 1 ≤ t → t ≤ T → Q u H'
/-- an item as drawn -/
def Wb (T R : Int) : Nat → It → Prop
  | _, .line x t => x ∈ pool9 ∧ 1 ≤ t ∧ t ≤ T
  | 0, .loop _ _ => False
  | n + 1, .loop r is => 1 ≤ r ∧ r ≤ R ∧ 1 ≤ is.length ∧ is.length ≤ 11 ∧ ∀ i ∈ is, Wb T R n i
theorem wb_line {T R : Int} {n : Nat} {x : Str} {t : Int} : Wb T R n (.line x t) ↔ x ∈ pool9 ∧ 1 ≤ t ∧ t ≤ T := by
  cases n <;> exact Iff.rfl
/-- how often items draw, at most -/
def budB : Nat → Nat → Nat
  | 0, many => 1 + many * 3
  | n + 1, many => 1 + many * (3 + budB n 11)
def inB : Nat → Nat
  | 0 => 0
  | d + 1 => budB d 11
theorem budB_eq (dep many : Nat) : budB dep many = 1 + many * (3 + inB dep) := by
  cases dep <;> rfl
theorem budB_le {dep m n : Nat} (h : m ≤ n) : budB dep m ≤ budB dep n := by
  rw [budB_eq, budB_eq]
  have := Nat.mul_le_mul_right (3 + inB dep) h
  omega
def spItemsB (K : PySem.W.Frag) (dep : Nat) : Sp := fun vs H Q _ => ∃ (p : Addr) (many n : Nat) (T R : Int), vs = [.ref p, .int (many : Nat), .int (dep : Nat), .int T, .int R] ∧ PotA p n H ∧ 1 ≤ many ∧ many ≤ 20 ∧
  1 ≤ T ∧ T < (2 ^ 900 : Nat) ∧ 1 ≤ R ∧ R < (2 ^ 900 : Nat) ∧ n + budB dep many ≤ 10000000 ∧
  ∀ H' u (is : List It), Bu p H H' → PotA p (n + budB dep many) H' → Da K H' u (.tuple (is.map It.d)) → 1 ≤ is.length → is.length ≤ many → (∀ i ∈ is, Wb T R dep i) → Q u H'
/-- at most m deep -/
def spItemsM (K : PySem.W.Frag) (m : Nat) : Sp := fun vs H Q E => ∃ dep, dep ≤ m ∧ spItemsB K dep vs H Q E
theorem scIs : FnScope ["_law_stream_here", "_law_many", "_law_deep", "_law_ticks", "_law_rounds", "_law_found", "_law_turn", "_law_inner"] ["_law_stream_here", "_law_many", "_law_deep", "_law_ticks", "_law_rounds"] (defScope (topS 7)) := ⟨rfl, rfl, rfl, by decide +kernel, rfl, by decide +kernel, by decide +kernel⟩
section
variable {P : Program} {w : World} {K : PySem.W.Frag} {mg : Str → Option Value} {base : Heap}
theorem ok_line (D : Def K mg "_law_line" (topS 6) ["_law_stream_here", "_law_most"]) (C__law_draw : Cal P w K mg base 1 "_law_draw" ["_law_stream_here", "_law_many"] spDraw)
    (C__law_pick : Cal P w K mg base 2 "_law_pick" ["_law_stream_here", "_law_some"] (spPick K)) (nb : NB mg) : Cal P w K mg base 3 "_law_line" ["_law_stream_here", "_law_most"] (spLine K) := by
  refine D.ok scLn (fun vs H Q E h => ?_) (fun f cdv A outer s H vs Q E hr gd h => ?_)
  · obtain ⟨p, T, n, rfl, _⟩ := h
    rfl
  · obtain ⟨p, T, n, rfl, hp, hn, t0, t1, q⟩ := h
    refine ⟨_, (pss_cons (ps_set (i := 2) scLn.nd rfl (.inl rfl) (pcall C__law_pick (hr.mono (by omega)) gd (by rfl) (pa_cons (pv 0) (pa_cons (pe_lst (pa_cons pe_str (pa_cons pe_str (pa_cons pe_str (pa_cons pe_str (pa_cons pe_str (pa_cons pe_str (pa_cons pe_str (pa_cons pe_str (pa_cons pe_str pa_nil)))))))))) pa_nil))))
      (pss_one (ps_ret (pe_tup (pa_cons pe_str (pa_cons (pv 2) (pa_cons (pe_op op_add pe_int (pcall C__law_draw (hr.mono (by omega)) gd (by rfl) (pa_cons (pv 0) (pa_cons (pv 1) pa_nil)))) pa_nil))))))), ?_⟩
    refine ⟨_, rfl, (by show 9 ≤ sizeLine; decide), fun l nl => ⟨p, l, pool9.map V.str, n, rfl, hp.new nl, by omega, hp.ne nl, .inl (.inl upd_same), by decide, by decide, fun H2 v hb2 hp2 hv => ?_⟩⟩
    obtain ⟨x, hx, rfl⟩ := List.mem_map.mp hv
    refine ⟨_, rfl, _, rfl, _, rfl, p, T, n + 1, rfl, hp2, by omega, by omega, log_i (k := 900) (by omega) t1 (by decide) (by decide), fun H3 d hb3 hp3 d0 d1 => ⟨_, _, rfl, rfl, (by show 3 ≤ sizeLine; decide), fun t nt => ?_⟩⟩
    refine q _ _ x (1 + d) (((Bu.new nl).trans hb2).trans (hb3.trans (Bu.new nt))) (hp3.new nt) ?_ hx (by omega) (by omega)
    rw [It.d]
    exact .tup (xs := [.str "line", .str x, .int (1 + d)]) (.inl (.inl upd_same)) (.cons (.str _) (.cons (.str _) (.cons (.int _) .nil)))
theorem itemsB_step {k m : Nat} {spR : Sp} (D : Def K mg "_law_items" (topS 7) ["_law_stream_here", "_law_many", "_law_deep", "_law_ticks", "_law_rounds"]) (C__law_draw : Cal P w K mg base 1 "_law_draw" ["_law_stream_here", "_law_many"] spDraw)
    (C__law_line : Cal P w K mg base 3 "_law_line" ["_law_stream_here", "_law_most"] (spLine K)) (C__law_items : Cal P w K mg base k "_law_items" ["_law_stream_here", "_law_many", "_law_deep", "_law_ticks", "_law_rounds"] spR) (nb : NB mg) (hk : 3 ≤ k)
    (hR : ∀ d vs H Q E, d < m → spItemsB K d vs H Q E → spR vs H Q E) : Cal P w K mg base (k + 1) "_law_items" ["_law_stream_here", "_law_many", "_law_deep", "_law_ticks", "_law_rounds"] (spItemsM K m) := by
  refine D.ok scIs (fun vs H Q E h => ?_) (fun f cdv A outer s H vs Q E hr gd h => ?_)
  · obtain ⟨dep, _, p, many, n, T, R, rfl, _⟩ := h
    rfl
  · obtain ⟨dep, hdm, p, many, n, T, R, rfl, hp, m1, m2, t0, t1, r0, r1, hb, q⟩ := h
    refine ⟨_, (pss_cons (ps_set (i := 5) scIs.nd rfl (.inl rfl) (pe_lst pa_nil))
      (pss_cons (ps_for PassesOwn.never rfl (pi_range1 rfl nb.at (pa_cons (pe_op op_add pe_int (pcall C__law_draw (hr.mono (by omega)) gd (by rfl) (pa_cons (pv 0) (pa_cons (pv 1) pa_nil)))) pa_nil)) (pg_name (i := 6) scIs.nd rfl (Or.inl rfl))
        (pss_one (ps_if (PW.pt (pw_and (pt_cmpR op_gt (pv 2) pe_int (nomark _)) (pw_and1 (pt_cmpR op_eq (pcall C__law_draw (hr.mono (by omega)) gd (by rfl) (pa_cons (pv 0) (pa_cons pe_int pa_nil))) pe_int (nomark _)))))
          (pss_cons (ps_set (i := 7) scIs.nd rfl (.inl rfl) (pcall C__law_items (hr.mono (by omega)) gd (by rfl) (pa_cons (pv 0) (pa_cons (pe_op op_add pe_int (pe_op op_fdivW (pv 1) pe_int)) (pa_cons (pe_op op_sub (pv 2) pe_int) (pa_cons (pv 3) (pa_cons (pv 4) pa_nil)))))))
          (pss_one (ps_expr (pe_bm PySem.F.plainAttrs_list PySem.F.slot_list_append PySem.F.type_list_append mt_append (pv 5) (pa_cons (pe_tup (pa_cons pe_str (pa_cons (pe_op op_add pe_int (pcall C__law_draw (hr.mono (by omega)) gd (by rfl) (pa_cons (pv 0) (pa_cons (pv 4) pa_nil)))) (pa_cons (pv 7) pa_nil)))) pa_nil)))))
          (pss_one (ps_expr (pe_bm PySem.F.plainAttrs_list PySem.F.slot_list_append PySem.F.type_list_append mt_append (pv 5) (pa_cons (pcall C__law_line (hr.mono (by omega)) gd (by rfl) (pa_cons (pv 0) (pa_cons (pv 3) pa_nil))) pa_nil)))))))
      (pss_one (ps_ret (pe_callTy call_tuple_of (by rfl) nb.at (by decide +kernel) (pa_cons (pv 5) pa_nil)))))), ?_⟩
    have y := sizeLine_eq
    rw [budB_eq] at hb q
    refine ⟨(by show 0 ≤ sizeLine; exact Nat.zero_le _), fun l nl => ?_⟩
    have npl := hp.ne nl
    refine ⟨_, rfl, _, rfl, p, (many : Nat), n, rfl, hp.new nl, by omega, by omega, log_i (k := 20) (by omega) (by omega) (by decide) (by decide), fun H2 d hb2 hp2 d0 d1 => ⟨_, _, rfl, rfl, _, rfl, by omega, by omega, for_range (lo := 0) (n := (1 + d).toNat)
      (fun i σ' H' => ∃ (y6 y7 : Option V) (is : List It) (us : List V), σ' = [some (.ref p), some (.int (many : Nat)), some (.int (dep : Nat)), some (.int T), some (.int R), some (.ref l), y6, y7] ∧
        PotA p (n + 1 + i * (3 + inB dep)) H' ∧ H' l = some (.lst us) ∧ DaAll K H' us (is.map It.d) ∧ is.length = i ∧ us.length = i ∧ (∀ x ∈ is, Wb T R dep x) ∧ Bu p H H')
      ⟨none, none, [], [], rfl, hp2.up (by omega), hb2 _ _ npl.symm upd_same, .nil, rfl, rfl, fun x hx => (nomatch hx), (Bu.new nl).trans hb2⟩ ?_ ?_⟩⟩
    · rintro i σ' H' hi ⟨y6, y7, is, us, rfl, hp', hl', hda, hi', hu', hw, hb'⟩
      have him : (i + 1) * (3 + inB dep) ≤ many * (3 + inB dep) := Nat.mul_le_mul_right _ (by omega)
      rw [Nat.succ_mul] at him
      have line : ∀ (H3 : Hp) (m3 : Nat), Bu p H' H3 → PotA p m3 H3 → m3 ≤ n + 1 + i * (3 + inB dep) + 1 → tCall (spLine K) [] E0 (tCons (tVar 0) (tCons (tVar 3) tNil)) [some (.ref p), some (.int (many : Nat)), some (.int (dep : Nat)), some (.int T), some (.int R), some (.ref l), some (.int (0 + (i : Int))), y7] H3
          (fun v H4 => ∃ (l' : Addr) (xs : List V) (z : V), V.ref l = .ref l' ∧ [v] = [z] ∧ H4 l' = some (.lst xs) ∧ xs.length < sizeLine ∧ (∃ (z6 z7 : Option V) (is : List It) (us : List V), [some (V.ref p), some (.int (many : Nat)), some (.int (dep : Nat)), some (.int T), some (.int R), some (.ref l), some (.int (0 + (i : Int))), y7] = [some (.ref p), some (.int (many : Nat)), some (.int (dep : Nat)), some (.int T), some (.int R), some (.ref l), z6, z7] ∧
            PotA p (n + 1 + (i + 1) * (3 + inB dep)) (upd H4 l' (.lst (xs ++ [z]))) ∧ upd H4 l' (.lst (xs ++ [z])) l = some (.lst us) ∧ DaAll K (upd H4 l' (.lst (xs ++ [z]))) us (is.map It.d) ∧ is.length = i + 1 ∧ us.length = i + 1 ∧ (∀ x ∈ is, Wb T R dep x) ∧ Bu p H (upd H4 l' (.lst (xs ++ [z]))))) := fun H3 m3 hb3 hp3 hm3 => by
        refine ⟨_, rfl, _, rfl, p, T, m3, rfl, hp3, by omega, t0, t1, fun H4 u x t hb4 hp4 hd4 hx h1 h2 => ?_⟩
        have hl4 : H4 l = some (.lst us) := hb4 _ _ npl.symm (hb3 _ _ npl.symm hl')
        refine ⟨l, us, u, rfl, rfl, hl4, by omega, _, _, is ++ [.line x t], us ++ [u], rfl, (hp4.put npl).up (by rw [Nat.succ_mul]; omega), upd_same, ?_, by rw [List.length_append, hi']; rfl, by rw [List.length_append, hu']; rfl, fun z hz => ?_, fun b o nb e => ?_⟩
        · rw [List.map_append]
          have kt : Kt H4 (upd H4 l (.lst (us ++ [u]))) := Kt.put hl4
          refine daAll_append (hd4.kt kt (It.tupd _)) (DaAll.kt (((hp'.kt hb3).trans (hp3.kt hb4)).trans kt) ?_ hda)
          rw [← Its.d_map]
          exact Its.tupd _
        · rcases List.mem_append.mp hz with h | h
          · exact hw z h
          · rw [List.mem_singleton.mp h]
            exact wb_line.mpr ⟨hx, h1, h2⟩
        · rw [upd_ne (ne_of_none e nl)]
          exact hb4 _ _ nb (hb3 _ _ nb (hb' _ _ nb e))
      refine ⟨_, rfl, _, _, rfl, rfl, _, rfl, ite2 (fun e => ?_) (fun e => ?_)⟩
      · have hdep : (0 : Int) < (dep : Nat) := of_decide_eq_true e
        refine ⟨_, rfl, p, 3, _, rfl, hp', by omega, by decide, by decide +kernel, fun H3 d3 hb3 hp3 f0 f1 => ⟨rfl, _, rfl, ite2 (fun e2 => ?_) (fun e2 => ?_)⟩⟩
        · obtain ⟨dd, rfl⟩ : ∃ dd, dep = dd + 1 := ⟨dep - 1, by omega⟩
          have hin : inB (dd + 1) = budB dd 11 := rfl
          have hmm : 1 + many / 2 ≤ 11 := by omega
          have hbl := budB_le (dep := dd) hmm
          have edep : (V.int (((dd + 1 : Nat) : Int) - 1)) = V.int (dd : Nat) := by
            congr 1
            omega
          have emany : (V.int (1 + ((many : Nat) : Int) / 2)) = V.int ((1 + many / 2 : Nat) : Int) := by
            rw [show (1 + ((many : Nat) : Int) / 2) = ((1 + many / 2 : Nat) : Int) by omega]
          refine ⟨_, rfl, _, rfl, _, _, rfl, rfl, ⟨by decide, by decide +kernel⟩, _, _, rfl, rfl, _, rfl, _, _, rfl, rfl, _, rfl, _, rfl, hR dd _ _ _ _ (by omega) ⟨p, 1 + many / 2, _, T, R, by
            show [V.ref p, V.int (1 + ((many : Nat) : Int) / 2), V.int (((dd + 1 : Nat) : Int) - 1), V.int T, V.int R] = _
            rw [edep, emany], hp3, by omega, by omega, t0, t1, r0, r1, by omega, fun H4 u js hb4 hp4 hd4 l1 l2 hwj => ?_⟩⟩
          have hl4 : H4 l = some (.lst us) := hb4 _ _ npl.symm (hb3 _ _ npl.symm hl')
          refine ⟨_, rfl, .inl ⟨rfl, _, .inl (.inl hl4)⟩, _, rfl, _, rfl, p, R, _, rfl, hp4, by omega, by omega, log_i (k := 900) (by omega) r1 (by decide) (by decide), fun H5 d5 hb5 hp5 g0 g1 => ⟨_, _, rfl, rfl, _, rfl, (by show 3 ≤ sizeLine; decide), fun t nt => ?_⟩⟩
          have hl5 : H5 l = some (.lst us) := hb5 _ _ npl.symm hl4
          have nlt : l ≠ t := ne_of_none hl5 nt
          have hl6 : upd H5 t (.tup [.str "loop", .int (1 + d5), u]) l = some (.lst us) := by
            rw [upd_ne nlt]
            exact hl5
          refine ⟨l, us, .ref t, rfl, rfl, hl6, by omega, ?_⟩
          refine ⟨_, _, is ++ [.loop (1 + d5) js], us ++ [.ref t], rfl, ((hp5.new nt).put npl).up (by rw [Nat.succ_mul]; omega), upd_same, ?_, by rw [List.length_append, hi']; rfl, by rw [List.length_append, hu']; rfl, fun z hz => ?_, fun b o nb e => ?_⟩
          · rw [List.map_append]
            have kt : Kt (upd H5 t (.tup [.str "loop", .int (1 + d5), u])) (upd (upd H5 t (.tup [.str "loop", .int (1 + d5), u])) l (.lst (us ++ [.ref t]))) := Kt.put hl6
            have kt5 := (Kt.of (same_put (o := .tup [.str "loop", .int (1 + d5), u]) nt)).trans kt
            have hd : It.d (.loop (1 + d5) js) = .tuple [.str "loop", .int (1 + d5), .tuple (js.map It.d)] := by
              rw [It.d, Its.d_map]
            show DaAll _ _ _ (_ ++ [It.d (.loop (1 + d5) js)])
            rw [hd]
            refine daAll_append (.tup (xs := [.str "loop", .int (1 + d5), u]) (.inl (.inl ?_)) (.cons (.str _) (.cons (.int _) (.cons (hd4.kt ((hp4.kt hb5).trans kt5) (prog_tup js)) .nil)))) (DaAll.kt ((((hp'.kt hb3).trans (hp3.kt hb4)).trans (hp4.kt hb5)).trans kt5) ?_ hda)
            · rw [upd_ne nlt.symm, upd_same]
            · rw [← Its.d_map]
              exact Its.tupd _
          · rcases List.mem_append.mp hz with h | h
            · exact hw z h
            · rw [List.mem_singleton.mp h]
              exact ⟨by omega, by omega, l1, by omega, hwj⟩
          · have e5 := hb5 _ _ nb (hb4 _ _ nb (hb3 _ _ nb (hb' _ _ nb e)))
            rw [upd_ne (ne_of_none e nl), upd_ne (ne_of_none e5 nt)]
            exact e5
        · exact ⟨_, rfl, .inl ⟨rfl, _, .inl (.inl (hb3 _ _ npl.symm hl'))⟩, line H3 _ hb3 hp3 (by omega)⟩
      · exact ⟨_, rfl, .inl ⟨rfl, _, .inl (.inl hl')⟩, line H' _ Bu.refl hp' (by omega)⟩
    · rintro σ' H' ⟨y6, y7, is, us, rfl, hp', hl', hda, hi', hu', hw, hb'⟩
      have hmul : (1 + d).toNat * (3 + inB dep) ≤ many * (3 + inB dep) := Nat.mul_le_mul_right _ (by omega)
      refine ⟨_, rfl, l, us, rfl, .inl ⟨.inl (.inl hl'), fun t nt => ?_⟩⟩
      refine q _ _ is (hb'.trans (Bu.new nt)) ((hp'.new nt).up (by omega)) (.tup (xs := us) (.inl (.inl upd_same)) (hda.mono (same_put nt))) (by omega) (by omega) hw
theorem ok_itemsB (D : Def K mg "_law_items" (topS 7) ["_law_stream_here", "_law_many", "_law_deep", "_law_ticks", "_law_rounds"]) (C__law_draw : Cal P w K mg base 1 "_law_draw" ["_law_stream_here", "_law_many"] spDraw)
    (C__law_line : Cal P w K mg base 3 "_law_line" ["_law_stream_here", "_law_most"] (spLine K)) (nb : NB mg) : ∀ m : Nat, Cal P w K mg base (4 + m) "_law_items" ["_law_stream_here", "_law_many", "_law_deep", "_law_ticks", "_law_rounds"] (spItemsM K m)
  | 0 => itemsB_step D C__law_draw C__law_line (no_cal D) nb (Nat.le_refl 3) (fun d _ _ _ _ h => absurd h (Nat.not_lt_zero d))
  | n + 1 => itemsB_step D C__law_draw C__law_line (ok_itemsB D C__law_draw C__law_line nb n) nb (show 3 ≤ 4 + n by omega) (fun d _ _ _ _ h z => ⟨d, by omega, z⟩)
end
end Ev

/-! ## How many items there are -/
namespace Ev
open PySem PySem.Spec PyProof.Rows L2
def spSize (K : PySem.W.Frag) (B dep : Nat) : Sp := fun vs H Q _ => ∃ (x : V) (is : List It), vs = [x] ∧ Da K H x (.tuple (is.map It.d)) ∧ (∀ i ∈ is, Okp B dep i) ∧ Its.ni is ≤ 1000000 ∧ ∀ H', Same H H' → Q (.int (Its.ni is : Nat)) H'
theorem scSz : FnScope ["_law_items_here", "_law_item"] ["_law_items_here"] (defScope (topS 8)) := ⟨rfl, rfl, rfl, by decide +kernel, rfl, by decide +kernel, by decide +kernel⟩
theorem ni_mem : ∀ {is : List It} {i : It}, i ∈ is → It.ni i ≤ Its.ni is
  | j :: is, i, h => by
    rw [Its.ni]
    rcases List.mem_cons.mp h with rfl | h
    · exact Nat.le_add_right _ _
    · exact Nat.le_trans (ni_mem h) (Nat.le_add_left _ _)
theorem It.ni_pos : ∀ i : It, 1 ≤ It.ni i
  | .line _ _ => by rw [It.ni]; exact Nat.le_refl _
  | .loop _ _ => by rw [It.ni]; exact Nat.le_add_right _ _
theorem ni_len : ∀ is : List It, is.length ≤ Its.ni is
  | [] => Nat.zero_le _
  | i :: is => by
    rw [Its.ni, List.length_cons]
    have := It.ni_pos i
    have := ni_len is
    omega
theorem ni_sum : ∀ is : List It, (is.map fun i => ((It.ni i : Nat) : Int)).sum = ((Its.ni is : Nat) : Int)
  | [] => by rw [Its.ni]; rfl
  | i :: is => by
    rw [Its.ni, List.map_cons, List.sum_cons, ni_sum is]
    omega
section
variable {P : Program} {w : World} {K : PySem.W.Frag} {mg : Str → Option Value} {base : Heap}
theorem size_step {k B dep : Nat} {spR : Sp} (D : Def K mg "_law_size" (topS 8) ["_law_items_here"]) (C__law_size : Cal P w K mg base k "_law_size" ["_law_items_here"] spR) (nb : NB mg)
    (hR : dep = 0 ∨ ∃ d, dep = d + 1 ∧ spR = spSize K B d) : Cal P w K mg base (k + 1) "_law_size" ["_law_items_here"] (spSize K B dep) := by
  refine D.ok scSz (fun vs H Q E h => ?_) (fun f cdv A outer s H vs Q E hr gd h => ?_)
  · obtain ⟨x, is, rfl, _⟩ := h
    rfl
  · obtain ⟨x, is, rfl, hd, hok, hni, q⟩ := h
    refine ⟨_, (pss_one (ps_ret (pe_callB (cr_sum rfl) (by rfl) nb.at (by decide +kernel) (pa_cons (pe_lc (own := [("_law_item", 1)]) (g := (gName 1)) (tt := tYes) (te := (tOp (rI0 fun i j => .int (i + j)) (tC (.int 1)) (tIf (tTest (tOp rEq (tOp (rIxT K) (tVar 1) (tC (.int 0))) (tC (.str "loop")))) (tCall spR [] E0 (tCons (tOp (rIxT K) (tVar 1) (tC (.int 2))) tNil)) (tC (.int 0))))) rfl scSz.nd (pi_tup (pv 0)) (blkOk_by (N := ["_law_items_here", "_law_item"]) (sc := defScope (topS 8)) (by decide +kernel)) (fun _ _ _ _ _ => (pg_name (i := 1) scSz.nd rfl (Or.inl rfl))) (fun _ _ _ _ _ => pts_nil) (fun _ _ _ _ _ => (pe_op op_add pe_int (pe_ifExp (pt_cmpR op_eq (pe_ix ix_tup (pv 1) pe_int (fun _ _ => rfl)) pe_str (nomark _)) (pcall C__law_size (hr.mono (by omega)) gd (by rfl) (pa_cons (pe_ix ix_tup (pv 1) pe_int (fun _ _ => rfl)) pa_nil)) pe_int)))) pa_nil)))), ?_⟩
    have hln := ni_len is
    refine s_ret (g_sum (K := K) (ns := is.map fun i => ((It.ni i : Nat) : Int)) (g_lcT1 (ds := is.map It.d) (hi_tup rfl hd) (by rw [List.length_map]; omega) (by rw [List.length_map, List.length_map, List.length_map]) fun j x' y' d hd' hy' HH R sH hx hR' => ?_)) fun H' u s' e => ?_
    · rw [List.getElem?_map] at hd'
      obtain ⟨it, hit, rfl⟩ := Option.map_eq_some_iff.mp hd'
      rw [List.getElem?_map, List.getElem?_map, hit] at hy'
      cases hy'
      have hmem := List.mem_of_getElem? hit
      cases it with
      | line z t =>
        obtain ⟨b, rfl, hb⟩ := da_line hx
        refine ⟨rfl, _, rfl, b, _, 0, _, rfl, rfl, hb, rfl, rfl, _, rfl, ?_⟩
        rw [show decide (V.str "line" = V.str "loop") = false from decide_eq_false fun h => absurd (V.str.inj h) (by decide)]
        refine iteF ⟨_, _, rfl, rfl, ?_⟩
        have z' := hR' HH Same.rfl'
        dsimp only at z'
        rw [It.ni] at z'
        exact z'
      | loop r js =>
        obtain ⟨d', rfl, hsp⟩ : ∃ d', dep = d' + 1 ∧ spR = spSize K B d' := by
          rcases hR with h | h
          · subst h
            exact (hok _ hmem).elim
          · exact h
        subst hsp
        obtain ⟨_, _, hokj⟩ : 0 ≤ r ∧ r < (2 ^ B : Nat) ∧ ∀ i ∈ js, Okp B d' i := hok _ hmem
        obtain ⟨b, v, rfl, hb, hv⟩ := da_loop hx
        have hm := ni_mem hmem
        rw [It.ni] at hm
        refine ⟨rfl, _, rfl, b, _, 0, _, rfl, rfl, hb, rfl, rfl, _, rfl, ?_⟩
        rw [dec_str]
        refine iteT ⟨_, rfl, b, _, 2, _, rfl, rfl, hb, rfl, v, js, rfl, hv, hokj, by omega, fun H3 s3 => ⟨_, _, rfl, rfl, ?_⟩⟩
        have z' := hR' H3 s3
        dsimp only at z'
        rw [It.ni] at z'
        exact z'
    · have e : u = _ := e
      subst e
      rw [ni_sum]
      exact q H' s'
theorem ok_size {B : Nat} (D : Def K mg "_law_size" (topS 8) ["_law_items_here"]) (nb : NB mg) : ∀ dep : Nat, Cal P w K mg base (1 + dep) "_law_size" ["_law_items_here"] (spSize K B dep)
  | 0 => size_step (k := 0) D (no_cal D) nb (.inl rfl)
  | n + 1 => size_step D (ok_size D nb n) nb (.inr ⟨n, rfl, rfl⟩)
/-! ### items as drawn -/
theorem wb_ps {T R : Int} : ∀ (n : Nat) (i : It), Wb T R n i → It.ps i
  | n, .line x t, h => by
    rw [It.ps]
    exact (wb_line.mp h).2.1
  | 0, .loop r is, h => h.elim
  | n + 1, .loop r is, h => by
    obtain ⟨h1, h2, h3, h4, h5⟩ : 1 ≤ r ∧ r ≤ R ∧ 1 ≤ is.length ∧ is.length ≤ 11 ∧ ∀ i ∈ is, Wb T R n i := h
    rw [It.ps]
    exact ⟨h1, (fun e => by rw [e] at h3; exact absurd h3 (by decide)), ps_of fun i hi => wb_ps n i (h5 i hi)⟩
theorem wb_okp {T R : Int} {B : Nat} (hT : T < (2 ^ B : Nat)) (hR : R < (2 ^ B : Nat)) : ∀ (n : Nat) (i : It), Wb T R n i → Okp B n i
  | n, .line x t, h => by
    have h := wb_line.mp h
    exact okp_line.mpr ⟨by omega, by omega⟩
  | 0, .loop r is, h => h.elim
  | n + 1, .loop r is, h => by
    obtain ⟨h1, h2, h3, h4, h5⟩ : 1 ≤ r ∧ r ≤ R ∧ 1 ≤ is.length ∧ is.length ≤ 11 ∧ ∀ i ∈ is, Wb T R n i := h
    exact ⟨by omega, by omega, fun i hi => wb_okp hT hR n i (h5 i hi)⟩
theorem pool9_nm : pool9.all nmB = true := by decide +kernel
theorem wb_nm {T R : Int} (hT : T < (2 ^ 64 : Nat)) (hR : R < (2 ^ 64 : Nat)) : ∀ (n : Nat) (i : It), Wb T R n i → It.nm i
  | n, .line x t, h => by
    have h := wb_line.mp h
    rw [It.nm]
    exact ⟨List.all_eq_true.mp pool9_nm x h.1, by omega⟩
  | 0, .loop r is, h => h.elim
  | n + 1, .loop r is, h => by
    obtain ⟨h1, h2, h3, h4, h5⟩ : 1 ≤ r ∧ r ≤ R ∧ 1 ≤ is.length ∧ is.length ≤ 11 ∧ ∀ i ∈ is, Wb T R n i := h
    rw [It.nm]
    exact ⟨by omega, nm_of fun i hi => wb_nm hT hR n i (h5 i hi)⟩
theorem wb_up {T R T' R' : Int} (hT : T ≤ T') (hR : R ≤ R') : ∀ (d e : Nat) (i : It), d ≤ e → Wb T R d i → Wb T' R' e i
  | d, e, .line x t, _, h => by
    have h := wb_line.mp h
    exact wb_line.mpr ⟨h.1, h.2.1, by omega⟩
  | 0, _, .loop _ _, _, h => h.elim
  | d + 1, 0, .loop _ _, hl, _ => absurd hl (Nat.not_succ_le_zero d)
  | d + 1, e + 1, .loop r is, hl, h => by
    obtain ⟨h1, h2, h3, h4, h5⟩ : 1 ≤ r ∧ r ≤ R ∧ 1 ≤ is.length ∧ is.length ≤ 11 ∧ ∀ i ∈ is, Wb T R d i := h
    exact ⟨h1, by omega, h3, h4, fun i hi => wb_up hT hR d e i (by omega) (h5 i hi)⟩
/-- how long the text of a program is -/
theorem prog_sz {B n : Nat} {is : List It} (h : ∀ i ∈ is, Okp B n i) (hm : Its.nm is) (hn : Its.ni is ≤ 96) (h6 : n ≤ 6) :
    (PyData.tuple (is.map It.d)).showable = true ∧ (PyData.tuple (is.map It.d)).depth ≤ 64 ∧ (PyData.tuple (is.map It.d)).shown.length ≤ sizeLine := by
  obtain ⟨h1, h2, h3, h4⟩ := Its.szd n B is h hm
  refine Sz.fits (e := 64) (w := 16000) ⟨by rw [PyData.showable]; exact h1, by rw [PyData.leavesShort]; exact h2, ?_, ?_⟩ (by decide) (by decide)
  · rw [PyData.depth]
    omega
  · rw [PyData.weight]
    omega
def itB : Nat → Nat
  | 0 => 1
  | n + 1 => 1 + 11 * itB n
theorem wb_ni {T R : Int} : ∀ (n : Nat) (i : It), Wb T R n i → It.ni i ≤ itB n
  | n, .line x t, _ => by
    rw [It.ni]
    cases n
    · exact Nat.le_refl _
    · show 1 ≤ 1 + _
      omega
  | 0, .loop r is, h => h.elim
  | n + 1, .loop r is, h => by
    obtain ⟨h1, h2, h3, h4, h5⟩ : 1 ≤ r ∧ r ≤ R ∧ 1 ≤ is.length ∧ is.length ≤ 11 ∧ ∀ i ∈ is, Wb T R n i := h
    rw [It.ni]
    have z := ni_mul fun i hi => wb_ni n i (h5 i hi)
    have z2 : is.length * itB n ≤ 11 * itB n := Nat.mul_le_mul_right _ h4
    show 1 + Its.ni is ≤ 1 + 11 * itB n
    omega
end
end Ev

/-! ## padded; the law -/
namespace Ev
open PySem PySem.Spec PyProof.Rows L2
def padD (ds : List PyData) (t : Int) : List PyData := if t = 0 then ds else ds ++ [It.d (.line "idle" t)]
def spPad (K : PySem.W.Frag) : Sp := fun vs H Q _ => ∃ (x : V) (ds : List PyData) (t : Int), vs = [x, .int t] ∧ Da K H x (.tuple ds) ∧ ds.length ≤ 1000000 ∧ ∀ H' u, Same H H' → Da K H' u (.tuple (padD ds t)) → Q u H'
theorem scPd : FnScope ["program", "ticks"] ["program", "ticks"] (defScope (topS 1)) := ⟨rfl, rfl, rfl, by decide +kernel, rfl, by decide +kernel, by decide +kernel⟩
section
variable {P : Program} {w : World} {K : PySem.W.Frag} {mg : Str → Option Value} {base : Heap}
theorem ok_padded (D : Def K mg "padded" (topS 1) ["program", "ticks"]) (nb : NB mg) : Cal P w K mg base 1 "padded" ["program", "ticks"] (spPad K) := by
  refine D.ok scPd (fun vs H Q E h => ?_) (fun f cdv A outer s H vs Q E hr gd h => ?_)
  · obtain ⟨x, ds, t, rfl, _⟩ := h
    rfl
  · obtain ⟨x, ds, t, rfl, hd, hl, q⟩ := h
    refine ⟨_, (pss_cons (ps_if (pt_cmpR op_eq (pv 1) pe_int (nomark _))
        (pss_one (ps_ret (pv 0)))
        pss_nil)
      (pss_one (ps_ret (pe_op op_catA (pv 0) (pe_tup (pa_cons (pe_tup (pa_cons pe_str (pa_cons pe_str (pa_cons (pv 1) pa_nil)))) pa_nil)))))), ?_⟩
    have y := sizeLine_eq
    refine s_ifB (b := decide (t = 0)) (t_eqI rfl) (fun e H' s' => ?_) (fun e H' s' => ?_)
    · have e := of_decide_eq_true e
      refine ⟨_, rfl, q H' x s' ?_⟩
      unfold padD
      rw [if_pos e]
      exact hd.mono s'
    · have e := of_decide_eq_false e
      refine ⟨_, rfl, _, rfl, (by show 3 ≤ sizeLine; decide), fun t1 n1 => ⟨(by show 1 ≤ sizeLine; decide), fun t2 n2 => ?_⟩⟩
      have s1 := same_put (o := .tup [.str "line", .str "idle", .int t]) n1
      have s2 := same_put (o := .tup [.ref t1]) n2
      refine cat_val (es := [It.d (.line "idle" t)]) ((hd.mono s').mono (s1.trans s2)) (.tup (xs := [.ref t1]) (.inl (.inl upd_same)) (.cons ?_ .nil)) (by show ds.length + 1 ≤ _; omega) fun H3 u s3 hu => q H3 u (s'.trans ((s1.trans s2).trans s3)) ?_
      · rw [It.d]
        exact .tup (xs := [.str "line", .str "idle", .int t]) (.inl (.inl (s2 _ _ upd_same))) (.cons (.str _) (.cons (.str _) (.cons (.int _) .nil)))
      · unfold padD
        rw [if_neg e]
        exact hu
end
def spLaw (K : PySem.W.Frag) : Sp := fun vs H Q _ => ∃ (a : Addr) (ns : List Int), vs = [.ref a] ∧ SqL K H a (ns.map V.int) ∧ ∀ H', Q (.bl true) H'
theorem scLaw : FnScope ["_law_script", "_law_k", "_law_stream_here", "_law_turn", "_law_ticks", "_law_items_here", "_law_some", "_law_held", "_law_many", "_law_due"] ["_law_script"] (defScope (topS 9)) := ⟨rfl, rfl, rfl, by decide +kernel, rfl, by decide +kernel, by decide +kernel⟩
theorem sq_bu {K : PySem.W.Frag} {H H1 H' : Hp} {p a : Addr} {zs : List V} (s : SqL K H a zs) (np : H p = none) (s1 : Same H H1) (h : Bu p H1 H') : SqL K H' a zs := by
  rcases s with (e | ⟨o', e⟩) | e
  · exact .inl (.inl (h _ _ (ne_of_none e np) (s1 _ _ e)))
  · exact .inl (.inr ⟨o', h _ _ (ne_of_none e np) (s1 _ _ e)⟩)
  · exact .inr e
theorem bud3 {dep many : Nat} (hd : dep ≤ 3) (hm : many ≤ 20) : budB dep many ≤ 90501 := by
  refine Nat.le_trans (budB_le hm) ?_
  have : dep = 0 ∨ dep = 1 ∨ dep = 2 ∨ dep = 3 := by omega
  rcases this with rfl | rfl | rfl | rfl <;> decide
theorem one_T : (1 : Int) ≤ 10 ^ (12 : Int).toNat := by decide
/-- the items of the law -/
structure Pg (js : List It) : Prop where
  ne : 1 ≤ js.length
  le : js.length ≤ 20
  wb : ∀ i ∈ js, Wb (10 ^ 12) 9 3 i
theorem Pg.ok {js : List It} (h : Pg js) : ∀ i ∈ js, Okp 64 3 i := fun i hi => wb_okp (by decide) (by decide) 3 i (h.wb i hi)
theorem Pg.ni {js : List It} (h : Pg js) : Its.ni js ≤ 29280 := by
  have z := ni_mul fun i hi => wb_ni 3 i (h.wb i hi)
  have e : itB 3 = 1464 := rfl
  have l := h.le
  rw [e] at z
  have := Nat.mul_le_mul_right 1464 l
  omega
theorem Pg.nm {js : List It} (h : Pg js) : Its.nm js := nm_of fun i hi => wb_nm (by decide) (by decide) 3 i (h.wb i hi)
section
variable {P : Program} {w : World} {K : PySem.W.Frag} {mg : Str → Option Value} {base : Heap}
theorem pad_eq {is : List It} {t : Int} : padD (is.map It.d) t = (is ++ if t = 0 then [] else [It.line "idle" t]).map It.d := by
  unfold padD
  split
  · simp
  · simp
theorem ok_law (hm : ∃ mm, base.Ns sysModules mm) {f : Addr} {fd : FuncData} (F : Fun K "law" "law" (topS 9) f fd) (C__law_stream : Cal P w K mg base 1 "_law_stream" ["_law_script", "_law_k"] (spPotS K)) (C__law_draw : Cal P w K mg base 1 "_law_draw" ["_law_stream_here", "_law_many"] spDraw)
    (C__law_pick : Cal P w K mg base 2 "_law_pick" ["_law_stream_here", "_law_some"] (spPick K)) (C__law_line : Cal P w K mg base 3 "_law_line" ["_law_stream_here", "_law_most"] (spLine K))
    (C__law_items : Cal P w K mg base 7 "_law_items" ["_law_stream_here", "_law_many", "_law_deep", "_law_ticks", "_law_rounds"] (spItemsM K 3)) (C__law_size : Cal P w K mg base 4 "_law_size" ["_law_items_here"] (spSize K 64 3))
    (C_padded : Cal P w K mg base 1 "padded" ["program", "ticks"] (spPad K)) (nb : NB mg) : FnG P w K mg base CX0 8 f fd ["_law_script"] (spLaw K) := by
  refine okG F scLaw (fun vs H Q E h => ?_) (fun cdv A outer s H vs Q E hr gd h => ?_)
  · obtain ⟨a, ns, rfl, _⟩ := h
    rfl
  · obtain ⟨a, ns, rfl, hS, q⟩ := h
    refine ⟨_, (pss_cons (ps_for PassesOwn.never rfl (pi_range1 rfl nb.at (pa_cons (pe_callB (call_max2 rfl) (by rfl) nb.at (by decide +kernel) (pa_cons pe_int (pa_cons (pe_callB (call_min2 rfl) (by rfl) nb.at (by decide +kernel) (pa_cons pe_int (pa_cons (pe_callB call_len_seq (by rfl) nb.at PySem.boot_len (pa_cons (pv 0) pa_nil)) pa_nil))) pa_nil))) pa_nil)) (pg_name (i := 1) scLaw.nd rfl (Or.inl rfl))
        (pss_cons (ps_set (i := 2) scLaw.nd rfl (.inl rfl) (pcall C__law_stream (hr.mono (by omega)) gd (by rfl) (pa_cons (pv 0) (pa_cons (pv 1) pa_nil))))
        (pss_one (ps_for PassesOwn.never rfl (pi_range1 rfl nb.at (pa_cons pe_int pa_nil)) (pg_name (i := 3) scLaw.nd rfl (Or.inl rfl))
          (pss_cons (ps_set (i := 4) scLaw.nd rfl (.inl rfl) (pcall C__law_pick (hr.mono (by omega)) gd (by rfl) (pa_cons (pv 2) (pa_cons (pe_lst (pa_cons pe_int (pa_cons (pe_op op_pow pe_int pe_int) pa_nil))) pa_nil))))
          (pss_cons (ps_set (i := 5) scLaw.nd rfl (.inl rfl) (pcall C__law_items (hr.mono (by omega)) gd (by rfl) (pa_cons (pv 2) (pa_cons (pe_op op_add pe_int (pcall C__law_draw (hr.mono (by omega)) gd (by rfl) (pa_cons (pv 2) (pa_cons pe_int pa_nil)))) (pa_cons (pcall C__law_draw (hr.mono (by omega)) gd (by rfl) (pa_cons (pv 2) (pa_cons pe_int pa_nil))) (pa_cons (pv 4) (pa_cons pe_int pa_nil)))))))
          (pss_cons (ps_while PassesOwn.never (pt_cmpR op_gt (pcall C__law_size (hr.mono (by omega)) gd (by rfl) (pa_cons (pv 5) pa_nil)) pe_int (nomark _))
            (pss_one (ps_set (i := 5) scLaw.nd rfl (.inl rfl) (pe_ifExp (pt_cmpR op_gt (pe_callB call_len_seq (by rfl) nb.at PySem.boot_len (pa_cons (pv 5) pa_nil)) pe_int (nomark _)) (pe_slice sl_tupA (pv 5) po_none (po_some (pe_op op_fdivW (pe_callB call_len_seq (by rfl) nb.at PySem.boot_len (pa_cons (pv 5) pa_nil)) pe_int))) (pe_tup (pa_cons (pcall C__law_line (hr.mono (by omega)) gd (by rfl) (pa_cons (pv 2) (pa_cons pe_int pa_nil))) pa_nil))))))
          (pss_cons (ps_set (i := 6) scLaw.nd rfl (.inl rfl) (pe_lst (pa_cons pe_int (pa_cons pe_int (pa_cons pe_int (pa_cons (pe_op op_pow pe_int pe_int) (pa_cons (pe_op op_add (pe_op op_pow pe_int pe_int) pe_int) (pa_cons (pe_op op_pow pe_int pe_int) (pa_cons (pcall C__law_draw (hr.mono (by omega)) gd (by rfl) (pa_cons (pv 2) (pa_cons pe_int pa_nil))) pa_nil)))))))))
          (pss_cons (ps_par (i := 7) (j := 8) rfl scLaw.nd rfl rfl (by decide) rfl rfl (pa_cons (pe_callB (call_reprA hm gd (hu70 hr)) (by rfl) nb.at (by decide +kernel) (pa_cons (pv 5) pa_nil)) (pa_cons (pcall C__law_pick (hr.mono (by omega)) gd (by rfl) (pa_cons (pv 2) (pa_cons (pv 6) pa_nil))) pa_nil)) (by rfl))
          (pss_cons (ps_set (i := 9) scLaw.nd rfl (.inl rfl) (pe_op op_catA (pv 5) (pe_op op_repT01 (pe_tup (pa_cons (pe_tup (pa_cons pe_str (pa_cons pe_str (pa_cons (pv 8) pa_nil)))) pa_nil)) (pe_callTy call_int1 (by rfl) nb.at (by decide +kernel) (pa_cons (pe_cmpR op_gt (pv 8) pe_int (nomark _)) pa_nil)))))
          (pss_one (ps_if (PW.pt (pw_or (pt_cmpR op_ne (pe_callB (call_reprA hm gd (hu70 hr)) (by rfl) nb.at (by decide +kernel) (pa_cons (pcall C_padded (hr.mono (by omega)) gd (by rfl) (pa_cons (pv 5) (pa_cons (pv 8) pa_nil))) pa_nil)) (pe_callB (call_reprA hm gd (hu70 hr)) (by rfl) nb.at (by decide +kernel) (pa_cons (pv 9) pa_nil)) (nomark _)) (pw_or1 (pt_cmpR op_ne (pe_callB (call_reprA hm gd (hu70 hr)) (by rfl) nb.at (by decide +kernel) (pa_cons (pv 5) pa_nil)) (pv 7) (nomark _)))))
            (pss_one (ps_ret pe_bl))
            pss_nil))))))))))))
      (pss_one (ps_ret pe_bl))), ?_⟩
    have y := sizeLine_eq
    refine ⟨_, rfl, a, _, rfl, .inl hS, 3, _, rfl, 1, _, rfl, _, rfl, (mm_at _ (mm_le _)).1, (mm_at _ (mm_le _)).2.1, for_range (lo := 0) (fun i σ' H' => ∃ y1 y2 y3 y4 y5 y6 y7 y8 y9 : Option V, σ' = [some (.ref a), y1, y2, y3, y4, y5, y6, y7, y8, y9] ∧ SqL K H' a (ns.map V.int))
      ⟨none, none, none, none, none, none, none, none, none, rfl, hS⟩ ?_ ?_⟩
    · rintro i σ' H1 hi ⟨y1, y2, y3, y4, y5, y6, y7, y8, y9, rfl, hS1⟩
      have hi3 : i < 3 := Nat.lt_of_lt_of_le hi (mm_at _ (mm_le _)).2.2
      refine ⟨_, rfl, _, rfl, a, ns, _, rfl, hS1, by omega, by omega, fun Hs p np ss hps => ?_⟩
      refine ⟨6, rfl, by decide, by decide, for_range (lo := 0) (n := 6) (fun j σ' H' => ∃ y3 y4 y5 y6 y7 y8 y9 : Option V, σ' = [some (.ref a), some (.int (0 + (i : Int))), some (.ref p), y3, y4, y5, y6, y7, y8, y9] ∧ Bu p Hs H' ∧ PotA p (100000 * j) H')
        ⟨_, _, _, _, _, _, _, rfl, Bu.refl, hps⟩ ?_ ?_⟩
      · rintro j σ' H2 hj ⟨y3, y4, y5, y6, y7, y8, y9, rfl, hb2, hp2⟩
        -- the ticks
        refine ⟨_, rfl, 10, 12, rfl, rfl, ⟨by decide, by decide, by decide⟩, (by show 2 ≤ sizeLine; decide), fun l nl => ⟨p, l, _, _, rfl, hp2.new nl, by omega, hp2.ne nl, .inl (.inl upd_same), by simp, by show 2 ≤ 1000000; decide, fun H3 v hb3 hp3 hv => ?_⟩⟩
        obtain ⟨T, rfl, T1, T2⟩ : ∃ T : Int, v = .int T ∧ 1 ≤ T ∧ T ≤ 10 ^ 12 := by
          simp only [List.mem_cons, List.not_mem_nil, or_false] at hv
          rcases hv with rfl | rfl
          · exact ⟨_, rfl, by decide, by decide⟩
          · exact ⟨_, rfl, by decide, by decide⟩
        have hb23 : Bu p Hs H3 := hb2.trans ((Bu.new nl).trans hb3)
        -- the items
        refine ⟨_, rfl, _, rfl, p, 20, _, rfl, hp3, by omega, by decide, by decide +kernel, fun H4 d4 hb4 hp4 e0 e1 => ⟨_, _, rfl, rfl, _, rfl, p, 4, _, rfl, hp4, by omega, by decide, by decide +kernel, fun H5 d5 hb5 hp5 f0 f1 => ⟨_, rfl, ?_⟩⟩⟩
        have em : V.int (1 + d4) = V.int (((1 + d4).toNat : Nat) : Int) := by
          rw [Int.toNat_of_nonneg (by omega)]
        have ed : V.int d5 = V.int ((d5.toNat : Nat) : Int) := by
          rw [Int.toNat_of_nonneg f0]
        have hbud := bud3 (dep := d5.toNat) (many := (1 + d4).toNat) (by omega) (by omega)
        refine ⟨d5.toNat, by omega, p, (1 + d4).toNat, _, T, 9, by
          show [V.ref p, V.int (1 + d4), V.int d5, V.int T, V.int 9] = _
          rw [← em, ← ed], hp5, by omega, by omega, T1, by omega, by decide, by decide, by omega, fun H6 u is hb6 hp6 hd6 l1 l2 hw6 => ?_⟩
        have pg : Pg is := ⟨l1, by omega, fun i hi => wb_up T2 (Int.le_refl 9) _ 3 i (by omega) (hw6 i hi)⟩
        have hb26 : Bu p Hs H6 := ((hb23.trans hb4).trans hb5).trans hb6
        -- no more than sixty
        refine while_w (fun m σ' H' => ∃ (x : V) (js : List It) (c : Nat), m = (if 60 < Its.ni js then js.length + 1 else 0) ∧ σ' = [some (.ref a), some (.int (0 + (i : Int))), some (.ref p), some (.int (0 + (j : Int))), some (.int T), some x, y6, y7, y8, y9] ∧ Bu p Hs H' ∧ PotA p c H' ∧
            c ≤ 100000 * j + 90600 ∧ (60 < Its.ni js → c ≤ 100000 * j + 90590) ∧ Da K H' x (.tuple (js.map It.d)) ∧ Pg js) ⟨_, u, is, _, rfl, rfl, hb26, hp6, by omega, fun _ => by omega, hd6, pg⟩ ?_ ?_
        · rintro m σ' H7 ⟨x, js, c, rfl, rfl, hb7, hp7, hc7, hc7', hd7, pj⟩
          have hnj := pj.ni
          refine ⟨_, rfl, x, js, rfl, hd7, pj.ok, by omega, fun H8 s8 => ⟨_, _, rfl, rfl, _, rfl, ite2 (fun e => ?_) (fun e => ?_)⟩⟩
          · have h60 : (60 : Int) < ((Its.ni js : Nat) : Int) := of_decide_eq_true e
            have h60 : 60 < Its.ni js := by omega
            rw [if_pos h60]
            obtain ⟨b, xs, rfl, hbx, hax⟩ := da_prog (hd7.mono s8)
            have hxl := daAll_len hax
            rw [List.length_map] at hxl
            refine ⟨_, rfl, b, xs, rfl, .inr hbx, _, _, rfl, rfl, _, rfl, ite2 (fun e1 => ?_) (fun e1 => ?_)⟩
            · have h1 : (1 : Int) < ((xs.length : Nat) : Int) := of_decide_eq_true e1
              refine ⟨_, rfl, _, rfl, b, xs, rfl, .inr hbx, _, _, rfl, rfl, ⟨by decide, by decide +kernel⟩, _, rfl, sl_val (lo := none) (hi := some (((xs.length : Nat) : Int) / 2)) (hd7.mono s8) fun H9 u9 s9 hu9 => ?_⟩
              have e2 : cutD (js.map It.d) none (some (((xs.length : Nat) : Int) / 2)) = (js.take (js.length / 2)).map It.d := by
                rw [hxl, show (((js.length : Nat) : Int) / 2) = ((js.length / 2 : Nat) : Int) by omega, cut_to, map_take]
              rw [e2] at hu9
              have hl2 : (js.take (js.length / 2)).length = js.length / 2 := by
                rw [List.length_take]
                omega
              refine ⟨_, ?_, u9, js.take (js.length / 2), c, rfl, rfl, hb7.same (s8.trans s9), hp7.same (s8.trans s9), hc7, fun _ => hc7' h60, hu9, ⟨by omega, by have := pj.le; omega, fun i hi => pj.wb i (List.mem_of_mem_take hi)⟩⟩
              rw [hl2]
              split <;> omega
            · refine ⟨_, rfl, p, 9, c, rfl, hp7.same s8, by have := hc7' h60; omega, by decide, by decide, fun H9 u9 x9 t9 hb9 hp9 hd9 hx9 g1 g2 => ⟨(by show 1 ≤ sizeLine; decide), fun t nt => ?_⟩⟩
              have n1 : Its.ni [.line x9 t9] = 1 := by
                rw [Its.ni, Its.ni, It.ni]
              refine ⟨0, by omega, .ref t, [.line x9 t9], c + 2, by rw [n1]; rfl, rfl, (hb7.same s8).trans (hb9.trans (Bu.new nt)), hp9.new nt, by have := hc7' h60; omega, fun h => by rw [n1] at h; omega, ?_, ⟨Nat.le_refl _, by show 1 ≤ 20; decide, fun i hi => ?_⟩⟩
              · exact .tup (xs := [u9]) (.inl (.inl upd_same)) (.cons (hd9.mono (same_put nt)) .nil)
              · rw [List.mem_singleton.mp hi]
                exact wb_line.mpr ⟨hx9, g1, by omega⟩
          · have h60 : ¬ (60 : Int) < ((Its.ni js : Nat) : Int) := of_decide_eq_false (Bool.eq_false_iff.mpr e)
            have h60 : Its.ni js ≤ 60 := by omega
            have hb8 := hb7.same s8
            have hp8 := hp7.same s8
            have hd8 := hd7.mono s8
            -- how many
            refine ⟨10, 12, rfl, rfl, ⟨by decide, by decide, by decide⟩, 10, 12, rfl, rfl, ⟨by decide, by decide, by decide⟩, _, _, rfl, rfl, 10, 30, rfl, rfl, ⟨by decide, by decide, by decide⟩, _, rfl, p, 99, c, rfl, hp8, by omega, by decide, by decide +kernel, fun H9 d9 hb9 hp9 g0 g1 => ⟨(by show 7 ≤ sizeLine; decide), fun l2 nl2 => ?_⟩⟩
            have hd9 := hd8.bu (prog_tup _) hp8 hb9
            obtain ⟨k1, k2, k3⟩ := prog_sz pj.ok pj.nm (by omega) (by decide)
            refine ⟨_, rfl, _, _, rfl, hd9.mono (same_put nl2), k1, k2, k3, _, rfl, _, rfl, p, l2, _, _, rfl, hp9.new nl2, by omega, hp9.ne nl2, .inl (.inl upd_same), by simp, by show 7 ≤ 1000000; decide, fun H10 v hb10 hp10 hv => ⟨_, _, rfl, ?_⟩⟩
            obtain ⟨t, rfl, t0, t1⟩ : ∃ t : Int, v = .int t ∧ 0 ≤ t ∧ t ≤ 10 ^ 30 := by
              simp only [List.mem_cons, List.not_mem_nil, or_false] at hv
              rcases hv with rfl | rfl | rfl | rfl | rfl | rfl | rfl
              · exact ⟨_, rfl, by decide, by decide⟩
              · exact ⟨_, rfl, by decide, by decide⟩
              · exact ⟨_, rfl, by decide, by decide⟩
              · exact ⟨_, rfl, by decide, by decide⟩
              · exact ⟨_, rfl, by decide, by decide⟩
              · exact ⟨_, rfl, by decide, by decide⟩
              · exact ⟨_, rfl, g0, by omega⟩
            have hd10 := (hd9.mono (same_put nl2)).bu (prog_tup _) (hp9.new nl2) hb10
            have hbx : Bu p Hs H10 := (hb8.trans hb9).trans ((Bu.new nl2).trans hb10)
            -- what is due
            refine ⟨_, rfl, _, rfl, (by show 3 ≤ sizeLine; decide), fun t1' n1' => ⟨(by show 1 ≤ sizeLine; decide), fun t2' n2' => ?_⟩⟩
            have s1 := same_put (o := .tup [.str "line", .str "idle", .int t]) n1'
            have s2 := same_put (o := .tup [.ref t1']) n2'
            have s12 := s1.trans s2
            refine ⟨_, rfl, _, _, rfl, rfl, .inr ⟨_, rfl, ?_⟩⟩
            have hone : Da K (upd (upd H10 t1' (.tup [.str "line", .str "idle", .int t])) t2' (.tup [.ref t1'])) (.ref t2') (.tuple [It.d (.line "idle" t)]) := by
              refine .tup (xs := [.ref t1']) (.inl (.inl upd_same)) (.cons ?_ .nil)
              rw [It.d]
              exact .tup (xs := [.str "line", .str "idle", .int t]) (.inl (.inl (s2 _ _ upd_same))) (.cons (.str _) (.cons (.str _) (.cons (.int _) .nil)))
            have hjl := pj.le
            have fin : ∀ (H11 : Hp) (u11 : V), Same H10 H11 → Da K H11 u11 (.tuple (padD (js.map It.d) t)) → tIfS (tOr (tTest (tOp rNe (tCB (rReprA K) (tCons (tCall (spPad K) [] E0 (tCons (tVar 5) (tCons (tVar 8) tNil))) tNil)) (tCB (rReprA K) (tCons (tVar 9) tNil)))) (tTest (tOp rNe (tCB (rReprA K) (tCons (tVar 5) tNil)) (tVar 7)))) (tRet (tC (.bl false))) tNext
                { nx := fun σ' H' => ∃ y3 y4 y5 y6 y7 y8 y9 : Option V, σ' = [some (.ref a), some (.int (0 + (i : Int))), some (.ref p), y3, y4, y5, y6, y7, y8, y9] ∧ Bu p Hs H' ∧ PotA p (100000 * (j + 1)) H', rt := Q }
                [some (.ref a), some (.int (0 + (i : Int))), some (.ref p), some (.int (0 + (j : Int))), some (.int T), some x, some (.ref l2), some (.str (PyData.tuple (js.map It.d)).shown), some (.int t), some u11] H11 := fun H11 u11 s11 hu11 => by
              obtain ⟨m1, m2, m3⟩ : (PyData.tuple (padD (js.map It.d) t)).showable = true ∧ (PyData.tuple (padD (js.map It.d) t)).depth ≤ 64 ∧ (PyData.tuple (padD (js.map It.d) t)).shown.length ≤ sizeLine := by
                rw [pad_eq]
                refine prog_sz (B := 128) (n := 3) (fun i hi => ?_) (nm_of fun i hi => ?_) ?_ (by decide)
                · rcases List.mem_append.mp hi with h | h
                  · exact wb_okp (by decide) (by decide) 3 i (pj.wb i h)
                  · split at h
                    · cases h
                    · rw [List.mem_singleton.mp h]
                      exact okp_line.mpr ⟨t0, by omega⟩
                · rcases List.mem_append.mp hi with h | h
                  · exact wb_nm (by decide) (by decide) 3 i (pj.wb i h)
                  · split at h
                    · cases h
                    · rw [List.mem_singleton.mp h, It.nm]
                      exact ⟨by decide +kernel, by omega⟩
                · have napp : ∀ is js : List It, Its.ni (is ++ js) = Its.ni is + Its.ni js := fun is => by
                    induction is with
                    | nil => intro js; rw [List.nil_append, Its.ni, Nat.zero_add]
                    | cons i is ih => intro js; rw [List.cons_append, Its.ni, Its.ni, ih js, Nat.add_assoc]
                  rw [napp]
                  have : Its.ni (if t = 0 then [] else [It.line "idle" t]) ≤ 1 := by
                    split
                    · rw [Its.ni]; exact Nat.zero_le _
                    · rw [Its.ni, Its.ni, It.ni]; exact Nat.le_refl _
                  omega
              have hx11 := hd10.mono s11
              refine s_skip1 (t_orF (t_neS (x := (PyData.tuple (padD (js.map It.d) t)).shown) (fun H Q s q => ?_) (g_reprA rfl hu11 m1 m2 m3)) (t_neS (g_reprA rfl hx11 k1 k2 k3) (g_eq rfl))) fun H12 s12 => ?_
              · exact ⟨_, rfl, _, rfl, x, js.map It.d, t, rfl, hx11.mono s, by rw [List.length_map]; omega, fun H' u s' hu => ⟨u, _, rfl, hu, m1, m2, m3, q H' _ s' rfl⟩⟩
              · exact ⟨_, _, _, _, _, _, _, rfl, (hbx.same s11).same s12, ((hp10.same s11).same s12).up (by omega)⟩
            by_cases ht : 0 < t
            · refine ⟨t2', [.ref t1'], 1, rfl, by rw [decide_eq_true ht]; rfl, .inl (.inl upd_same), by simp, .inl ⟨rfl, cat_val (hd10.mono s12) hone (by rw [List.length_map]; show js.length + 1 ≤ _; omega) fun H11 u11 s11 hu11 => fin H11 u11 (s12.trans s11) ?_⟩⟩
              unfold padD
              rw [if_neg (by omega)]
              exact hu11
            · refine ⟨t2', [.ref t1'], 0, rfl, by rw [decide_eq_false ht]; rfl, .inl (.inl upd_same), by simp, .inr ⟨rfl, fun t3 n3 => ?_⟩⟩
              have s3 := same_put (o := .tup []) n3
              refine cat_val (es := []) (hd10.mono (s12.trans s3)) (.tup (xs := []) (.inl (.inl upd_same)) .nil) (by rw [List.length_map]; show js.length + 0 ≤ _; omega) fun H11 u11 s11 hu11 => fin H11 u11 ((s12.trans s3).trans s11) ?_
              unfold padD
              rw [if_pos (by omega)]
              rw [List.append_nil] at hu11
              exact hu11
        · rintro σ' H' Q1 Q2 hQ ⟨v, hv, x, is, e1, hd, hok, hni, h⟩
          refine ⟨v, hv, x, is, e1, hd, hok, hni, fun H'' s'' => ?_⟩
          obtain ⟨i', j', e2, e3, k, ek, hk⟩ := h H'' s''
          exact ⟨i', j', e2, e3, k, ek, hQ _ _ hk⟩
      · rintro σ' H2 ⟨y3, y4, y5, y6, y7, y8, y9, rfl, hb2, hp2⟩
        exact ⟨_, _, _, _, _, _, _, _, _, rfl, sq_bu hS1 np ss hb2⟩
    · rintro σ' H1 ⟨y1, y2, y3, y4, y5, y6, y7, y8, y9, rfl, hS1⟩
      exact q H1
end
end Ev

/-! ## What the top has written -/
namespace Ev
open PySem PySem.Spec PyProof.Rows L2
open PySem.W (typeIn keepIn codeIn nsIn)
def initB (K : PySem.W.Frag) (fI : Addr) (cd : Value) (q : Str) : Bool := (typeIn K (.ref fI) == some (.type "function")) && (codeIn K cd q && keepIn K (.ref fI))
theorem initB_ok {K : PySem.W.Frag} {fI : Addr} {cd : Value} {q : Str} (h : initB K fI cd q = true) : typeIn K (.ref fI) = some (.type "function") ∧ codeIn K cd q = true ∧ keepIn K (.ref fI) = true := by
  unfold initB at h
  simpa only [Bool.and_eq_true, beq_iff_eq] using h
theorem all_mk {P : Program} {w : World} {K : PySem.W.Frag} {h : Heap} {mg : Str → Option Value} {fa : Addr} (X : K.In h) (G : h.Ns mainGlobals mg) (hfa : mg "law" = some (.ref fa))
    {g1 : Addr} {ode1 ane1 : Option Addr} {sle1 : Array (Option Value)} {oce1 kVe1 dce1 pme1 cde1 cte1 : Value}
    {g3 : Addr} {ode3 ane3 : Option Addr} {sle3 : Array (Option Value)} {oce3 kVe3 dce3 pme3 cde3 cte3 : Value}
    {g4 : Addr} {ode4 ane4 : Option Addr} {sle4 : Array (Option Value)} {oce4 kVe4 dce4 pme4 cde4 cte4 : Value}
    {g5 : Addr} {ode5 ane5 : Option Addr} {sle5 : Array (Option Value)} {oce5 kVe5 dce5 pme5 cde5 cte5 : Value}
    {g6 : Addr} {ode6 ane6 : Option Addr} {sle6 : Array (Option Value)} {oce6 kVe6 dce6 pme6 cde6 cte6 : Value}
    {g7 : Addr} {ode7 ane7 : Option Addr} {sle7 : Array (Option Value)} {oce7 kVe7 dce7 pme7 cde7 cte7 : Value}
    {g8 : Addr} {ode8 ane8 : Option Addr} {sle8 : Array (Option Value)} {oce8 kVe8 dce8 pme8 cde8 cte8 : Value}
    {g9 : Addr} {ode9 ane9 : Option Addr} {sle9 : Array (Option Value)} {oce9 kVe9 dce9 pme9 cde9 cte9 : Value}
    (A1 : nsIn K mainGlobals "padded" = some (some (.ref g1)))
    (L1 : K.lookup g1 = some ⟨oce1, ode1, .func (PySem.W.fnOf "padded" "padded" (defArgs (topS 1)) (defBody (topS 1)) (defScope (topS 1)) .none kVe1 dce1 pme1 ane1 cde1 cte1), sle1⟩)
    (H1 : initB K g1 cde1 "padded" = true)
    (A3 : nsIn K mainGlobals "_law_stream" = some (some (.ref g3)))
    (L3 : K.lookup g3 = some ⟨oce3, ode3, .func (PySem.W.fnOf "_law_stream" "_law_stream" (defArgs (topS 3)) (defBody (topS 3)) (defScope (topS 3)) .none kVe3 dce3 pme3 ane3 cde3 cte3), sle3⟩)
    (H3 : initB K g3 cde3 "_law_stream" = true)
    (A4 : nsIn K mainGlobals "_law_draw" = some (some (.ref g4)))
    (L4 : K.lookup g4 = some ⟨oce4, ode4, .func (PySem.W.fnOf "_law_draw" "_law_draw" (defArgs (topS 4)) (defBody (topS 4)) (defScope (topS 4)) .none kVe4 dce4 pme4 ane4 cde4 cte4), sle4⟩)
    (H4 : initB K g4 cde4 "_law_draw" = true)
    (A5 : nsIn K mainGlobals "_law_pick" = some (some (.ref g5)))
    (L5 : K.lookup g5 = some ⟨oce5, ode5, .func (PySem.W.fnOf "_law_pick" "_law_pick" (defArgs (topS 5)) (defBody (topS 5)) (defScope (topS 5)) .none kVe5 dce5 pme5 ane5 cde5 cte5), sle5⟩)
    (H5 : initB K g5 cde5 "_law_pick" = true)
    (A6 : nsIn K mainGlobals "_law_line" = some (some (.ref g6)))
    (L6 : K.lookup g6 = some ⟨oce6, ode6, .func (PySem.W.fnOf "_law_line" "_law_line" (defArgs (topS 6)) (defBody (topS 6)) (defScope (topS 6)) .none kVe6 dce6 pme6 ane6 cde6 cte6), sle6⟩)
    (H6 : initB K g6 cde6 "_law_line" = true)
    (A7 : nsIn K mainGlobals "_law_items" = some (some (.ref g7)))
    (L7 : K.lookup g7 = some ⟨oce7, ode7, .func (PySem.W.fnOf "_law_items" "_law_items" (defArgs (topS 7)) (defBody (topS 7)) (defScope (topS 7)) .none kVe7 dce7 pme7 ane7 cde7 cte7), sle7⟩)
    (H7 : initB K g7 cde7 "_law_items" = true)
    (A8 : nsIn K mainGlobals "_law_size" = some (some (.ref g8)))
    (L8 : K.lookup g8 = some ⟨oce8, ode8, .func (PySem.W.fnOf "_law_size" "_law_size" (defArgs (topS 8)) (defBody (topS 8)) (defScope (topS 8)) .none kVe8 dce8 pme8 ane8 cde8 cte8), sle8⟩)
    (H8 : initB K g8 cde8 "_law_size" = true)
    (A9 : nsIn K mainGlobals "law" = some (some (.ref g9)))
    (L9 : K.lookup g9 = some ⟨oce9, ode9, .func (PySem.W.fnOf "law" "law" (defArgs (topS 9)) (defBody (topS 9)) (defScope (topS 9)) .none kVe9 dce9 pme9 ane9 cde9 cte9), sle9⟩)
    (H9 : initB K g9 cde9 "law" = true)
    (z_len : nsIn K mainGlobals "len" = some none)
    (z_abs : nsIn K mainGlobals "abs" = some none)
    (z_int : nsIn K mainGlobals "int" = some none)
    (z_bool : nsIn K mainGlobals "bool" = some none)
    (z_isinstance : nsIn K mainGlobals "isinstance" = some none)
    (z_range : nsIn K mainGlobals "range" = some none)
    (z_max : nsIn K mainGlobals "max" = some none)
    (z_min : nsIn K mainGlobals "min" = some none)
    (z_sum : nsIn K mainGlobals "sum" = some none)
    (z_repr : nsIn K mainGlobals "repr" = some none)
    (z_divmod : nsIn K mainGlobals "divmod" = some none)
    (z_tuple : nsIn K mainGlobals "tuple" = some none)
    (z_sorted : nsIn K mainGlobals "sorted" = some none)
    (z_set : nsIn K mainGlobals "set" = some none)
    (z_enumerate : nsIn K mainGlobals "enumerate" = some none)
    (z_zip : nsIn K mainGlobals "zip" = some none)
    (z_list : nsIn K mainGlobals "list" = some none)
    (z_dict : nsIn K mainGlobals "dict" = some none)
    (z_any : nsIn K mainGlobals "any" = some none)
    (z_all : nsIn K mainGlobals "all" = some none)
    (z_str : nsIn K mainGlobals "str" = some none)
    (z_reversed : nsIn K mainGlobals "reversed" = some none)
    : ∃ fd : FuncData, (∀ (s : Shared) (u : Value), BindsTo s fd ⟨[u], []⟩ [("_law_script", u)]) ∧
      ∀ base : Heap, K.In base → base.Ns mainGlobals mg → (∃ mm, base.Ns sysModules mm) → FnG P w K mg base CX0 8 fa fd ["_law_script"] (spLaw K) := by
  have e := hfa.symm.trans (PySem.W.mg_of X G A9)
  cases e
  obtain ⟨t1, u1, v1⟩ := initB_ok H1
  have F1 := fun_mk (st := topS 1) L1 u1 v1
  have m1 := PySem.W.mg_of X G A1
  have b1 := F1.binds (ps := ["program", "ticks"]) fun _ _ _ _ _ _ us hl => match us, hl with | [_, _], _ => rfl
  obtain ⟨t3, u3, v3⟩ := initB_ok H3
  have F3 := fun_mk (st := topS 3) L3 u3 v3
  have m3 := PySem.W.mg_of X G A3
  have b3 := F3.binds (ps := ["_law_script", "_law_k"]) fun _ _ _ _ _ _ us hl => match us, hl with | [_, _], _ => rfl
  obtain ⟨t4, u4, v4⟩ := initB_ok H4
  have F4 := fun_mk (st := topS 4) L4 u4 v4
  have m4 := PySem.W.mg_of X G A4
  have b4 := F4.binds (ps := ["_law_stream_here", "_law_many"]) fun _ _ _ _ _ _ us hl => match us, hl with | [_, _], _ => rfl
  obtain ⟨t5, u5, v5⟩ := initB_ok H5
  have F5 := fun_mk (st := topS 5) L5 u5 v5
  have m5 := PySem.W.mg_of X G A5
  have b5 := F5.binds (ps := ["_law_stream_here", "_law_some"]) fun _ _ _ _ _ _ us hl => match us, hl with | [_, _], _ => rfl
  obtain ⟨t6, u6, v6⟩ := initB_ok H6
  have F6 := fun_mk (st := topS 6) L6 u6 v6
  have m6 := PySem.W.mg_of X G A6
  have b6 := F6.binds (ps := ["_law_stream_here", "_law_most"]) fun _ _ _ _ _ _ us hl => match us, hl with | [_, _], _ => rfl
  obtain ⟨t7, u7, v7⟩ := initB_ok H7
  have F7 := fun_mk (st := topS 7) L7 u7 v7
  have m7 := PySem.W.mg_of X G A7
  have b7 := F7.binds (ps := ["_law_stream_here", "_law_many", "_law_deep", "_law_ticks", "_law_rounds"]) fun _ _ _ _ _ _ us hl => match us, hl with | [_, _, _, _, _], _ => rfl
  obtain ⟨t8, u8, v8⟩ := initB_ok H8
  have F8 := fun_mk (st := topS 8) L8 u8 v8
  have m8 := PySem.W.mg_of X G A8
  have b8 := F8.binds (ps := ["_law_items_here"]) fun _ _ _ _ _ _ us hl => match us, hl with | [_], _ => rfl
  obtain ⟨t9, u9, v9⟩ := initB_ok H9
  have F9 := fun_mk (st := topS 9) L9 u9 v9
  have m9 := PySem.W.mg_of X G A9
  have n_len := PySem.W.mg_none_of X G z_len
  have n_abs := PySem.W.mg_none_of X G z_abs
  have n_int := PySem.W.mg_none_of X G z_int
  have n_bool := PySem.W.mg_none_of X G z_bool
  have n_isinstance := PySem.W.mg_none_of X G z_isinstance
  have n_range := PySem.W.mg_none_of X G z_range
  have n_max := PySem.W.mg_none_of X G z_max
  have n_min := PySem.W.mg_none_of X G z_min
  have n_sum := PySem.W.mg_none_of X G z_sum
  have n_repr := PySem.W.mg_none_of X G z_repr
  have n_divmod := PySem.W.mg_none_of X G z_divmod
  have n_tuple := PySem.W.mg_none_of X G z_tuple
  have n_sorted := PySem.W.mg_none_of X G z_sorted
  have n_set := PySem.W.mg_none_of X G z_set
  have n_enumerate := PySem.W.mg_none_of X G z_enumerate
  have n_zip := PySem.W.mg_none_of X G z_zip
  have n_list := PySem.W.mg_none_of X G z_list
  have n_dict := PySem.W.mg_none_of X G z_dict
  have n_any := PySem.W.mg_none_of X G z_any
  have n_all := PySem.W.mg_none_of X G z_all
  have n_str := PySem.W.mg_none_of X G z_str
  have n_reversed := PySem.W.mg_none_of X G z_reversed
  have nb : NB mg := fun x hx => by
    rw [nbs] at hx
    rcases List.mem_cons.mp hx with rfl | hx
    · exact n_len
    rcases List.mem_cons.mp hx with rfl | hx
    · exact n_abs
    rcases List.mem_cons.mp hx with rfl | hx
    · exact n_int
    rcases List.mem_cons.mp hx with rfl | hx
    · exact n_bool
    rcases List.mem_cons.mp hx with rfl | hx
    · exact n_isinstance
    rcases List.mem_cons.mp hx with rfl | hx
    · exact n_range
    rcases List.mem_cons.mp hx with rfl | hx
    · exact n_max
    rcases List.mem_cons.mp hx with rfl | hx
    · exact n_min
    rcases List.mem_cons.mp hx with rfl | hx
    · exact n_sum
    rcases List.mem_cons.mp hx with rfl | hx
    · exact n_repr
    rcases List.mem_cons.mp hx with rfl | hx
    · exact n_divmod
    rcases List.mem_cons.mp hx with rfl | hx
    · exact n_tuple
    rcases List.mem_cons.mp hx with rfl | hx
    · exact n_sorted
    rcases List.mem_cons.mp hx with rfl | hx
    · exact n_set
    rcases List.mem_cons.mp hx with rfl | hx
    · exact n_enumerate
    rcases List.mem_cons.mp hx with rfl | hx
    · exact n_zip
    rcases List.mem_cons.mp hx with rfl | hx
    · exact n_list
    rcases List.mem_cons.mp hx with rfl | hx
    · exact n_dict
    rcases List.mem_cons.mp hx with rfl | hx
    · exact n_any
    rcases List.mem_cons.mp hx with rfl | hx
    · exact n_all
    rcases List.mem_cons.mp hx with rfl | hx
    · exact n_str
    rcases List.mem_cons.mp hx with rfl | hx
    · exact n_reversed
    cases hx
  refine ⟨PySem.W.fnOf "law" "law" (defArgs (topS 9)) (defBody (topS 9)) (defScope (topS 9)) .none kVe9 dce9 pme9 ane9 cde9 cte9, fun s u => .of_eq rfl, fun base _ _ hm => ?_⟩
  have D_padded : Def K mg "padded" (topS 1) ["program", "ticks"] := ⟨_, _, F1, b1, m1⟩
  have D__law_stream : Def K mg "_law_stream" (topS 3) ["_law_script", "_law_k"] := ⟨_, _, F3, b3, m3⟩
  have D__law_draw : Def K mg "_law_draw" (topS 4) ["_law_stream_here", "_law_many"] := ⟨_, _, F4, b4, m4⟩
  have D__law_pick : Def K mg "_law_pick" (topS 5) ["_law_stream_here", "_law_some"] := ⟨_, _, F5, b5, m5⟩
  have D__law_line : Def K mg "_law_line" (topS 6) ["_law_stream_here", "_law_most"] := ⟨_, _, F6, b6, m6⟩
  have D__law_items : Def K mg "_law_items" (topS 7) ["_law_stream_here", "_law_many", "_law_deep", "_law_ticks", "_law_rounds"] := ⟨_, _, F7, b7, m7⟩
  have D__law_size : Def K mg "_law_size" (topS 8) ["_law_items_here"] := ⟨_, _, F8, b8, m8⟩
  have Flaw := F9
  have C1 := ok_stream (P := P) (w := w) (base := base) D__law_stream nb
  have C2 := ok_draw (P := P) (w := w) (base := base) D__law_draw nb
  have C3 := ok_pick D__law_pick C2 nb
  have C4 := ok_line D__law_line C2 C3 nb
  have C5 := ok_itemsB D__law_items C2 C4 nb 3
  have C6 := ok_size (P := P) (w := w) (base := base) (B := 64) D__law_size nb 3
  have C7 := ok_padded (P := P) (w := w) (base := base) D_padded nb
  exact ok_law hm Flaw C1 C2 C3 C4 C5 C6 C7 nb
end Ev

open PySem PySem.W PyProof.Rows
set_option maxRecDepth 100000 in
set_option maxHeartbeats 0 in
theorem PySem.Challenge.cw_evensamples_k48_programs_padded_holds : PySem.Challenge.rw_evensamples_k48_programs_padded.Holds := by
  w_on; o_law; k_head; (case hw => w_witness2)
  k_fill
  refine Ev.walkG (l := PySem.Challenge.rw_evensamples_k48_programs_padded) (n := 63) (k := 8) (x := "_law_script") (CX := L2.CX0) (sp := Ev.spLaw) ?noImports rfl (by decide) rfl ⟨rfl, by decide, by decide⟩ (fun w h Y => PySem.W.kIn_of Y) ?F
    (fun _ _ a ns _ _ hS => ⟨a, ns, rfl, hS, fun _ => rfl⟩) (fun _ _ _ _ h => h)
  case noImports => decide +kernel
  case F =>
    intro w mg fa h KX G hmg
    refine' Ev.all_mk KX G hmg ?A1 ?L1 ?H1 ?A3 ?L3 ?H3 ?A4 ?L4 ?H4 ?A5 ?L5 ?H5 ?A6 ?L6 ?H6 ?A7 ?L7 ?H7 ?A8 ?L8 ?H8 ?A9 ?L9 ?H9 ?z_len ?z_abs ?z_int ?z_bool ?z_isinstance ?z_range ?z_max ?z_min ?z_sum ?z_repr ?z_divmod ?z_tuple ?z_sorted ?z_set ?z_enumerate ?z_zip ?z_list ?z_dict ?z_any ?z_all ?z_str ?z_reversed
    (case A1 => k_is)
    (case L1 => k_is)
    (case H1 => kernel_rfl)
    (case A3 => k_is)
    (case L3 => k_is)
    (case H3 => kernel_rfl)
    (case A4 => k_is)
    (case L4 => k_is)
    (case H4 => kernel_rfl)
    (case A5 => k_is)
    (case L5 => k_is)
    (case H5 => kernel_rfl)
    (case A6 => k_is)
    (case L6 => k_is)
    (case H6 => kernel_rfl)
    (case A7 => k_is)
    (case L7 => k_is)
    (case H7 => kernel_rfl)
    (case A8 => k_is)
    (case L8 => k_is)
    (case H8 => kernel_rfl)
    (case A9 => k_is)
    (case L9 => k_is)
    (case H9 => kernel_rfl)
    (case z_len => k_is)
    (case z_abs => k_is)
    (case z_int => k_is)
    (case z_bool => k_is)
    (case z_isinstance => k_is)
    (case z_range => k_is)
    (case z_max => k_is)
    (case z_min => k_is)
    (case z_sum => k_is)
    (case z_repr => k_is)
    (case z_divmod => k_is)
    (case z_tuple => k_is)
    (case z_sorted => k_is)
    (case z_set => k_is)
    (case z_enumerate => k_is)
    (case z_zip => k_is)
    (case z_list => k_is)
    (case z_dict => k_is)
    (case z_any => k_is)
    (case z_all => k_is)
    (case z_str => k_is)
    (case z_reversed => k_is)

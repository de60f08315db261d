import PyProof.Rows.All
import Wide.All
import OpenK.AllK
import Wide.FinOn
import PySem.Challenge.RW_evensamples_k16_floor_sums
import HandS.ForMost
import HandS.Wide
import HandS.More
import HandS.WideBits
import HandS.Style
set_option Elab.async false
set_option linter.all false
set_option maxRecDepth 100000
set_option maxHeartbeats 4000000
/-! ## Promises of defs that are called while no repr is under way -/
namespace Ev
open PySem PySem.Spec PyProof.Rows L2

/-- the promise of a def, for a stack without a repr that is under way -/
structure FnG (P : Program) (w : World) (K : PySem.W.Frag) (mg : Str → Option Value)
    (base : Heap) (CX : CXT) (k : Nat) (f : Addr) (fd : FuncData) (ps : List Str) (sp : Sp) : Prop where
  many : ∀ vs H Q E, sp vs H Q E → vs.length = ps.length
  go : ∀ (A : Around) (outer : List Env) (s : Shared) (H : Hp) (args : Args)
      (us : List Value) (vs : List V) (Q : VK) (E : XK),
    Room k A → A.guards = some [] → Env0 P w K mg base A outer s H → BindsTo s fd args (ps.zip us) →
      Vals vs us → sp vs H Q E → codeAny (model P w) A (.call (.ref f) args) (CR CX outer P w H s Q E) s

section
variable {P : Program} {w : World} {K : PySem.W.Frag} {mg : Str → Option Value} {base : Heap} {CX : CXT}
variable {k : Nat} {f : Addr} {fd : FuncData} {ps : List Str} {sp : Sp}
theorem FnG.of (F : FnOk P w K mg base CX k f fd ps sp) : FnG P w K mg base CX k f fd ps sp :=
  ⟨F.len, fun A o s H args us vs Q E hr _ => F.run A o s H args us vs Q E hr⟩
theorem FnG.up {j : Nat} (F : FnG P w K mg base CX j f fd ps sp) (h : j ≤ k) : FnG P w K mg base CX k f fd ps sp :=
  ⟨F.many, fun A o s H args us vs Q E hr => F.go A o s H args us vs Q E (hr.mono h)⟩
end

section
variable {X : Cx} {CX : CXT} {k : Nat} {f : Addr} {fd : FuncData} {ps : List Str} {sp : Sp}
variable {dvs : List V} {ds : List Value} {E : XK} {x : Str} {p pos : Pos} {e : Expr} {es : List Expr} {t : TA}
theorem runG {pins : List (Addr × Obj)} {σ : L2.St} {H : Hp} {s : Shared} {Q : VK} {us : List Value} {vs : List V}
    (F : FnG X.prog X.w X.K X.mg X.base CX k f fd ps sp) (hr : Room k X.A) (gd : X.A.guards = some [])
    (hb : Binds X.K fd ps ds) (hd : Vals dvs ds) (hx : Passes CX X E) (I : Inv X pins σ H s) (r : Vals vs us)
    (h : sp (vs ++ dvs) H Q E) : wpAny (model X.prog X.w) X.A (call (.ref f) us) (EP X pins σ Q) X.xe s := by
  have rr : Vals (vs ++ dvs) (us ++ ds) := r.append hd
  have hl : (us ++ ds).length = ps.length := rr.length.symm.trans (F.many _ _ _ _ h)
  have z := F.go X.A X.stack s H ⟨us, []⟩ (us ++ ds) (vs ++ dvs) Q E hr gd I.env0 (hb s us I.kIn hl) rr h
  refine wpAny_call (codeAny_mono z fun res s' hq => ?_)
  match res, hq with
  | .error e, hq => exact hx pins σ H s e s' I hq
  | .ok (.ret u), hq => exact I.after hq
  | .ok .next, hq => exact False.elim hq
  | .ok .brk, hq => exact False.elim hq
  | .ok .cont, hq => exact False.elim hq
theorem pe_callG (F : FnG X.prog X.w X.K X.mg X.base CX k f fd ps sp) (hr : Room k X.A) (gd : X.A.guards = some [])
    (hg : Gl X x) (hm : X.mg x = some (.ref f)) (hk : PySem.W.keepIn X.K (.ref f) = true) (hb : Binds X.K fd ps ds)
    (hd : Vals dvs ds) (hx : Passes CX X E) (ha : PA X (e :: es) t)
    (hdb : (x == ("__debug__" : Str)) = false := by decide)
    (he : starEach (e :: es) X.env = (false, eval e X.env) :: starEach es X.env := by rfl)
    (hpl : (backTo pos (starEach es X.env)).any (·.1) = false := by rfl) :
    PE X (.Call (.Name x p) (e :: es) [] pos) (tCall sp dvs E t) := by
  constructor
  intro pins s σ H Q I h
  refine wpAny_Call_Name_kw (ld_glob I hg hm ?_ hdb)
  have z := ha.run pos pins s σ H _ I h
  refine PySem.W.callWith_K (h₀ := X.base) I.ok.mod.kin hk (thn z ?_) he hpl
  rintro us s1 ⟨vs, H1, I1, r, q⟩
  exact ⟨I1.kIn, runG F hr gd hb hd hx I1 r q⟩
theorem pe_callG0 (F : FnG X.prog X.w X.K X.mg X.base CX k f fd ps sp) (hr : Room k X.A) (gd : X.A.guards = some [])
    (hg : Gl X x) (hm : X.mg x = some (.ref f)) (hk : PySem.W.keepIn X.K (.ref f) = true) (hb : Binds X.K fd ps ds)
    (hd : Vals dvs ds) (hx : Passes CX X E) (hdb : (x == ("__debug__" : Str)) = false := by decide) :
    PE X (.Call (.Name x p) [] [] pos) (tCall sp dvs E tNil) := by
  constructor
  intro pins s σ H Q I h
  refine wpAny_Call_Name_kw (ld_glob I hg hm ?_ hdb)
  have z := runG (us := []) F hr gd hb hd hx I .nil h
  exact PySem.W.callWith_K0 I.kIn hk z
end

/-- a def by its body -/
theorem fnG_of {CX : CXT} {P : Program} {w : World} {K : PySem.W.Frag} {mg : Str → Option Value} {base : Heap}
    {k : Nat} {f : Addr} {name qual : Str} {params : Arguments} {body : List Stmt} {scope : Scope}
    {dV kV doc pm cdv ct oc : Value} {an od : Option Addr} {osl : Array (Option Value)} {N ps : List Str} {sp : Sp}
    (lk : K.lookup f = some ⟨oc, od, .func (PySem.W.fnOf name qual params body scope dV kV doc pm an cdv ct), osl⟩)
    (hcd : PySem.W.codeIn K cdv qual = true) (S : FnScope N ps scope)
    (len : ∀ vs H Q E, sp vs H Q E → vs.length = ps.length)
    (hbody : ∀ (A : Around) (outer : List Env) (s : Shared) (H : Hp) (vs : List V) (Q : VK) (E : XK),
      Room k (A.deeper (envOfC qual scope s.heap.objs.size f cdv)) → A.guards = some [] → sp vs H Q E →
      ∃ t, PSs (cxOf CX P w K mg base N qual scope f cdv A outer s H E) body t ∧
        t { nx := fun _ H' => Q .non H', rt := Q } (start N vs) H) :
    FnG P w K mg base CX (k + 1) f (PySem.W.fnOf name qual params body scope dV kV doc pm an cdv ct) ps sp := by
  constructor
  · exact len
  intro A outer s H args us vs Q E hr gd e0 hb r hsp
  have old : ∀ b o, base.get? b = some o → s.heap.get? b = some o := fun b o e => (e0.bs b o e).1
  have KX : K.In s.heap := e0.mod.kin.keeps old
  have lim : s.heap.NoLimit := e0.mod.nolimit.keeps old
  have hkind : ∀ y ∈ ps.zip us, scope.names.lookup y.1 = some .local ∨
      (scope.names.lookup y.1 = some .cell ∧
        ((cellsFrom (s.heap.objs.size + 1) scope.names []).lookup y.1).isSome = true) := by
    rintro ⟨n, v⟩ hy
    have hn := (List.of_mem_zip hy).1
    rcases S.par n hn with q | q
    · exact Or.inl q
    · exact Or.inr ⟨q, PySem.W.cellsFrom_some _ _ _ (Or.inl q)⟩
  refine codeAny_call_function hr.depth (KX _ _ lk) rfl S.co S.gen rfl (PySem.W.codeRec_of KX hcd) (hb _ _ _ _ ?_)
  refine wpAny_newFunctionEnv_cells S.kind hkind ?_
  rintro env rfl s1 x
  refine ⟨lim.keeps x.toInCall.keep, codeAny_func ?_⟩
  obtain ⟨t, ht, hq⟩ := hbody A outer s H vs Q E (hr.deeper _) gd hsp
  have I := inv_start (CX := CX) (E := E) S hr.hd e0 (len _ _ _ _ hsp) r x
  refine wpAny_mono (ht.run [] s1 (start N vs) H _ I hq) ?_ (fun _ _ z => z)
  intro fl s' hs
  match fl, hs with
  | .ret u, ⟨v, σ', H', J, rv, q⟩ => exact ⟨v, H', J.os, J.bare, J.base, J.hok, rv, q⟩
  | .next, ⟨σ', H', J, q⟩ => exact ⟨V.non, H', J.os, J.bare, J.base, J.hok, rfl, q⟩
  | .brk, ⟨_, _, _, q⟩ => exact False.elim q
  | .cont, ⟨_, _, _, q⟩ => exact False.elim q

section
variable {P : Program} {w : World} {K : PySem.W.Frag} {mg : Str → Option Value} {base : Heap}
theorem okG {x qual : Str} {st : Stmt} {f : Addr} {fd : FuncData} {N ps : List Str} {k : Nat} {sp : Sp}
    (F : Fun K x qual st f fd) (S : FnScope N ps (defScope st))
    (len : ∀ vs H Q E, sp vs H Q E → vs.length = ps.length)
    (hbody : ∀ (cdv : Value) (A : Around) (outer : List Env) (s : Shared) (H : Hp) (vs : List V) (Q : VK) (E : XK),
      Room k (A.deeper (envOfC qual (defScope st) s.heap.objs.size f cdv)) → A.guards = some [] → sp vs H Q E →
      ∃ t, PSs (cxOf CX0 P w K mg base N qual (defScope st) f cdv A outer s H E).nox (defBody st) t ∧
        t { nx := fun _ H' => Q .non H', rt := Q } (start N vs) H) :
    FnG P w K mg base CX0 (k + 1) f fd ps sp := by
  obtain ⟨oc, od, kV, doc, pm, an, cdv, ct, osl, e, lk, hcd⟩ := F.ex
  subst e
  refine fnG_of lk hcd S len ?_
  intro A outer s H vs Q E hr gd hsp
  obtain ⟨t, h, q⟩ := hbody cdv A outer s H vs Q E hr gd hsp
  exact ⟨t, h.nox, q⟩
end

/-! ### the end of a law, by such a promise -/
theorem law_end {P : Program} {w : World} {K : PySem.W.Frag} {mg mb : Str → Option Value} {CX : CXT} {k : Nat}
    {fa a : Addr} {fd : FuncData} {x : Str} {sp : Sp} {s₁ : Shared} {vs : List Value} {ns : List Int}
    (KX : K.In s₁.heap) (hns : s₁.heap.Ns mainGlobals mg) (hb : s₁.heap.Ns builtinsNs mb)
    (hbb : ∀ x : Str, x ≠ "__name__" → mb x = bootBuiltins x) (hlim : s₁.heap.NoLimit) (hg : s₁.gens = #[])
    (ha : s₁.heap.get? a = some { cls := .type "list", data := .seq vs.toArray }) (hi : IntsAre vs ns)
    (hl : ns.length ≤ sizeLine) (hr : Room k callerA) (hsm : ∃ mm, s₁.heap.Ns sysModules mm)
    (F : ∀ base : Heap, K.In base → base.Ns mainGlobals mg → (∃ mm, base.Ns sysModules mm) → FnG P w K mg base CX k fa fd [x] sp)
    (hbind : ∀ (s : Shared) (u : Value), BindsTo s fd ⟨[u], []⟩ [(x, u)])
    (hsp : ∀ H : Hp, Only H → SqL K H a (ns.map V.int) → sp [.ref a] H (fun v _ => v = .bl true) fun _ _ _ => False)
    (hCX : ∀ H e s', CX [] H s₁ (fun _ _ _ => False) e s' → False) :
    codeAny (model P w) callerA (.call (.ref fa) ⟨[.ref a], []⟩)
      (fun r s' => r = .ok (.ret (.bool true)) ∧ OldK s₁.heap s'.heap ∧ s'.os = s₁.os ∧ AllBare s'.gens) s₁ := by
  have rv := vals_ints hi
  have lenV := hi.length
  have core : ∀ H : Hp, Only H → SqL K H a (ns.map V.int) → HOk P w H s₁.heap → (∀ b, H b ≠ none → b = a) →
      (H a ≠ none → K.lookup a = none) →
      codeAny (model P w) callerA (.call (.ref fa) ⟨[.ref a], []⟩)
        (fun r s' => r = .ok (.ret (.bool true)) ∧ OldK s₁.heap s'.heap ∧ s'.os = s₁.os ∧ AllBare s'.gens) s₁ := by
    intro H hO hS hok hA hK
    have at_a : ∀ {b : Addr} {u : HO}, H b = some u → b = a := fun {b u} q => hA b (by rw [q]; simp)
    have noA : ∀ {b : Addr} {o : Obj} {es : Array DictEntry} {ep : Nat}, s₁.heap.get? b = some o →
        o.data = .dict es ep → H b = none := by
      intro b o es ep e d
      cases q : H b with
      | none => rfl
      | some u =>
        rw [at_a q, ha] at e
        cases e
        exact nomatch d
    have nsK : ∀ {b : Addr} {m : Str → Option Value}, s₁.heap.Ns b m → (hidT s₁.heap H).Ns b m := by
      rintro b m ⟨o, es, ep, e, d, r⟩
      exact ⟨o, es, ep, hidT_get e (noA e d), d, r⟩
    have hKb : K.In (hidT s₁.heap H) := by
      intro b o e
      refine hidT_get (KX b o e) ?_
      cases q : H b with
      | none => rfl
      | some u =>
        have e' := at_a q
        subst e'
        rw [hK (by rw [q]; simp)] at e
        cases e
    have hM : Mod K mg (hidT s₁.heap H) := by
      obtain ⟨mc, h1, h2⟩ := hlim
      exact ⟨hKb, nsK hns, ⟨mb, nsK hb, hbb⟩, ⟨mc, nsK h1, h2⟩⟩
    have e0 : Env0 P w K mg (hidT s₁.heap H) callerA [] s₁ H := by
      refine ⟨rfl, hM, fun b o e => of_hidT e, Nat.le_of_eq (hidT_size _ _), trivial, ?_, hok, .of_eq hg⟩
      intro b hb
      exact absurd (show b ∈ ([] : List Addr) from hb) (by simp)
    have hmods : ∃ mm, (hidT s₁.heap H).Ns sysModules mm := by
      obtain ⟨mm, h1⟩ := hsm
      exact ⟨mm, nsK h1⟩
    have z := (F _ hKb (nsK hns) hmods).go callerA [] s₁ H ⟨[.ref a], []⟩ [.ref a] [.ref a] _ _ hr rfl e0
      (hbind s₁ (.ref a)) (.cons rfl .nil) (hsp H hO hS)
    refine codeAny_mono z fun r s' h => ?_
    match r, h with
    | .error e, h => exact (hCX H e s' h).elim
    | .ok .next, h => exact False.elim h
    | .ok .brk, h => exact False.elim h
    | .ok .cont, h => exact False.elim h
    | .ok (.ret u), ⟨v, H', os, bare, un, hok', r', q⟩ =>
      have q' : v = .bl true := q
      subst q'
      obtain rfl : u = Value.bool true := r'
      refine ⟨rfl, OldK.of_keep ?_, os, bare⟩
      intro b o e
      cases q : H b with
      | none =>
        refine un.keep b o e q ?_ (by simp)
        intro z
        exact absurd (show b ∈ ([] : List Addr) from z) (by simp)
      | some u =>
        rcases hO b with z | ⟨ob, xs, z⟩
        · rw [q] at z
          cases z
        · obtain ⟨e1, _⟩ := hok b _ z
          obtain ⟨e2, _⟩ := hok' b _ (un.frzs b ob _ z)
          rw [e] at e1
          cases e1
          exact e2
  cases hk : K.lookup a with
  | some o =>
    have e := KX a o hk
    rw [ha] at e
    cases e
    refine core (fun _ => none) (fun _ => Or.inl rfl) (Or.inr ⟨_, vs.toArray, _, hk, rfl, rfl, rfl, ?_, ?_⟩) ?_ ?_ ?_
    · rw [List.size_toArray, lenV]
      exact hl
    · simpa using rv
    · intro b u z
      cases (show (none : Option HO) = some u from z)
    · intro b z
      exact absurd rfl z
    · intro z
      exact absurd rfl z
  | none =>
    let o₁ : Obj := { cls := .type "list", data := .seq vs.toArray }
    let H₁ : Hp := fun b => if b = a then some (.frz o₁ (.lst (ns.map V.int))) else none
    have at1 : H₁ a = some (.frz o₁ (.lst (ns.map V.int))) := if_pos rfl
    have off : ∀ b, b ≠ a → H₁ b = none := fun b h => if_neg h
    refine core H₁ (fun b => ?_) (Or.inl (Or.inr ⟨o₁, at1⟩)) (fun b u z => ?_) (fun b z => ?_) fun _ => hk
    · by_cases hb : b = a
      · subst hb
        exact Or.inr ⟨_, _, at1⟩
      · exact Or.inl (off b hb)
    · by_cases hb : b = a
      · subst hb
        rw [at1] at z
        cases z
        refine ⟨ha, ?_, vs, _, rv, ha⟩
        rw [List.length_map]
        exact hl
      · rw [off b hb] at z
        cases z
    · by_cases hb : b = a
      · exact hb
      · exact absurd (off b hb) z

theorem walkG {l : PySem.W.OpenLaw} {n k : Nat} {q : Program} {loose : List Str} {XP : (Str → Option Value) → Heap → Prop}
    {YP : World → Heap → Prop} {d : DefRec} {K : Params → PySem.W.Frag} {CX : CXT} {sp : PySem.W.Frag → Sp} {x : Str}
    (hq : importsNone q = true) (hn : l.most = some n) (hn2 : n ≤ sizeLine) (hdf : d.params.defaults = []) (hr : Room k callerA)
    (hY : ∀ (w : World) (h : Heap), YP w h → (K w.params).In h)
    (F : ∀ (w : World) (mg : Str → Option Value) (fa : Addr) (h : Heap), (K w.params).In h → h.Ns mainGlobals mg →
      mg d.name = some (.ref fa) →
      ∃ fd : FuncData, (∀ (s : Shared) (u : Value), BindsTo s fd ⟨[u], []⟩ [(x, u)]) ∧
        ∀ base : Heap, (K w.params).In base → base.Ns mainGlobals mg → (∃ mm, base.Ns sysModules mm) →
          FnG l.prog w (K w.params) mg base CX k fa fd [x] (sp (K w.params)))
    (hsp : ∀ (K : PySem.W.Frag) (H : Hp) (a : Addr) (ns : List Int), ns.length ≤ n → Only H →
      SqL K H a (ns.map V.int) → sp K [.ref a] H (fun v _ => v = .bl true) fun _ _ _ => False)
    (hCX : ∀ (H : Hp) (s : Shared) (e : Value) (s' : Shared), CX [] H s (fun _ _ _ => False) e s' → False) :
    PySem.W.WalkO q loose XP YP l.row.toRowW d [] (fun f vs => PySem.call f vs) := by
  refine Att.attach_call hn hdf ?_
  intro w s₀ s₁ mg mb fa o pm cd doc a vs ns G Y ho hd hcd hmg hobj hints hlen hg
  have KX := hY w _ Y
  obtain ⟨fd, hb, hF⟩ := F w mg fa _ KX G.T.g hmg
  have hz := Nat.le_trans hlen hn2
  obtain ⟨mm, hmm, _⟩ := (G.T.seer hq).mods
  refine law_end KX G.T.g G.T.b G.T.builtins G.T.nolimit hg hobj hints hz hr ⟨mm, hmm⟩ hF hb ?_ ?_
  · exact fun H hO hS => hsp _ H a ns hlen hO hS
  · exact fun H e s' => hCX H s₁ e s'

/-! ### powers of great numbers -/
def CPowG (i j : Int) : Prop := 0 ≤ j ∧ (Builtin.Int.intBits i : Int) * j ≤ 2 ^ 27
theorem op_powG {X : Cx} : OpR X (binaryOp .Pow) (rI CPowG fun i j => .int (i ^ j.toNat)) :=
  opI fun _ _ _ _ _ _ _ hc q => pow_int hc.1 hc.2 q

/-! ### data at any depth, dicts among them -/
def kD : Key → PyData
  | .inl i => .int i
  | .inr x => .str x
mutual
inductive Da (K : PySem.W.Frag) (H : Hp) : V → PyData → Prop
  | non : Da K H .non .none
  | bl (b : Bool) : Da K H (.bl b) (.bool b)
  | int (i : Int) : Da K H (.int i) (.int i)
  | str (x : Str) : Da K H (.str x) (.str x)
  | lst {a : Addr} {xs : List V} {ds : List PyData} (h : SqL K H a xs) (t : DaAll K H xs ds) : Da K H (.ref a) (.list ds)
  | tup {a : Addr} {xs : List V} {ds : List PyData} (h : SqT K H a xs) (t : DaAll K H xs ds) : Da K H (.ref a) (.tuple ds)
  | dic {a : Addr} {kvs : List (Key × V)} {ds : List (PyData × PyData)} (h : H a = some (.dK kvs)) (t : DaKv K H kvs ds) : Da K H (.ref a) (.dict ds)
inductive DaAll (K : PySem.W.Frag) (H : Hp) : List V → List PyData → Prop
  | nil : DaAll K H [] []
  | cons {v : V} {vs : List V} {d : PyData} {ds : List PyData} (h : Da K H v d) (t : DaAll K H vs ds) : DaAll K H (v :: vs) (d :: ds)
inductive DaKv (K : PySem.W.Frag) (H : Hp) : List (Key × V) → List (PyData × PyData) → Prop
  | nil : DaKv K H [] []
  | cons {k : Key} {v : V} {kvs : List (Key × V)} {d : PyData} {ds : List (PyData × PyData)} (h : Da K H v d) (t : DaKv K H kvs ds) :
      DaKv K H ((k, v) :: kvs) ((kD k, d) :: ds)
end
section
variable {K : PySem.W.Frag} {H H' : Hp}
theorem seqT_mono (s : Same H H') {a : Addr} {xs : List V} (h : SqT K H a xs) : SqT K H' a xs := by
  rcases h with (e | ⟨o, e⟩) | e
  · exact .inl (.inl (s _ _ e))
  · exact .inl (.inr ⟨o, s _ _ e⟩)
  · exact .inr e
mutual
theorem Da.mono (s : Same H H') : ∀ {v : V} {d : PyData}, Da K H v d → Da K H' v d
  | _, _, .non => .non
  | _, _, .bl b => .bl b
  | _, _, .int i => .int i
  | _, _, .str x => .str x
  | _, _, .lst h t => .lst (s.seq h) (DaAll.mono s t)
  | _, _, .tup h t => .tup (seqT_mono s h) (DaAll.mono s t)
  | _, _, .dic h t => .dic (s _ _ h) (DaKv.mono s t)
theorem DaAll.mono (s : Same H H') : ∀ {vs : List V} {ds : List PyData}, DaAll K H vs ds → DaAll K H' vs ds
  | _, _, .nil => .nil
  | _, _, .cons h t => .cons (Da.mono s h) (DaAll.mono s t)
theorem DaKv.mono (s : Same H H') : ∀ {vs : List (Key × V)} {ds : List (PyData × PyData)}, DaKv K H vs ds → DaKv K H' vs ds
  | _, _, .nil => .nil
  | _, _, .cons h t => .cons (Da.mono s h) (DaKv.mono s t)
end
end
section
variable {X : Cx} {pins : List (Addr × Obj)} {σ : L2.St} {H : Hp} {s : Shared}
theorem key_reads {h : Heap} {k : Key} {u : Value} (e : keyIs k u = true) : Reads h u (kD k) [] := by
  rcases keyIs_shape e with ⟨i, t, rfl, rfl⟩ | ⟨x, t, rfl, rfl⟩
  · exact .int i t
  · exact .str x t
/-- a list does not stand where the modules' dict stands -/
theorem not_mods (hm : ∃ mm, X.base.Ns sysModules mm) (I : Inv X pins σ H s) {a : Addr} {o : Obj} {vs : Array Value} {n : Nat}
    (ho : s.heap.get? a = some o) (hd : o.data = .seq vs n) : sysModules ≠ a := by
  rintro rfl
  obtain ⟨mm, om, es, ep, e1, e2, _⟩ := hm
  have e3 := I.bk _ _ e1
  rw [ho] at e3
  cases e3
  rw [hd] at e2
  cases e2
mutual
theorem Da.reads (hm : ∃ mm, X.base.Ns sysModules mm) (I : Inv X pins σ H s) : ∀ (d : PyData) (v : V) (u : Value), Da X.K H v d → RelV v u → ∃ as, Reads s.heap u d as ∧ sysModules ∉ as
  | .none, _, _, h, r => by
    cases h
    cases r
    exact ⟨_, .none, by simp⟩
  | .bool b, _, _, h, r => by
    cases h
    cases r
    exact ⟨_, .bool b, by simp⟩
  | .int i, _, _, h, r => by
    cases h
    obtain ⟨t, rfl⟩ := r
    exact ⟨_, .int i t, by simp⟩
  | .str x, _, _, h, r => by
    cases h
    obtain ⟨t, rfl⟩ := r
    exact ⟨_, .str x t, by simp⟩
  | .list ds, _, _, h, r => by
    cases h with
    | lst hs ha =>
      cases r
      obtain ⟨its, rv, ⟨o, n, ho, hc, _, hd⟩, _⟩ := I.list hs
      obtain ⟨as, hr, no⟩ := Da.readsAll hm I ds _ its ha rv
      refine ⟨_, .list ho hc hd hr, ?_⟩
      rw [List.mem_cons, not_or]
      exact ⟨not_mods hm I ho hd, no⟩
  | .tuple ds, _, _, h, r => by
    cases h with
    | tup hs ha =>
      cases r
      obtain ⟨its, rv, ⟨o, ho, hc, n, hd⟩, _⟩ := I.tuple hs
      obtain ⟨as, hr, no⟩ := Da.readsAll hm I ds _ its ha rv
      exact ⟨_, .tuple ho hc hd hr, no⟩
  | .dict ds, _, _, h, r => by
    cases h with
    | @dic a kvs _ he hk =>
      cases r
      have ok : ObjOk X.prog X.w H s.heap a (.dK kvs) := I.hok a _ he
      obtain ⟨_, ns, vs, kv, o, es, ep, ho, ex, hd, _, ps, _⟩ := ok
      obtain ⟨as, bs, h1, h2, n1, n2⟩ := Da.readsKv hm I ds kvs vs es.toList hk kv ps
      refine ⟨_, .dict ho ex.1 hd h1 h2, ?_⟩
      rw [List.mem_append, List.mem_cons, not_or, not_or]
      refine ⟨⟨fun z => ?_, n1⟩, n2⟩
      rw [← z] at ns
      exact absurd ns (by decide)
theorem Da.readsAll (hm : ∃ mm, X.base.Ns sysModules mm) (I : Inv X pins σ H s) : ∀ (ds : List PyData) (vs : List V) (us : List Value), DaAll X.K H vs ds → Vals vs us → ∃ as, ReadsAll s.heap us ds as ∧ sysModules ∉ as
  | [], _, _, h, r => by
    cases h
    cases r
    exact ⟨_, .nil, by simp⟩
  | d :: ds, _, _, h, r => by
    cases h with
    | cons h1 h2 =>
      cases r with
      | cons r1 r2 =>
        obtain ⟨as, q1, n1⟩ := Da.reads hm I d _ _ h1 r1
        obtain ⟨bs, q2, n2⟩ := Da.readsAll hm I ds _ _ h2 r2
        refine ⟨_, .cons q1 q2, ?_⟩
        rw [List.mem_append, not_or]
        exact ⟨n1, n2⟩
theorem Da.readsKv (hm : ∃ mm, X.base.Ns sysModules mm) (I : Inv X pins σ H s) : ∀ (ds : List (PyData × PyData)) (kvs : List (Key × V)) (vs : List (Key × Value)) (es : List DictEntry), DaKv X.K H kvs ds → KV kvs vs →
    Pairs (mixKind X.prog X.w) es vs → ∃ as bs, ReadsAll s.heap (es.map (·.key)) (ds.map (·.1)) as ∧ ReadsAll s.heap (es.map (·.val)) (ds.map (·.2)) bs ∧ sysModules ∉ as ∧ sysModules ∉ bs
  | [], _, _, _, h, r, p => by
    cases h
    cases r
    cases p
    exact ⟨_, _, .nil, .nil, by simp, by simp⟩
  | d :: ds, _, _, _, h, r, p => by
    cases h with
    | cons h1 h2 =>
      cases r with
      | cons r1 r2 =>
        cases p with
        | cons p1 p2 p3 =>
          obtain ⟨e1, e2⟩ := r1
          obtain ⟨as, q1, n1⟩ := Da.reads hm I _ _ _ h1 e2
          obtain ⟨cs, bs, q2, q3, n2, n3⟩ := Da.readsKv hm I ds _ _ _ h2 r2 p3
          rw [← p2] at q1
          rw [← e1] at p1
          refine ⟨_, _, .cons (key_reads p1) q2, .cons q1 q3, by simpa using n2, ?_⟩
          rw [List.mem_append, not_or]
          exact ⟨n1, n3⟩
end
end
/-! ### repr of data -/
def rRepr (K : PySem.W.Frag) : List V → Hp → VK → Prop := fun xs H Q =>
  ∃ (a : Addr) (d : PyData), xs = [.ref a] ∧ Da K H (.ref a) d ∧ d.showable = true ∧ d.depth ≤ 64 ∧ d.shown.length ≤ sizeLine ∧ Q (.str d.shown) H
theorem call_repr {X : Cx} (hm : ∃ mm, X.base.Ns sysModules mm) (gd : X.A.guards = some []) (hu : X.A.units + 70 < cLine) :
    CallR X (.builtin "repr") (rRepr X.K) := by
  intro pins s σ H xs us Q I r h
  obtain ⟨a, d, rfl, hs, sh, dp, sz, q⟩ := h
  cases r with
  | cons r1 r2 =>
    cases r2
    obtain ⟨as, rd, sy⟩ := Da.reads hm I d _ _ hs r1
    obtain rfl := r1
    refine repr_of_reads' rd sh (fun _ => sy) gd (by omega) (fun _ _ e => e) (fun h' u tk k => ?_) sz
    exact ⟨.str d.shown, H, I.kept (h' := h') (t' := tk) k, ⟨u, rfl⟩, q⟩
end Ev

/-! ## What an expression gives, while all that is tracked stands -/
namespace Ev
open PySem PySem.Spec PyProof.Rows L2
theorem PE.imp {X : Cx} {e : Expr} {t t' : TE} (h : PE X e t) (i : ∀ σ H Q, t' σ H Q → t σ H Q) : PE X e t' :=
  ⟨fun pins s σ H Q I z => h.run pins s σ H Q I (i σ H Q z)⟩
theorem Same.rfl' {H : Hp} : Same H H := fun _ _ e => e
theorem same_put {H : Hp} {p : Addr} {o : HO} (h : H p = none) : Same H (upd H p o) := fun b x e => by
  rw [upd_ne (ne_of_none e h)]
  exact e
/-- all but p stands as it stood -/
def Bu (p : Addr) (H H' : Hp) : Prop := ∀ b o, b ≠ p → H b = some o → H' b = some o
theorem Bu.refl {p : Addr} {H : Hp} : Bu p H H := fun _ _ _ e => e
theorem Bu.trans {p : Addr} {H H1 H2 : Hp} (h : Bu p H H1) (k : Bu p H1 H2) : Bu p H H2 := fun b o n e => k b o n (h b o n e)
theorem Bu.put {p : Addr} {H : Hp} {o : HO} : Bu p H (upd H p o) := fun b _ n e => by
  rw [upd_ne n]
  exact e
theorem Bu.new {p q : Addr} {H : Hp} {o : HO} (h : H q = none) : Bu p H (upd H q o) := fun b _ _ e => by
  rw [upd_ne (ne_of_none e h)]
  exact e
theorem Bu.of {p : Addr} {H H' : Hp} (h : Same H H') : Bu p H H' := fun b o _ e => h b o e
structure GP where
  p : Hp → V → Prop
  mono : ∀ {H H' : Hp} {u : V}, Same H H' → p H u → p H' u
def AllG (Gs : List GP) (H : Hp) (us : List V) : Prop := Paired (fun (G : GP) u => G.p H u) Gs us
theorem AllG.mono {H H' : Hp} (s : Same H H') : ∀ {Gs : List GP} {us : List V}, AllG Gs H us → AllG Gs H' us
  | _, _, .nil => .nil
  | G :: _, _, .cons h t => .cons (G.mono s h) (AllG.mono s t)
theorem AllG.append {H : Hp} : ∀ {Gs Gs' : List GP} {us us' : List V}, AllG Gs H us → AllG Gs' H us' → AllG (Gs ++ Gs') H (us ++ us')
  | _, _, _, _, .nil, k => k
  | _ :: _, _, _, _, .cons h t, k => .cons h (AllG.append t k)
def gEq (v : V) : GP := ⟨fun _ u => u = v, fun _ h => h⟩
def gLst (Gs : List GP) : GP := ⟨fun H u => ∃ p us, u = .ref p ∧ H p = some (.lst us) ∧ AllG Gs H us, fun s ⟨p, us, h1, h2, h3⟩ => ⟨p, us, h1, s _ _ h2, h3.mono s⟩⟩
def Gives (H0 : Hp) (te : TE) (G : GP) (σ : L2.St) : Prop := ∀ (H : Hp) (Q : VK), Same H0 H → (∀ H' u, Same H H' → G.p H' u → Q u H') → te σ H Q
def GivesL (H0 : Hp) (ta : TA) (Gs : List GP) (σ : L2.St) : Prop := ∀ (H : Hp) (Q : List V → Hp → Prop), Same H0 H → (∀ H' us, Same H H' → AllG Gs H' us → Q us H') → ta σ H Q
section
variable {H0 : Hp} {σ : L2.St} {te te' : TE} {ta : TA} {G : GP} {Gs Gs' : List GP} {i : Nat} {v : V} {C : Addr} {D : Ends} {rest : TS}
theorem g_nil : GivesL H0 tNil [] σ := fun H Q _ q => q H [] Same.rfl' .nil
theorem g_cons (h : Gives H0 te G σ) (t : GivesL H0 ta Gs σ) : GivesL H0 (tCons te ta) (G :: Gs) σ := fun H Q s q =>
  h H _ s fun H1 u s1 g1 => t H1 _ (s.trans s1) fun H2 us s2 g2 => q H2 (u :: us) (s1.trans s2) (.cons (G.mono s2 g1) g2)
theorem g_lst (h : GivesL H0 ta Gs σ) (hz : Gs.length ≤ 1000 := by simp) : Gives H0 (tLst ta) (gLst Gs) σ := fun H Q s q =>
  h H _ s fun H1 us s1 g1 => by
    have hl : us.length = Gs.length := (Paired.length g1).symm
    refine ⟨?_, fun p np => ?_⟩
    · have y := sizeLine_eq
      omega
    · have s2 := same_put (o := .lst us) np
      exact q _ _ (s1.trans s2) ⟨p, us, rfl, upd_same, g1.mono s2⟩
theorem g_cat (h : Gives H0 te (gLst Gs) σ) (h' : Gives H0 te' (gLst Gs') σ) (hz : Gs.length + Gs'.length ≤ 1000 := by simp) :
    Gives H0 (tOp rCat te te') (gLst (Gs ++ Gs')) σ := fun H Q s q =>
  h H _ s fun H1 u s1 ⟨p, us, e1, h1, g1⟩ => h' H1 _ (s.trans s1) fun H2 u' s2 ⟨p', us', e2, h2, g2⟩ => by
    have l1 : us.length = Gs.length := (Paired.length g1).symm
    have l2 : us'.length = Gs'.length := (Paired.length g2).symm
    refine ⟨p, p', us, us', e1, e2, s2 _ _ h1, h2, ?_, fun r nr => ?_⟩
    · have y := sizeLine_eq
      omega
    · have s3 := same_put (o := .lst (us ++ us')) nr
      exact q _ _ ((s1.trans s2).trans s3) ⟨r, us ++ us', rfl, upd_same, AllG.append (g1.mono (s2.trans s3)) (g2.mono s3)⟩
theorem g_var (hv : σ[i]? = some (some v)) (g : G.p H0 v) : Gives H0 (tVar i) G σ := fun H Q s q => ⟨v, hv, q H v Same.rfl' (G.mono s g)⟩
theorem g_eq (hv : σ[i]? = some (some v)) : Gives H0 (tVar i) (gEq v) σ := g_var hv rfl
theorem s_set (h : Gives H0 te G σ) (k : ∀ H' u, Same H0 H' → G.p H' u → rest D (σ.set i (some u)) H') : tSeq (tAsg te (gName i)) rest D σ H0 :=
  h H0 _ Same.rfl' fun H' u s g => k H' u s g
theorem s_ret (h : Gives H0 te G σ) (k : ∀ H' u, Same H0 H' → G.p H' u → D.rt u H') : tRet te D σ H0 :=
  h H0 _ Same.rfl' fun H' u s g => k H' u s g
end
/-- the abstract heap without p -/
def but (H : Hp) (p : Addr) : Hp := fun b => if b = p then none else H b
theorem but_ne {H : Hp} {p b : Addr} (h : b ≠ p) : but H p b = H b := if_neg h
theorem but_same {H H' : Hp} {p : Addr} (s : Same H H') : Same (but H p) (but H' p) := fun b o e => by
  by_cases h : b = p
  · rw [h] at e
    have z : but H p p = none := if_pos rfl
    rw [z] at e
    cases e
  · rw [but_ne h] at e ⊢
    exact s _ _ e
theorem but_le {H H' : Hp} {p : Addr} (s : Bu p H H') : Same (but H p) H' := fun b o e => by
  by_cases h : b = p
  · rw [h] at e
    have z : but H p p = none := if_pos rfl
    rw [z] at e
    cases e
  · rw [but_ne h] at e
    exact s _ _ h e
/-- data that do not hold p -/
def gDa (K : PySem.W.Frag) (p : Addr) (d : PyData) : GP := ⟨fun H u => Da K (but H p) u d, fun s h => h.mono (but_same s)⟩
section
variable {K : PySem.W.Frag} {p : Addr} {op : HO} {H0 : Hp} {σ : L2.St} {te : TE} {ta : TA} {G : GP} {Gs : List GP} {v : V} {d : PyData} {ds : List PyData}
theorem ne_new {H : Hp} {q : Addr} (hp : H0 p = some op) (s : Same H0 H) (nq : H q = none) : q ≠ p := fun z => by
  rw [z, s _ _ hp] at nq
  cases nq
theorem g_c (h : ∀ H, G.p H v) : Gives H0 (tC v) G σ := fun H Q _ q => q H v Same.rfl' (h H)
theorem g_neg {i : Int} : Gives H0 (tUn (rU fun i => .int (-i)) (tC (.int i))) (gDa K p (.int (-i))) σ := fun H Q _ q => ⟨i, rfl, q H _ Same.rfl' (.int _)⟩
theorem g_pow {i j : Int} (h : CPow i j) : Gives H0 (tOp (rI CPow fun i j => .int (i ^ j.toNat)) (tC (.int i)) (tC (.int j))) (gDa K p (.int (i ^ j.toNat))) σ :=
  fun H Q _ q => ⟨i, j, rfl, rfl, h, q H _ Same.rfl' (.int _)⟩
theorem allDa {H : Hp} : ∀ {ds : List PyData} {us : List V}, AllG (ds.map (gDa K p)) H us → DaAll K (but H p) us ds
  | [], _, .nil => .nil
  | _ :: _, _, .cons h t => .cons h (allDa t)
theorem g_lstD (hp : H0 p = some op) (h : GivesL H0 ta (ds.map (gDa K p)) σ) (hz : ds.length ≤ 1000 := by simp) : Gives H0 (tLst ta) (gDa K p (.list ds)) σ := fun H Q s q =>
  h H _ s fun H1 us s1 g1 => by
    have hl : us.length = ds.length := by rw [← Paired.length g1, List.length_map]
    refine ⟨?_, fun r nr => ?_⟩
    · have y := sizeLine_eq
      omega
    · have s2 := same_put (o := .lst us) nr
      have ne := ne_new hp (s.trans s1) nr
      refine q _ _ (s1.trans s2) (.lst (.inl (.inl ?_)) ((allDa g1).mono (but_same s2)))
      rw [but_ne ne, upd_same]
theorem g_tupD (hp : H0 p = some op) (h : GivesL H0 ta (ds.map (gDa K p)) σ) (hz : ds.length ≤ 1000 := by simp) : Gives H0 (tTup ta) (gDa K p (.tuple ds)) σ := fun H Q s q =>
  h H _ s fun H1 us s1 g1 => by
    have hl : us.length = ds.length := by rw [← Paired.length g1, List.length_map]
    refine ⟨?_, fun r nr => ?_⟩
    · have y := sizeLine_eq
      omega
    · have s2 := same_put (o := .tup us) nr
      have ne := ne_new hp (s.trans s1) nr
      refine q _ _ (s1.trans s2) (.tup (.inl (.inl ?_)) ((allDa g1).mono (but_same s2)))
      rw [but_ne ne, upd_same]
theorem g_dnew (hp : H0 p = some op) : Gives H0 tDNewK (gDa K p (.dict [])) σ := fun H Q s q r nr => by
  refine q _ _ (same_put nr) (.dic ?_ .nil)
  rw [but_ne (ne_new hp s nr), upd_same]
theorem g_disp {x : Str} (hp : H0 p = some op) : Gives H0 (tDisp [(tC (.str x), tTup (tCons (tC .non) tNil))]) (gDa K p (.dict [(.str x, .tuple [.none])])) σ := fun H Q s q r nr => by
  refine ⟨(by show 1 ≤ sizeLine; decide), fun t nt => ?_⟩
  have ne : t ≠ r := fun z => by
    rw [z, upd_same] at nt
    cases nt
  have n1 := ne_new hp s nr
  have n2 := ne_new hp (s.trans (same_put nr)) nt
  refine ⟨by rw [upd_ne ne.symm, upd_same], [(.inr x, .ref t)], rfl, (by show 1 ≤ 15; decide), q _ _ ?_ (.dic (kvs := [(.inr x, .ref t)]) ?_ (.cons (.tup (xs := [.non]) (.inl (.inl ?_)) (.cons .non .nil)) .nil))⟩
  · intro b o e
    have nb : b ≠ r := ne_of_none e nr
    have nbt : b ≠ t := fun z => by
      rw [z] at e
      rw [upd_ne ne, e] at nt
      cases nt
    rw [upd_ne nb, upd_ne nbt, upd_ne nb]
    exact e
  · rw [but_ne n1]
    exact upd_same
  · rw [but_ne n2, upd_ne ne, upd_same]
theorem allEq {H : Hp} : ∀ {ys : List V}, AllG (ys.map gEq) H ys
  | [] => .nil
  | _ :: _ => .cons rfl allEq
/-- [elt for .. in xs], the elements plain values -/
theorem g_lcP {a : Addr} {xs ys : List V} {i : Nat} {g : TG} {vs : List Nat} (hi : σ[i]? = some (some (.ref a))) (hx : SqL K H0 a xs) (hz : xs.length ≤ 1000) (hl : ys.length = xs.length)
    (he : ∀ (j : Nat) (x y : V), xs[j]? = some x → ys[j]? = some y → ∀ (H : Hp) (R : VK), Same H0 H → R y H →
      g x (wipe σ vs) H fun σ2 H2 => wipe σ2 vs = wipe σ vs ∧ te σ2 H2 R) :
    Gives H0 (tLc (iList K (tVar i)) g tYes te vs) (gLst (ys.map gEq)) σ := fun H Q s q => by
  refine ⟨_, hi, a, rfl, ⟨xs, s.seq hx⟩, fun D nD => ?_⟩
  have sD : Same H (upd H D (.lst [])) := same_put nD
  have y := sizeLine_eq
  refine lc_list (K := K) (a := a) (xs := xs) (fun k H' => Same H H' ∧ H' D = some (.lst (ys.take k))) ⟨sD, upd_same⟩ (fun k H' _ ⟨s', _⟩ => s'.seq (s.seq hx)) ?_ ?_
  · rintro k x H' hk ⟨s', eD⟩
    have hk' : k < ys.length := by
      obtain ⟨h, _⟩ := List.getElem?_eq_some_iff.mp hk
      omega
    have hy := List.getElem?_eq_getElem hk'
    refine cast ?_ (he k x ys[k] hk hy H' (fun y H4 => ∃ acc, H4 D = some (.lst acc) ∧ acc.length < sizeLine ∧ Same H (upd H4 D (.lst (acc ++ [y]))) ∧ upd H4 D (.lst (acc ++ [y])) D = some (.lst (ys.take (k + 1)))) (s.trans s') ⟨_, eD, ?_, ?_, ?_⟩)
    · rfl
    · rw [List.length_take]
      omega
    · intro b o e
      rw [upd_ne (ne_of_none e nD)]
      exact s' _ _ e
    · rw [upd_same, List.take_add_one, hy]
      rfl
  · rintro H' ⟨s', eD⟩
    rw [← hl, List.take_length] at eD
    exact q H' _ s' ⟨D, ys, rfl, eD, allEq⟩
/-- [elt for i in range(m)], the elements plain values -/
theorem g_lcR {ys : List V} {m : Int} {g : TG} {vs : List Nat} (hm : -(2 ^ 62) ≤ m ∧ m < 2 ^ 62) (hl : ys.length = m.toNat) (hz : ys.length ≤ 1000)
    (he : ∀ (j : Nat) (y : V), ys[j]? = some y → ∀ (H : Hp) (R : VK), Same H0 H → R y H →
      g (.int (0 + j)) (wipe σ vs) H fun σ2 H2 => wipe σ2 vs = wipe σ vs ∧ te σ2 H2 R) :
    Gives H0 (tLc (iRng1 (tCons (tC (.int m)) tNil)) g tYes te vs) (gLst (ys.map gEq)) σ := fun H Q s q => by
  refine ⟨m, rfl, hm.1, hm.2, fun D nD => ?_⟩
  have sD : Same H (upd H D (.lst [])) := same_put nD
  have y := sizeLine_eq
  refine lc_range (lo := 0) (n := m.toNat) (fun k H' => Same H H' ∧ H' D = some (.lst (ys.take k))) ⟨sD, upd_same⟩ ?_ ?_
  · rintro k H' hk ⟨s', eD⟩
    have hk' : k < ys.length := by omega
    have hy := List.getElem?_eq_getElem hk'
    refine cast ?_ (he k ys[k] hy H' (fun y H4 => ∃ acc, H4 D = some (.lst acc) ∧ acc.length < sizeLine ∧ Same H (upd H4 D (.lst (acc ++ [y]))) ∧ upd H4 D (.lst (acc ++ [y])) D = some (.lst (ys.take (k + 1)))) (s.trans s') ⟨_, eD, ?_, ?_, ?_⟩)
    · rfl
    · rw [List.length_take]
      omega
    · intro b o e
      rw [upd_ne (ne_of_none e nD)]
      exact s' _ _ e
    · rw [upd_same, List.take_add_one, hy]
      rfl
  · rintro H' ⟨s', eD⟩
    rw [← hl, List.take_length] at eD
    exact q H' _ s' ⟨D, ys, rfl, eD, allEq⟩
/-! ### tests whose answer is known -/
def GivesT (H0 : Hp) (tt : TT) (b : Bool) (σ : L2.St) : Prop := ∀ (H : Hp) (Q : Bool → Hp → Prop), Same H0 H → (∀ H', Same H H' → Q b H') → tt σ H Q
theorem s_skip {tt : TT} {t rest : TS} {D : Ends} (h : GivesT H0 tt false σ) (k : ∀ H', Same H0 H' → rest D σ H') : tSeq (tIfS tt t tNext) rest D σ H0 :=
  h H0 _ Same.rfl' fun H' s => iteF (k H' s)
theorem s_skip1 {tt : TT} {t : TS} {D : Ends} (h : GivesT H0 tt false σ) (k : ∀ H', Same H0 H' → D.nx σ H') : tIfS tt t tNext D σ H0 :=
  h H0 _ Same.rfl' fun H' s => iteF (k H' s)
theorem g_repr (h : Gives H0 te G σ) (hd : ∀ H u, Same H0 H → G.p H u → ∃ a, u = .ref a ∧ Da K H u d) (h1 : d.showable = true) (h2 : d.depth ≤ 64) (h3 : d.shown.length ≤ sizeLine) :
    Gives H0 (tCB (rRepr K) (tCons te tNil)) (gEq (.str d.shown)) σ := fun H Q s q =>
  h H _ s fun H1 u s1 g1 => by
    obtain ⟨a, rfl, da⟩ := hd H1 u (s.trans s1) g1
    exact ⟨a, d, rfl, da, h1, h2, h3, q H1 _ s1 rfl⟩
theorem t_neS {te' : TE} {x : Str} (h : Gives H0 te (gEq (.str x)) σ) (h' : Gives H0 te' (gEq (.str x)) σ) : GivesT H0 (tTest (tOp rNe te te')) false σ := fun H Q s q =>
  h H _ s fun H1 u s1 e1 => h' H1 _ (s.trans s1) fun H2 u' s2 e2 => by
    have e1 : u = .str x := e1
    have e2 : u' = .str x := e2
    subst e1
    subst e2
    refine ⟨rfl, _, rfl, ?_⟩
    rw [decide_eq_true rfl]
    exact q H2 (s1.trans s2)
theorem dp_bools {H : Hp} : ∀ bs : List Bool, DpAll K H (bs.map V.bl) (bs.map PyData.bool)
  | [] => .nil
  | b :: bs => .cons (.bl b) (dp_bools bs)
theorem eqv_bools : ∀ bs : List Bool, PyData.eqvAll (bs.map PyData.bool) (bs.map PyData.bool) = true
  | [] => by simp [PyData.eqvAll]
  | b :: bs => by simp [PyData.eqvAll, PyData.eqv, eqv_bools bs]
theorem lay_bools : ∀ bs : List Bool, PyData.canLayAll0 (bs.map PyData.bool) = true
  | [] => by simp [PyData.canLayAll0]
  | b :: bs => by simp [PyData.canLayAll0, PyData.canLay0, lay_bools bs]
theorem depth_bools : ∀ bs : List Bool, PyData.depthAll (bs.map PyData.bool) = 0
  | [] => by simp [PyData.depthAll]
  | b :: bs => by simp [PyData.depthAll, PyData.depth, depth_bools bs]
theorem shaped_bools (bs : List Bool) : SeqAt.shaped (.list (bs.map PyData.bool)) = true := by
  show (PyData.canLay0 (.list (bs.map .bool)) && decide (PyData.depth (.list (bs.map .bool)) ≤ 64)) = true
  simp [PyData.canLay0, PyData.depth, lay_bools, depth_bools]
theorem all_bl {H : Hp} : ∀ {bs : List Bool} {us : List V}, AllG (bs.map fun b => gEq (.bl b)) H us → us = bs.map V.bl
  | [], _, .nil => rfl
  | _ :: _, _, .cons h t => by
    have h : _ = V.bl _ := h
    rw [h, all_bl t]
    rfl
theorem t_neB {te' : TE} {bs : List Bool} (h : Gives H0 te (gLst (bs.map fun b => gEq (.bl b))) σ) (h' : Gives H0 te' (gLst (bs.map fun b => gEq (.bl b))) σ) :
    GivesT H0 (tTest (tOp (rNeD K) te te')) false σ := fun H Q s q =>
  h H _ s fun H1 u s1 ⟨p1, us1, e1, l1, g1⟩ => h' H1 _ (s.trans s1) fun H2 u' s2 ⟨p2, us2, e2, l2, g2⟩ => by
    subst e1
    subst e2
    rw [all_bl g1] at l1
    rw [all_bl g2] at l2
    refine ⟨_, _, .lst (.inl (.inl (s2 _ _ l1))) (dp_bools bs), .lst (.inl (.inl l2)) (dp_bools bs), shaped_bools bs, shaped_bools bs, _, rfl, ?_⟩
    have z : PyData.eqv (.list (bs.map .bool)) (.list (bs.map .bool)) = true := by
      simp only [PyData.eqv]
      exact eqv_bools bs
    rw [z]
    exact q H2 (s1.trans s2)
theorem t_not {tt : TT} {b : Bool} (h : GivesT H0 tt b σ) : GivesT H0 (tNot tt) (!b) σ := fun H Q s q => h H _ s q
theorem t_orF {tt uu : TT} (h : GivesT H0 tt false σ) (k : GivesT H0 uu false σ) : GivesT H0 (tOr tt uu) false σ := fun H Q s q =>
  h H _ s fun H1 s1 => iteF (k H1 Q (s.trans s1) fun H2 s2 => q H2 (s1.trans s2))
end
section
variable {K : PySem.W.Frag} {p : Addr} {H0 : Hp} {σ : L2.St}
theorem g_nonD : Gives H0 (tC .non) (gDa K p .none) σ := g_c fun _ => Da.non
theorem g_blD {b : Bool} : Gives H0 (tC (.bl b)) (gDa K p (.bool b)) σ := g_c fun _ => Da.bl b
theorem g_intD {i : Int} : Gives H0 (tC (.int i)) (gDa K p (.int i)) σ := g_c fun _ => Da.int i
theorem g_strD {x : Str} : Gives H0 (tC (.str x)) (gDa K p (.str x)) σ := g_c fun _ => Da.str x
end
theorem sum_le_all (m : Nat) : ∀ l : List Nat, (∀ n ∈ l, n ≤ m) → l.sum ≤ m * l.length
  | [], _ => by simp
  | n :: l, h => by
    have h1 := h n (List.mem_cons_self ..)
    have h2 := sum_le_all m l fun k hk => h k (List.mem_cons_of_mem _ hk)
    rw [List.sum_cons, List.length_cons, Nat.mul_succ]
    omega
theorem mem_all {H : Hp} : ∀ {Gs : List GP} {us : List V}, AllG Gs H us → ∀ v ∈ us, ∃ G ∈ Gs, G.p H v
  | _, _, .nil, _, h => nomatch h
  | G :: _, _, .cons h t, v, hv => by
    rcases List.mem_cons.mp hv with rfl | hv
    · exact ⟨G, List.mem_cons_self .., h⟩
    · obtain ⟨G', h1, h2⟩ := mem_all t v hv
      exact ⟨G', List.mem_cons_of_mem _ h1, h2⟩
theorem all_eq {H : Hp} : ∀ {ys us : List V}, AllG (ys.map gEq) H us → us = ys
  | [], _, .nil => rfl
  | _ :: _, _, .cons h t => by
    have h : _ = _ := h
    rw [h, all_eq t]
end Ev

/-! ## General steps -/
namespace Ev
open PySem PySem.Spec PyProof.Rows L2
section
variable {K : PySem.W.Frag} {B H0 : Hp} {σ : L2.St} {te tf : TE} {ta : TA} {i : Nat} {x v : V} {d : PyData} {ds : List PyData} {b c : Bool} {T : String} {tt uu : TT} {t rest : TS} {D : Ends} {a : Addr} {xs : List V} {k : Int} {G : GP}
theorem t_or (h : GivesT H0 tt b σ) (k : b = false → GivesT H0 uu c σ) : GivesT H0 (tOr tt uu) (b || c) σ := fun H Q s q =>
  h H _ s fun H1 s1 => by
    cases b with
    | true => exact iteT (q H1 s1)
    | false => exact iteF (k rfl H1 Q (s.trans s1) fun H2 s2 => q H2 (s1.trans s2))
theorem s_ifB (h : GivesT H0 tt b σ) (k1 : b = true → ∀ H', Same H0 H' → t { D with nx := rest D } σ H') (k2 : b = false → ∀ H', Same H0 H' → rest D σ H') : tSeq (tIfS tt t tNext) rest D σ H0 :=
  h H0 _ Same.rfl' fun H' s => by
    cases b with
    | true => exact iteT (k1 rfl H' s)
    | false => exact iteF (k2 rfl H' s)
theorem t_andB (h : GivesT H0 tt b σ) (k : b = true → GivesT H0 uu c σ) : GivesT H0 (tAnd tt uu) (b && c) σ := fun H Q s q =>
  h H _ s fun H1 s1 => by
    cases b with
    | true => exact iteT (k rfl H1 Q (s.trans s1) fun H2 s2 => q H2 (s1.trans s2))
    | false => exact iteF (q H1 s1)
theorem s_ifB1 (h : GivesT H0 tt b σ) (k1 : b = true → ∀ H', Same H0 H' → t D σ H') (k2 : b = false → ∀ H', Same H0 H' → D.nx σ H') : tIfS tt t tNext D σ H0 :=
  h H0 _ Same.rfl' fun H' s => by
    cases b with
    | true => exact iteT (k1 rfl H' s)
    | false => exact iteF (k2 rfl H' s)
theorem s_set1 (h : Gives H0 te G σ) (k : ∀ H' u, Same H0 H' → G.p H' u → D.nx (σ.set i (some u)) H') : tAsg te (gName i) D σ H0 :=
  h H0 _ Same.rfl' fun H' u s g => k H' u s g
theorem t_eqI2 {r k : Int} (h : Gives H0 te (gEq (.int r)) σ) : GivesT H0 (tTest (tOp rEq te (tC (.int k)))) (decide (r = k)) σ := fun H Q s q =>
  h H _ s fun H1 u s1 e => by
    have e : u = .int r := e
    subst e
    refine ⟨rfl, _, rfl, ?_⟩
    have z : decide (V.int r = V.int k) = decide (r = k) := decide_eq_decide.mpr ⟨fun h => V.int.inj h, fun h => by rw [h]⟩
    rw [z]
    exact q H1 s1
theorem t_eqI {r k : Int} (h : σ[i]? = some (some (.int r))) : GivesT H0 (tTest (tOp rEq (tVar i) (tC (.int k)))) (decide (r = k)) σ := fun H Q s q => by
  refine ⟨_, h, rfl, _, rfl, ?_⟩
  have z : decide (V.int r = V.int k) = decide (r = k) := decide_eq_decide.mpr ⟨fun h => V.int.inj h, fun h => by rw [h]⟩
  rw [z]
  exact q H Same.rfl'
theorem t_neI {r k : Int} (h : Gives H0 te (gEq (.int r)) σ) : GivesT H0 (tTest (tOp rNe te (tC (.int k)))) (!decide (r = k)) σ := fun H Q s q =>
  h H _ s fun H1 u s1 e => by
    have e : u = .int r := e
    subst e
    refine ⟨rfl, _, rfl, ?_⟩
    have z : decide (V.int r = V.int k) = decide (r = k) := decide_eq_decide.mpr ⟨fun h => V.int.inj h, fun h => by rw [h]⟩
    rw [z]
    exact q H1 s1
theorem g_and (h : Gives H0 te (gEq (.bl b)) σ) (k : b = true → Gives H0 tf (gEq (.bl c)) σ) : Gives H0 (tAndV te tf) (gEq (.bl (b && c))) σ := fun H Q s q =>
  h H _ s fun H1 u s1 e => by
    refine ⟨b, e, ?_⟩
    cases b with
    | true => exact iteT (k rfl H1 Q (s.trans s1) fun H2 u2 s2 e2 => q H2 u2 (s1.trans s2) e2)
    | false => exact iteF (q H1 _ s1 rfl)
theorem t_valB (h : Gives H0 te (gEq (.bl b)) σ) : GivesT H0 (tB te) b σ := fun H Q s q => h H _ s fun H1 u s1 e => ⟨b, e, q H1 s1⟩
end
abbrev rGtI : R2 := rI0 fun i j => .bl (decide (j < i))
abbrev rLeI : R2 := rI0 fun i j => .bl (decide (i ≤ j))
abbrev rLtI : R2 := rI0 fun i j => .bl (decide (i < j))
theorem g_all {K : PySem.W.Frag} {H0 : Hp} {σ : L2.St} {te : TE} {bs : List Bool} (h : Gives H0 te (gLst (bs.map fun b => gEq (.bl b))) σ) : Gives H0 (tCB (rAll K) (tCons te tNil)) (gEq (.bl (bs.all id))) σ := fun H Q s q =>
  h H _ s fun H1 u s1 g1 => by
    obtain ⟨p, us, rfl, hp, ha⟩ := g1
    have eu := all_bl ha
    subst eu
    exact ⟨p, bs, rfl, .inl (.inl hp), q H1 _ s1 rfl⟩
def rReprA (K : PySem.W.Frag) : List V → Hp → VK → Prop := fun xs H Q =>
  ∃ (x : V) (d : PyData), xs = [x] ∧ Da K H x d ∧ d.showable = true ∧ d.depth ≤ 64 ∧ d.shown.length ≤ sizeLine ∧ Q (.str d.shown) H
theorem call_reprA {X : Cx} (hm : ∃ mm, X.base.Ns sysModules mm) (gd : X.A.guards = some []) (hu : X.A.units + 70 < cLine) :
    CallR X (.builtin "repr") (rReprA X.K) := by
  intro pins s σ H xs us Q I r h
  obtain ⟨x, d, rfl, hs, sh, dp, sz, q⟩ := h
  have big : ∀ a, x = .ref a → wpAny (model X.prog X.w) X.A (call (.builtin "repr") us) (EP X pins σ Q) X.xe s := by
    rintro a rfl
    exact call_repr hm gd hu pins s σ H _ us Q I r ⟨a, d, rfl, hs, sh, dp, sz, q⟩
  cases hs with
  | non =>
    cases r with
    | cons r1 r2 =>
      cases r2
      cases r1
      rw [PyData.shown] at q
      exact PySem.P.repr_of_none ⟨.str _, H, I.tok _, ⟨_, rfl⟩, q⟩
  | bl b =>
    cases r with
    | cons r1 r2 =>
      cases r2
      cases r1
      rw [PyData.shown] at q
      exact PySem.P.repr_of_bool ⟨.str _, H, I.tok _, ⟨_, rfl⟩, q⟩
  | int i =>
    cases r with
    | cons r1 r2 =>
      cases r2
      obtain ⟨t, rfl⟩ := r1
      rw [PyData.shown] at q
      exact PySem.P.repr_of_int (by rw [PyData.showable] at sh; exact of_decide_eq_true sh) ⟨.str _, H, I.tok _, ⟨_, rfl⟩, q⟩
  | str z =>
    cases r with
    | cons r1 r2 =>
      cases r2
      obtain ⟨t, rfl⟩ := r1
      rw [PyData.shown] at q sz
      exact PySem.P.repr_of_str ⟨.str _, H, I.tok _, ⟨_, rfl⟩, q⟩ sz
  | lst h1 h2 => exact big _ rfl
  | tup h1 h2 => exact big _ rfl
  | dic h1 h2 => exact big _ rfl
theorem s_par {H0 : Hp} {σ : L2.St} {ta : TA} {G1 G2 : GP} {i j : Nat} {D : Ends} {rest : TS} (h : GivesL H0 ta [G1, G2] σ) (k : ∀ H' u1 u2, Same H0 H' → G1.p H' u1 → G2.p H' u2 → rest D ((σ.set i (some u1)).set j (some u2)) H') : tSeq (tPar i j ta) rest D σ H0 :=
  h H0 _ Same.rfl' fun H' us s g => by
    cases g with
    | @cons _ u1 _ _ g1 g =>
    cases g with
    | @cons _ u2 _ _ g2 g =>
    cases g
    exact ⟨u1, u2, rfl, k H' u1 u2 s g1 g2⟩
section
variable {K : PySem.W.Frag} {B H0 : Hp} {σ : L2.St} {te tf : TE} {ta : TA} {i : Nat} {x v : V} {d : PyData} {ds : List PyData} {b c : Bool} {T : String} {tt uu : TT} {t rest : TS} {D : Ends} {a : Addr} {xs : List V} {k : Int} {G : GP}
theorem g_reprA (h : σ[i]? = some (some x)) (hd : Da K H0 x d) (h1 : d.showable = true) (h2 : d.depth ≤ 64) (h3 : d.shown.length ≤ sizeLine) : Gives H0 (tCB (rReprA K) (tCons (tVar i) tNil)) (gEq (.str d.shown)) σ := fun H Q s q =>
  ⟨_, h, x, d, rfl, hd.mono s, h1, h2, h3, q H _ Same.rfl' rfl⟩
theorem g_eqS {y z : Str} (h : Gives H0 te (gEq (.str y)) σ) (h' : Gives H0 tf (gEq (.str z)) σ) : Gives H0 (tOp rEq te tf) (gEq (.bl (decide (y = z)))) σ := fun H Q s q =>
  h H _ s fun H1 u s1 e1 => h' H1 _ (s.trans s1) fun H2 u' s2 e2 => by
    have e1 : u = .str y := e1
    have e2 : u' = .str z := e2
    subst e1
    subst e2
    refine ⟨rfl, q H2 _ (s1.trans s2) ?_⟩
    show _ = _
    congr 1
    exact decide_eq_decide.mpr ⟨fun h => V.str.inj h, fun h => by rw [h]⟩
end
theorem Gives.imp {H0 : Hp} {te : TE} {G G' : GP} {σ : L2.St} (h : Gives H0 te G σ) (i : ∀ H u, Same H0 H → G.p H u → G'.p H u) : Gives H0 te G' σ := fun H Q s q =>
  h H _ s fun H1 u s1 g => q H1 u s1 (i H1 u (s.trans s1) g)
theorem keepA {a p : Addr} {H1 H H' : Hp} (np : H1 p = none) (h : ∀ o, H1 a = some o → H a = some o) (b : Bu p H H') : ∀ o, H1 a = some o → H' a = some o := fun o e => b _ _ (ne_of_none e np) (h o e)
theorem sq_of {K : PySem.W.Frag} {a : Addr} {H H' : Hp} {zs : List V} (s : SqL K H a zs) (h : ∀ o, H a = some o → H' a = some o) : SqL K H' a zs := by
  rcases s with (e | ⟨o, e⟩) | e
  · exact .inl (.inl (h _ e))
  · exact .inl (.inr ⟨o, h _ e⟩)
  · exact .inr e
theorem mm_at (z : Int) (h : z ≤ 3) : -(2 ^ 62) ≤ (if z > 1 then z else 1) ∧ (if z > 1 then z else 1) < 2 ^ 62 ∧ (if z > 1 then z else 1).toNat ≤ 3 := by
  split <;> omega
theorem mm_le (n : Int) : (if n < 3 then n else 3) ≤ 3 := by
  split <;> omega
section
variable {K : PySem.W.Frag} {B H0 : Hp} {σ : L2.St} {te tf : TE} {ta : TA} {i : Nat} {x v : V} {d : PyData} {ds : List PyData} {b c : Bool} {T : String} {tt uu : TT} {t rest : TS} {D : Ends} {a : Addr} {xs : List V} {k : Int} {G : GP}
theorem g_lcQ {a : Addr} {xs ys : List V} {i : Nat} {g : TG} {vs : List Nat} (hi : σ[i]? = some (some (.ref a))) (hx : SqL K H0 a xs) (hz : xs.length ≤ 1000) (hl : ys.length = xs.length)
    (he : ∀ (j : Nat) (x y : V), xs[j]? = some x → ys[j]? = some y → ∀ (H : Hp) (R : VK), Same H0 H → (∀ H', Same H H' → R y H') →
      g x (wipe σ vs) H fun σ2 H2 => wipe σ2 vs = wipe σ vs ∧ te σ2 H2 R) :
    Gives H0 (tLc (iList K (tVar i)) g tYes te vs) (gLst (ys.map gEq)) σ := fun H Q s q => by
  refine ⟨_, hi, a, rfl, ⟨xs, s.seq hx⟩, fun D nD => ?_⟩
  have sD : Same H (upd H D (.lst [])) := same_put nD
  have y := sizeLine_eq
  refine lc_list (K := K) (a := a) (xs := xs) (fun k H' => Same H H' ∧ H' D = some (.lst (ys.take k))) ⟨sD, upd_same⟩ (fun k H' _ ⟨s', _⟩ => s'.seq (s.seq hx)) ?_ ?_
  · rintro k x H' hk ⟨s', eD⟩
    have hk' : k < ys.length := by
      obtain ⟨h, _⟩ := List.getElem?_eq_some_iff.mp hk
      omega
    have hy := List.getElem?_eq_getElem hk'
    refine cast ?_ (he k x ys[k] hk hy H' (fun y H4 => ∃ acc, H4 D = some (.lst acc) ∧ acc.length < sizeLine ∧ Same H (upd H4 D (.lst (acc ++ [y]))) ∧ upd H4 D (.lst (acc ++ [y])) D = some (.lst (ys.take (k + 1)))) (s.trans s') fun H4 s4 => ⟨_, s4 _ _ eD, ?_, ?_, ?_⟩)
    · rfl
    · rw [List.length_take]
      omega
    · intro b o e
      rw [upd_ne (ne_of_none e nD)]
      exact s4 _ _ (s' _ _ e)
    · rw [upd_same, List.take_add_one, hy]
      rfl
  · rintro H' ⟨s', eD⟩
    rw [← hl, List.take_length] at eD
    exact q H' _ s' ⟨D, ys, rfl, eD, allEq⟩
end
/-! ### f(k = v, ..), keywords alone -/
section
variable {X : Cx} {CX : CXT} {k : Nat} {f : Addr} {fd : FuncData} {ps ks : List Str} {sp : Sp} {E : XK} {x : Str} {p pos : Pos} {kws : List Keyword} {tk : TA} {pm : {α : Type} → List α → List α}
def tCallKs (pm : {α : Type} → List α → List α) (sp : Sp) (E : XK) (tk : TA) : TE := fun σ H Q => tk σ H fun zs H2 => sp (pm zs) H2 Q E
theorem pe_callKs (pm : {α : Type} → List α → List α) (F : FnOk X.prog X.w X.K X.mg X.base CX k f fd ps sp) (hr : Room k X.A) (hg : Gl X x) (hm : X.mg x = some (.ref f)) (hk : PySem.W.keepIn X.K (.ref f) = true)
    (hb : ∀ (s : Shared) (us : List Value), us.length = ks.length → BindsTo s fd ⟨[], ks.zip us⟩ (ps.zip (pm us))) (hpm : ∀ (zs : List V) (us : List Value), zs.length = ks.length → Vals zs us → Vals (pm zs) (pm us)) (hx : Passes CX X E)
    (hkw : PK X kws tk) (hl : ∀ zs H Q E, sp (pm zs) H Q E → zs.length = ks.length) (hall : (backToKw pos (keywordEach kws X.env)).all (·.1.isSome) = true := by rfl) (hks : (backToKw pos (keywordEach kws X.env)).filterMap (·.1) = ks := by rfl)
    (hdb : (x == ("__debug__" : Str)) = false := by decide) (hpl : ((backTo pos (starEach [] X.env)).any (·.1) || (backToKw pos (keywordEach kws X.env)).any (·.1.isNone)) = false := by rfl) :
    PE X (.Call (.Name x p) [] kws pos) (tCallKs pm sp E tk) := by
  refine ⟨fun pins s σ H Q I h => ?_⟩
  refine wpAny_Call_Name_kw (ld_glob I hg hm ?_ hdb)
  refine PySem.W.callWith_KW0 (h₀ := X.base) I.ok.mod.kin hk hall ?_ hpl
  refine thn (hkw.run pos pins s σ H _ I h) fun ws s2 ⟨zs, H2, I2, rz, q2⟩ => ⟨I2.kIn, ?_⟩
  rw [hks]
  have hz := hl _ _ _ _ q2
  refine wpAny_call (codeAny_mono (F.run X.A X.stack s2 H2 ⟨[], ks.zip ws⟩ (pm ws) (pm zs) Q E hr I2.env0 (hb s2 ws (rz.length.symm.trans hz)) (hpm zs ws hz rz) q2) fun r s' hq => ?_)
  cases r with
  | error e => exact hx pins σ H2 s2 e s' I2 hq
  | ok fl =>
    cases fl with
    | ret u => exact I2.after hq
    | next => exact False.elim hq
    | brk => exact False.elim hq
    | cont => exact False.elim hq
end
end Ev

/-! ## Sums of quotients -/
namespace Ev
def sumTo (f : Nat → Int) : Nat → Int
  | 0 => 0
  | n + 1 => sumTo f n + f n
theorem sumTo_congr {f g : Nat → Int} : ∀ n : Nat, (∀ i, i < n → f i = g i) → sumTo f n = sumTo g n
  | 0, _ => rfl
  | n + 1, h => by
    show sumTo f n + f n = sumTo g n + g n
    rw [sumTo_congr n fun i hi => h i (Nat.lt_succ_of_lt hi), h n (Nat.lt_succ_self n)]
theorem sumTo_add (f g : Nat → Int) : ∀ n : Nat, sumTo (fun i => f i + g i) n = sumTo f n + sumTo g n
  | 0 => rfl
  | n + 1 => by
    show sumTo (fun i => f i + g i) n + (f n + g n) = (sumTo f n + f n) + (sumTo g n + g n)
    rw [sumTo_add f g n]
    omega
theorem sumTo_mul (c : Int) (f : Nat → Int) : ∀ n : Nat, sumTo (fun i => c * f i) n = c * sumTo f n
  | 0 => (Int.mul_zero c).symm
  | n + 1 => by
    show sumTo (fun i => c * f i) n + c * f n = c * (sumTo f n + f n)
    rw [sumTo_mul c f n, Int.mul_add]
theorem sumTo_const (c : Int) : ∀ n : Nat, sumTo (fun _ => c) n = c * n
  | 0 => (Int.mul_zero c).symm
  | n + 1 => by
    show sumTo (fun _ => c) n + c = c * ((n + 1 : Nat) : Int)
    rw [sumTo_const c n, Int.natCast_succ, Int.mul_add, Int.mul_one]
/-- 0 + 1 + .. below n -/
def tri (n : Int) : Int := n * (n - 1) / 2
theorem tri_succ (n : Int) : tri (n + 1) = tri n + n := by
  unfold tri
  have e : (n + 1) * (n + 1 - 1) = n * (n - 1) + n * 2 := by
    rw [show n + 1 - 1 = n by omega, Int.add_mul, Int.mul_sub]
    omega
  rw [e, Int.add_mul_ediv_right _ _ (by decide)]
theorem sumTo_id : ∀ n : Nat, sumTo (fun i => (i : Int)) n = tri n
  | 0 => rfl
  | n + 1 => by
    show sumTo (fun i => (i : Int)) n + (n : Int) = tri ((n + 1 : Nat) : Int)
    rw [sumTo_id n, Int.natCast_succ, tri_succ]
theorem sumTo_head (f : Nat → Int) : ∀ n : Nat, sumTo f (n + 1) = f 0 + sumTo (fun i => f (i + 1)) n
  | 0 => by
    show (0 : Int) + f 0 = f 0 + 0
    omega
  | n + 1 => by
    show sumTo f (n + 1) + f (n + 1) = f 0 + (sumTo (fun i => f (i + 1)) n + f (n + 1))
    rw [sumTo_head f n]
    omega
theorem sumTo_rev (f : Nat → Int) : ∀ n : Nat, sumTo (fun i => f (n - 1 - i)) n = sumTo f n
  | 0 => rfl
  | n + 1 => by
    rw [sumTo_head]
    show f (n + 1 - 1 - 0) + sumTo (fun i => f (n + 1 - 1 - (i + 1))) n = sumTo f n + f n
    rw [sumTo_congr (g := fun i => f (n - 1 - i)) n fun i _ => by
      show f (n + 1 - 1 - (i + 1)) = f (n - 1 - i)
      congr 1
      omega, sumTo_rev f n, show n + 1 - 1 - 0 = n by omega]
    omega
theorem sumTo_split (f : Nat → Int) (a : Nat) : ∀ b : Nat, sumTo f (a + b) = sumTo f a + sumTo (fun i => f (a + i)) b
  | 0 => (Int.add_zero _).symm
  | b + 1 => by
    show sumTo f (a + b) + f (a + b) = sumTo f a + (sumTo (fun i => f (a + i)) b + f (a + b))
    rw [sumTo_split f a b]
    omega
theorem sumTo_list (f : Nat → Int) : ∀ n : Nat, ((List.range n).map f).sum = sumTo f n
  | 0 => rfl
  | n + 1 => by
    rw [List.range_succ, List.map_append, List.sum_append, sumTo_list f n]
    show _ + ([f n] : List Int).sum = _ + f n
    rw [List.sum_cons, List.sum_nil, Int.add_zero]
theorem sumTo_one {f g : Nat → Int} (j : Nat) : ∀ n : Nat, (∀ i, i < n → i ≠ j → f i = g i) → j < n → sumTo f n = sumTo g n + (f j - g j)
  | 0, _, h => absurd h (Nat.not_lt_zero _)
  | n + 1, h, hj => by
    show sumTo f n + f n = sumTo g n + g n + (f j - g j)
    by_cases e : j = n
    · subst e
      rw [sumTo_congr j fun i hi => h i (Nat.lt_succ_of_lt hi) (Nat.ne_of_lt hi)]
      omega
    · rw [sumTo_one j n (fun i hi ne => h i (Nat.lt_succ_of_lt hi) ne) (by omega), h n (Nat.lt_succ_self n) fun z => e z.symm]
      omega
/-- the sum of (s i + b) // m for i below n -/
def S (n : Nat) (s b m : Int) : Int := sumTo (fun i => (s * i + b) / m) n
theorem lin_div (s b m x : Int) (hm : 0 < m) : (s * x + b) / m = (s / m) * x + b / m + ((s % m) * x + b % m) / m := by
  have e1 : s = m * (s / m) + s % m := (Int.mul_ediv_add_emod s m).symm
  have e2 : b = m * (b / m) + b % m := (Int.mul_ediv_add_emod b m).symm
  have e : s * x + b = ((s % m) * x + b % m) + m * ((s / m) * x + b / m) := by
    have e3 : s * x = m * ((s / m) * x) + (s % m) * x := by
      have : (m * (s / m) + s % m) * x = m * ((s / m) * x) + (s % m) * x := by rw [Int.add_mul, Int.mul_assoc]
      rw [← e1] at this
      exact this
    rw [e3, Int.mul_add]
    omega
  rw [e, Int.add_mul_ediv_left _ _ (by omega)]
  omega
theorem S_red (n : Nat) (s b m : Int) (hm : 0 < m) : S n s b m = (s / m) * tri n + (b / m) * n + S n (s % m) (b % m) m := by
  unfold S
  rw [sumTo_congr (g := fun i => ((s / m) * (i : Int) + b / m) + ((s % m) * i + b % m) / m) n fun i _ => lin_div s b m i hm,
    sumTo_add, sumTo_add, sumTo_mul, sumTo_id, sumTo_const]
theorem S_cut (a c : Nat) (s b m : Int) : S (a + c) s b m = S a s b m + S c s (b + s * a) m := by
  unfold S
  rw [sumTo_split]
  congr 1
  refine sumTo_congr c fun i _ => ?_
  show (s * ((a + i : Nat) : Int) + b) / m = _
  rw [Int.natCast_add, Int.mul_add]
  congr 1
  omega
def yOf (a b m : Int) (n : Nat) : Nat := ((a * n + b) / m).toNat
def Rr (a b m : Int) (n : Nat) : Int := sumTo (fun j => (a * n + b - (j + 1) * m) / a) (yOf a b m n)
theorem S_R {a b m : Int} (ha : 0 < a) (ham : a < m) (hb : 0 ≤ b) (hbm : b < m) : ∀ n : Nat, S n a b m = Rr a b m n
  | 0 => by
    unfold S Rr yOf
    rw [show a * ((0 : Nat) : Int) + b = b by rw [Int.natCast_zero, Int.mul_zero, Int.zero_add], Int.ediv_eq_zero_of_lt hb hbm]
    rfl
  | n + 1 => by
    have ih := S_R ha ham hb hbm n
    have hm : 0 < m := by omega
    have hS : S (n + 1) a b m = S n a b m + (a * n + b) / m := rfl
    rw [hS, ih]
    have hx : a * ((n + 1 : Nat) : Int) + b = a * n + b + a := by
      rw [Int.natCast_succ, Int.mul_add, Int.mul_one]
      omega
    have h0 : 0 ≤ a * (n : Int) + b := by
      have : 0 ≤ a * (n : Int) := Int.mul_nonneg (by omega) (by omega)
      omega
    have hdm := Int.mul_ediv_add_emod (a * (n : Int) + b) m
    have hr0 := Int.emod_nonneg (a * (n : Int) + b) (show m ≠ 0 by omega)
    have hr1 := Int.emod_lt_of_pos (a * (n : Int) + b) hm
    have hY0 : 0 ≤ (a * (n : Int) + b) / m := Int.ediv_nonneg h0 (by omega)
    have hterm : ∀ j : Nat, (a * ((n + 1 : Nat) : Int) + b - ((j : Int) + 1) * m) / a = (a * n + b - ((j : Int) + 1) * m) / a + 1 := fun j => by
      rw [hx, show a * (n : Int) + b + a - ((j : Int) + 1) * m = (a * n + b - ((j : Int) + 1) * m) + a * 1 by omega, Int.add_mul_ediv_left _ _ (by omega)]
    have hR : Rr a b m (n + 1) = sumTo (fun j => (a * n + b - ((j : Int) + 1) * m) / a + 1) (yOf a b m (n + 1)) := by
      unfold Rr
      exact sumTo_congr _ fun j _ => hterm j
    rw [hR]
    by_cases hc : (a * (n : Int) + b) % m + a < m
    · have hy : yOf a b m (n + 1) = yOf a b m n := by
        unfold yOf
        congr 1
        rw [hx, show a * (n : Int) + b + a = ((a * (n : Int) + b) % m + a) + m * ((a * (n : Int) + b) / m) by omega, Int.add_mul_ediv_left _ _ (by omega), Int.ediv_eq_zero_of_lt (by omega) hc]
        omega
      rw [hy, sumTo_add, sumTo_const]
      unfold Rr
      have : ((yOf a b m n : Nat) : Int) = (a * (n : Int) + b) / m := by
        unfold yOf
        exact Int.toNat_of_nonneg hY0
      rw [this]
      omega
    · have hy : yOf a b m (n + 1) = yOf a b m n + 1 := by
        unfold yOf
        have : (a * ((n + 1 : Nat) : Int) + b) / m = (a * (n : Int) + b) / m + 1 := by
          rw [hx, show a * (n : Int) + b + a = ((a * (n : Int) + b) % m + a - m) + m * ((a * (n : Int) + b) / m + 1) by rw [Int.mul_add]; omega, Int.add_mul_ediv_left _ _ (by omega), Int.ediv_eq_zero_of_lt (by omega) (by omega)]
          omega
        rw [this]
        omega
      rw [hy]
      show _ = sumTo _ (yOf a b m n) + _
      rw [sumTo_add, sumTo_const]
      have hyv : ((yOf a b m n : Nat) : Int) = (a * (n : Int) + b) / m := by
        unfold yOf
        exact Int.toNat_of_nonneg hY0
      have hlast : (a * (n : Int) + b - (((yOf a b m n : Nat) : Int) + 1) * m) / a = -1 := by
        rw [hyv, show a * (n : Int) + b - ((a * (n : Int) + b) / m + 1) * m = ((a * (n : Int) + b) % m - m + a) + a * (-1) by
          rw [Int.add_mul, Int.mul_comm ((a * (n : Int) + b) / m) m]
          omega, Int.add_mul_ediv_left _ _ (by omega), Int.ediv_eq_zero_of_lt (by omega) (by omega)]
        omega
      show _ = _ + ((a * (n : Int) + b - (((yOf a b m n : Nat) : Int) + 1) * m) / a + 1)
      rw [hlast, hyv]
      unfold Rr
      omega
theorem S_flip {a b m : Int} (n : Nat) (ha : 0 ≤ a) (ham : a < m) (hb : 0 ≤ b) (hbm : b < m) : S n a b m = S ((a * n + b) / m).toNat m ((a * n + b) % m) a := by
  by_cases h : a = 0
  · subst h
    have e : ∀ i : Nat, (0 * (i : Int) + b) / m = 0 := fun i => by
      rw [Int.zero_mul, Int.zero_add]
      exact Int.ediv_eq_zero_of_lt hb hbm
    rw [e n]
    unfold S
    rw [sumTo_congr (g := fun _ => 0) n fun i _ => e i, sumTo_const, Int.zero_mul]
    rfl
  · rw [S_R (by omega) ham hb hbm n]
    unfold Rr S
    have hm : 0 < m := by omega
    have h0 : 0 ≤ a * (n : Int) + b := by
      have : 0 ≤ a * (n : Int) := Int.mul_nonneg (by omega) (by omega)
      omega
    have hdm := Int.mul_ediv_add_emod (a * (n : Int) + b) m
    have hyv : ((yOf a b m n : Nat) : Int) = (a * (n : Int) + b) / m := by
      unfold yOf
      exact Int.toNat_of_nonneg (Int.ediv_nonneg h0 (by omega))
    show sumTo _ (yOf a b m n) = sumTo _ (yOf a b m n)
    rw [← sumTo_rev (fun i => (m * (i : Int) + (a * n + b) % m) / a)]
    refine sumTo_congr _ fun j hj => ?_
    show (a * (n : Int) + b - ((j : Int) + 1) * m) / a = (m * ((yOf a b m n - 1 - j : Nat) : Int) + (a * n + b) % m) / a
    congr 1
    have e : ((yOf a b m n - 1 - j : Nat) : Int) = (a * (n : Int) + b) / m - ((j : Int) + 1) := by omega
    rw [e, Int.mul_sub, Int.mul_comm m ((j : Int) + 1)]
    omega
/-- one turn of the loop -/
theorem S_turn (n : Nat) (s b m : Int) (hm : 0 < m) : S n s b m = (s / m) * tri n + (b / m) * n + S (((s % m) * n + b % m) / m).toNat m (((s % m) * n + b % m) % m) (s % m) := by
  rw [S_red n s b m hm, S_flip n (Int.emod_nonneg _ (by omega)) (Int.emod_lt_of_pos _ hm) (Int.emod_nonneg _ (by omega)) (Int.emod_lt_of_pos _ hm)]
theorem turn_le {a b m n : Int} (ha : 0 ≤ a) (ham : a < m) (hb : 0 ≤ b) (hbm : b < m) (hn : 0 ≤ n) : 0 ≤ (a * n + b) / m ∧ (a * n + b) / m ≤ n ∧ (a = 0 → (a * n + b) / m = 0) := by
  have h1 : 0 ≤ a * n := Int.mul_nonneg ha hn
  have h2 : a * n ≤ (m - 1) * n := Int.mul_le_mul_of_nonneg_right (by omega) hn
  rw [Int.sub_mul, Int.one_mul] at h2
  refine ⟨Int.ediv_nonneg (by omega) (by omega), ?_, fun e => ?_⟩
  · have : (a * n + b) / m < n + 1 := Int.ediv_lt_of_lt_mul (by omega) (by
      rw [Int.add_mul, Int.mul_comm n m]
      omega)
    omega
  · subst e
    rw [Int.zero_mul, Int.zero_add]
    exact Int.ediv_eq_zero_of_lt hb hbm
/-! ### by the classes modulo m -/
def turnsR (n m r : Int) : Int := (n - r + m - 1) / m
theorem turns_succ {n m r : Int} (hm : 0 < m) (h : n % m = r) : turnsR (n + 1) m r = turnsR n m r + 1 ∧ turnsR n m r = n / m := by
  have e := Int.mul_ediv_add_emod n m
  unfold turnsR
  have e1 : n - r + m - 1 = (m - 1) + m * (n / m) := by omega
  have e2 : n + 1 - r + m - 1 = 0 + m * (n / m + 1) := by
    rw [Int.mul_add]
    omega
  rw [e1, e2, Int.add_mul_ediv_left _ _ (by omega), Int.add_mul_ediv_left _ _ (by omega), Int.ediv_eq_zero_of_lt (by omega) (show m - 1 < m by omega), Int.zero_ediv]
  omega
theorem turns_same {n m r : Int} (hm : 0 < m) (h0 : 0 ≤ r) (h1 : r < m) (h : n % m ≠ r) : turnsR (n + 1) m r = turnsR n m r := by
  have e := Int.mul_ediv_add_emod n m
  have e0 := Int.emod_nonneg n (show m ≠ 0 by omega)
  have e1 := Int.emod_lt_of_pos n hm
  unfold turnsR
  by_cases c : n % m < r
  · have a1 : n - r + m - 1 = (n % m - r + m - 1) + m * (n / m) := by omega
    have a2 : n + 1 - r + m - 1 = (n % m - r + m) + m * (n / m) := by omega
    have z1 : (n % m - r + m - 1) / m = 0 := Int.ediv_eq_zero_of_lt (by omega) (by omega)
    have z2 : (n % m - r + m) / m = 0 := Int.ediv_eq_zero_of_lt (by omega) (by omega)
    rw [a1, a2, Int.add_mul_ediv_left _ _ (by omega), Int.add_mul_ediv_left _ _ (by omega), z1, z2]
  · have a1 : n - r + m - 1 = (n % m - r - 1) + m * (n / m + 1) := by
      rw [Int.mul_add]
      omega
    have a2 : n + 1 - r + m - 1 = (n % m - r) + m * (n / m + 1) := by
      rw [Int.mul_add]
      omega
    have z1 : (n % m - r - 1) / m = 0 := Int.ediv_eq_zero_of_lt (by omega) (by omega)
    have z2 : (n % m - r) / m = 0 := Int.ediv_eq_zero_of_lt (by omega) (by omega)
    rw [a1, a2, Int.add_mul_ediv_left _ _ (by omega), Int.add_mul_ediv_left _ _ (by omega), z1, z2]
theorem turns_zero {n m r : Int} (hm : 0 < m) (h0 : 0 ≤ n) (h1 : r < m) (h : n ≤ r) : turnsR n m r = 0 := by
  unfold turnsR
  exact Int.ediv_eq_zero_of_lt (by omega) (by omega)
def clsT (n s b m : Int) (r : Nat) : Int := turnsR n m r * ((s * r + b) / m) + s * tri (turnsR n m r)
theorem S_cls (s b : Int) (m : Nat) (hm : 0 < m) : ∀ n : Nat, S n s b m = sumTo (clsT n s b m) m
  | 0 => by
    have z : ∀ r, r < m → clsT ((0 : Nat) : Int) s b m r = (fun _ => (0 : Int)) r := fun r hr => by
      unfold clsT
      rw [turns_zero (by omega) (by omega) (by omega) (by omega), Int.zero_mul, show tri 0 = 0 from rfl, Int.mul_zero]
      rfl
    rw [sumTo_congr m z, sumTo_const, Int.zero_mul]
    rfl
  | n + 1 => by
    have hm' : (0 : Int) < (m : Int) := by omega
    have hr0 := Int.emod_nonneg (n : Int) (show (m : Int) ≠ 0 by omega)
    have hr1 := Int.emod_lt_of_pos (n : Int) hm'
    have hj : n % m < m := Nat.mod_lt n hm
    have ej : ((n % m : Nat) : Int) = (n : Int) % (m : Int) := Int.natCast_emod n m
    rw [sumTo_one (g := clsT n s b m) (n % m) m (fun i hi ne => ?_) hj]
    · rw [← S_cls s b m hm n]
      show S n s b m + (s * (n : Int) + b) / m = _
      congr 1
      unfold clsT
      rw [Int.natCast_succ]
      obtain ⟨t1, t2⟩ := turns_succ (n := n) (m := m) (r := ((n % m : Nat) : Int)) hm' ej.symm
      rw [t1, t2, tri_succ, Int.add_mul, Int.mul_add s, Int.one_mul]
      have e := Int.mul_ediv_add_emod (n : Int) (m : Int)
      have e2 : s * (n : Int) + b = (s * ((n % m : Nat) : Int) + b) + (m : Int) * (s * ((n : Int) / m)) := by
        have : s * (n : Int) = s * ((m : Int) * ((n : Int) / m) + (n : Int) % m) := by rw [e]
        rw [this, Int.mul_add, ej, Int.mul_left_comm]
        omega
      rw [e2, Int.add_mul_ediv_left _ _ (by omega)]
      omega
    · unfold clsT
      rw [Int.natCast_succ, turns_same hm' (by omega) (by omega) (fun z => ne ?_)]
      have : ((n % m : Nat) : Int) = (i : Int) := by rw [ej, z]
      omega
end Ev

/-! ## floor_sum -/
namespace Ev
open PySem PySem.Spec PyProof.Rows L2
def topS (i : Nat) : Stmt := PySem.Challenge.pw_evensamples_k16_floor_sums.main.body.getD i (.Pass ⟨0, 0, 0, 0⟩)
theorem scFs : FnScope ["count", "step", "shift", "modulus", "total", "whole"] ["count", "step", "shift", "modulus"] (defScope (topS 1)) := ⟨rfl, rfl, rfl, by decide +kernel, rfl, by decide +kernel, by decide +kernel⟩
def spFs : Sp := fun vs H Q _ => ∃ c s b m : Int, vs = [.int c, .int s, .int b, .int m] ∧ 0 ≤ c ∧ 0 < m ∧ c.natAbs < 2 ^ 1000 ∧ s.natAbs < 2 ^ 1000 ∧ b.natAbs < 2 ^ 1000 ∧ m.natAbs < 2 ^ 1000 ∧
  ∀ H', Same H H' → Q (.int (S c.toNat s b m)) H'
theorem divp_by {i j : Int} {n : Nat} (hj : 0 < j) (h : i.natAbs < 2 ^ n) (hn : n ≤ 4000) : CDivP i j :=
  divp_ok hj (Nat.le_trans (PyProof.Rows.intBits_le h) (by omega))
theorem mul2_lt {i j k : Int} {n : Nat} (hi : i.natAbs < 2 ^ n) (hj : j.natAbs < 2 ^ n) (hk : k.natAbs < 2 ^ n) : (i * j + k).natAbs < 2 ^ (n + n + 1) := by
  have h1 := wide_lt hi hj
  have h2 : (i * j + k).natAbs ≤ (i * j).natAbs + k.natAbs := Int.natAbs_add_le _ _
  have h3 : 2 ^ n ≤ 2 ^ (n + n) := Nat.pow_le_pow_right (by decide) (by omega)
  rw [Nat.pow_succ]
  omega
def intOf : Option (Option V) → Nat
  | some (some (V.int m)) => m.toNat
  | _ => 0
def wMod (σ : L2.St) : Nat := intOf σ[3]?
theorem wMod_at {σ : L2.St} {m : Int} (h : σ[3]? = some (some (.int m))) : wMod σ = m.toNat := by
  unfold wMod
  rw [h]
  rfl
section
variable {P : Program} {w : World} {K : PySem.W.Frag} {mg : Str → Option Value} {base : Heap} {f : Addr} {fd : FuncData}
theorem ok_fs (F : Fun K "floor_sum" "floor_sum" (topS 1) f fd) (mD : mg "divmod" = none) :
    FnOk P w K mg base CX0 1 f fd ["count", "step", "shift", "modulus"] spFs := by
  refine F.ok scFs (fun vs H Q E h => ?_) (fun cdv A outer s H vs Q E hr h => ?_)
  · obtain ⟨c, s, b, m, rfl, _⟩ := h
    rfl
  · obtain ⟨c, st, b, m, rfl, c0, m0, hc, hs, hb, hm, q⟩ := h
    refine ⟨_, pss_cons (ps_set (i := 4) scFs.nd rfl (.inl rfl) pe_int)
      (pss_cons (ps_while PassesOwn.never (pt_cmpR op_gt (pv 0) pe_int (nomark _))
        (pss_cons (ps_asg (pe_callB call_divmodW (by rfl) mD (by decide +kernel) (pa_cons (pv 1) (pa_cons (pv 3) pa_nil))) (pg_tup rfl (pgs_cons (pg_name (i := 5) scFs.nd rfl (.inl rfl)) (pgs_cons (pg_name (i := 1) scFs.nd rfl (.inl rfl)) pgs_nil))))
        (pss_cons (ps_aug (i := 4) scFs.nd rfl (.inl rfl) (pe_op op_mulW (pv 5) (pe_op op_fdivW (pe_op op_mulW (pv 0) (pe_op op_sub (pv 0) pe_int)) pe_int)) ip_add)
        (pss_cons (ps_asg (pe_callB call_divmodW (by rfl) mD (by decide +kernel) (pa_cons (pv 2) (pa_cons (pv 3) pa_nil))) (pg_tup rfl (pgs_cons (pg_name (i := 5) scFs.nd rfl (.inl rfl)) (pgs_cons (pg_name (i := 2) scFs.nd rfl (.inl rfl)) pgs_nil))))
        (pss_cons (ps_aug (i := 4) scFs.nd rfl (.inl rfl) (pe_op op_mulW (pv 5) (pv 0)) ip_add)
        (pss_cons (ps_asg (pe_callB call_divmodW (by rfl) mD (by decide +kernel) (pa_cons (pe_op op_add (pe_op op_mulW (pv 1) (pv 0)) (pv 2)) (pa_cons (pv 3) pa_nil))) (pg_tup rfl (pgs_cons (pg_name (i := 0) scFs.nd rfl (.inl rfl)) (pgs_cons (pg_name (i := 2) scFs.nd rfl (.inl rfl)) pgs_nil))))
        (pss_one (ps_par (i := 1) (j := 3) rfl scFs.nd rfl rfl (by decide) rfl rfl (pa_cons (pv 3) (pa_cons (pv 1) pa_nil)) (by rfl)))))))))
      (pss_one (ps_ret (pv 4)))), ?_⟩
    refine while_by (fun σ' H' => ∃ (c' s' b' m' t' : Int) (y5 : Option V), σ' = [some (.int c'), some (.int s'), some (.int b'), some (.int m'), some (.int t'), y5] ∧ Same H H' ∧ 0 ≤ c' ∧ 0 ≤ m' ∧ (0 < m' ∨ c' = 0) ∧
        c'.natAbs < 2 ^ 1000 ∧ s'.natAbs < 2 ^ 1000 ∧ b'.natAbs < 2 ^ 1000 ∧ m'.natAbs < 2 ^ 1000 ∧ t' + S c'.toNat s' b' m' = S c.toNat st b m) (fun σ' _ => wMod σ')
      ⟨c, st, b, m, 0, none, rfl, Same.rfl', c0, by omega, .inl m0, hc, hs, hb, hm, Int.zero_add _⟩ ?_ ?_
    · rintro σ' H' ⟨c', s', b', m', t', y5, rfl, sH, c0', m0', hm0, hc', hs', hb', hm', hT⟩
      refine ⟨_, rfl, _, _, rfl, rfl, _, rfl, ite2 (fun e => ?_) (fun e => ?_)⟩
      · have hcp : 0 < c' := of_decide_eq_true e
        have mp : 0 < m' := by omega
        refine ⟨_, rfl, _, rfl, _, _, rfl, divp_by mp hs' (by decide), fun p1 n1 => ⟨p1, _, rfl, .inl (.inl upd_same), rfl, _, _, rfl, _, _, rfl, rfl, ?_⟩⟩
        have s1 := sH.trans (same_put (o := .tup [.int (s' / m'), .int (s' % m')]) n1)
        generalize upd H' p1 (.tup [.int (s' / m'), .int (s' % m')]) = H1 at s1 ⊢
        have a0 := Int.emod_nonneg s' (show m' ≠ 0 by omega)
        have a1 := Int.emod_lt_of_pos s' mp
        have d0 := Int.emod_nonneg b' (show m' ≠ 0 by omega)
        have d1 := Int.emod_lt_of_pos b' mp
        have q1 : (s' / m').natAbs < 2 ^ 1000 := Nat.lt_of_le_of_lt (Int.natAbs_ediv_le_natAbs s' m') hs'
        have q2 : (b' / m').natAbs < 2 ^ 1000 := Nat.lt_of_le_of_lt (Int.natAbs_ediv_le_natAbs b' m') hb'
        have hA : (s' % m').natAbs < 2 ^ 1000 := wide_le a0 (Int.le_of_lt a1) hm'
        have hD : (b' % m').natAbs < 2 ^ 1000 := wide_le d0 (Int.le_of_lt d1) hm'
        have hc1 : (c' - 1).natAbs < 2 ^ 1000 := wide_le (by omega) (by omega) hc'
        have hcc : (c' * (c' - 1)).natAbs < 2 ^ (1000 + 1000) := wide_lt hc' hc1
        have hcd : (c' * (c' - 1) / 2).natAbs < 2 ^ (1000 + 1000) := Nat.lt_of_le_of_lt (Int.natAbs_ediv_le_natAbs _ 2) hcc
        refine ⟨_, rfl, _, rfl, _, rfl, _, rfl, _, _, rfl, rfl, _, _, rfl, rfl, wide_mul hc' hc1 (by decide) (by decide) (by decide), _, _, rfl, rfl, ⟨by decide, by decide +kernel⟩, _, _, rfl, rfl, wide_mul q1 hcd (by decide) (by decide) (by decide), _, _, rfl, rfl, ?_⟩
        refine ⟨_, rfl, _, rfl, _, _, rfl, divp_by mp hb' (by decide), fun p2 n2 => ⟨p2, _, rfl, .inl (.inl upd_same), rfl, _, _, rfl, _, _, rfl, rfl, ?_⟩⟩
        have s2 := s1.trans (same_put (o := .tup [.int (b' / m'), .int (b' % m')]) n2)
        generalize upd H1 p2 (.tup [.int (b' / m'), .int (b' % m')]) = H2 at s2 ⊢
        refine ⟨_, rfl, _, rfl, _, rfl, _, _, rfl, rfl, wide_mul q2 hc' (by decide) (by decide) (by decide), _, _, rfl, rfl, ?_⟩
        refine ⟨_, rfl, _, rfl, _, _, rfl, rfl, wide_mul hA hc' (by decide) (by decide) (by decide), _, rfl, _, _, rfl, rfl, _, rfl, _, _, rfl, divp_by mp (mul2_lt hA hc' hD) (by decide), fun p3 n3 => ⟨p3, _, rfl, .inl (.inl upd_same), rfl, _, _, rfl, _, _, rfl, rfl, ?_⟩⟩
        have s3 := s2.trans (same_put (o := .tup [.int ((s' % m' * c' + b' % m') / m'), .int ((s' % m' * c' + b' % m') % m')]) n3)
        generalize upd H2 p3 (.tup [.int ((s' % m' * c' + b' % m') / m'), .int ((s' % m' * c' + b' % m') % m')]) = H3 at s3 ⊢
        refine ⟨_, rfl, _, rfl, _, _, rfl, ?_⟩
        obtain ⟨z0, z1, z2⟩ := turn_le a0 a1 d0 d1 c0'
        have r0 := Int.emod_nonneg (s' % m' * c' + b' % m') (show m' ≠ 0 by omega)
        have r1 := Int.emod_lt_of_pos (s' % m' * c' + b' % m') mp
        have hturn := S_turn c'.toNat s' b' m' mp
        rw [Int.toNat_of_nonneg c0'] at hturn
        refine ⟨⟨_, _, _, _, _, _, rfl, s3, z0, a0, ?_, wide_le z0 z1 hc', hm', wide_le r0 (Int.le_of_lt r1) hm', hA, ?_⟩, ?_⟩
        · by_cases h : s' % m' = 0
          · exact .inr (z2 h)
          · exact .inl (by omega)
        · rw [← hT, hturn]
          unfold tri
          dsimp only
          omega
        · refine Nat.lt_of_lt_of_eq (Nat.lt_of_le_of_lt (Nat.le_of_eq (wMod_at (m := s' % m') rfl)) ?_) (wMod_at (m := m') rfl).symm
          omega
      · have hcz : c' = 0 := by
          have : ¬ 0 < c' := of_decide_eq_false (Bool.eq_false_iff.mpr e)
          omega
        subst hcz
        have hz : t' = S c.toNat st b m := by
          rw [← hT]
          show t' = t' + 0
          omega
        subst hz
        exact ⟨_, rfl, q H' sH⟩
    · rintro σ' H' Q1 Q2 hQ ⟨v, hv, i, j, e1, e2, k, e3, h⟩
      exact ⟨v, hv, i, j, e1, e2, k, e3, hQ _ _ h⟩
end
end Ev

/-! ## What the script is drawn from -/
namespace Ev
open PySem PySem.Spec PyProof.Rows L2
theorem scPot : FnScope ["_law_script", "_law_spot", "_law_cell", "_law_own"] ["_law_script", "_law_spot"] (defScope (topS 3)) := ⟨rfl, rfl, rfl, by decide +kernel, rfl, by decide +kernel, by decide +kernel⟩
theorem scTake : FnScope ["_law_pot_here", "_law_upto", "_law_digit", "_law_prime", "_law_drawn"] ["_law_pot_here", "_law_upto"] (defScope (topS 4)) := ⟨rfl, rfl, rfl, by decide +kernel, rfl, by decide +kernel, by decide +kernel⟩
theorem scOf : FnScope ["_law_pot_here", "_law_some"] ["_law_pot_here", "_law_some"] (defScope (topS 5)) := ⟨rfl, rfl, rfl, by decide +kernel, rfl, by decide +kernel, by decide +kernel⟩
theorem scSg : FnScope ["_law_pot_here", "_law_bound"] ["_law_pot_here", "_law_bound"] (defScope (topS 6)) := ⟨rfl, rfl, rfl, by decide +kernel, rfl, by decide +kernel, by decide +kernel⟩
theorem scGr : FnScope ["_law_pot_here", "_law_found", "_law_turn"] ["_law_pot_here"] (defScope (topS 9)) := ⟨rfl, rfl, rfl, by decide +kernel, rfl, by decide +kernel, by decide +kernel⟩
/-- the numbers of a pot out of which at most n draws came by reckoning -/
def PotL (n : Nat) (xs : List V) : Prop := ∃ x y c : Int, xs = [.int x, .int y, .int c] ∧ 0 ≤ x ∧ 0 ≤ y ∧ y < 2305843009213693921 ∧ 0 ≤ c ∧ c ≤ n
/-- what stands behind draws from the pot at p -/
structure Drew (p : Addr) (H : Hp) (n : Nat) (H' : Hp) : Prop where
  bu : Bu p H H'
  at' : ∃ ys, H' p = some (.lst ys) ∧ PotL n ys
def Pot (p : Addr) (n : Nat) (H : Hp) : Prop := ∃ xs, H p = some (.lst xs) ∧ PotL n xs
theorem PotL.up {n m : Nat} {xs : List V} (h : PotL n xs) (k : n ≤ m) : PotL m xs := by
  obtain ⟨x, y, c, h1, h2, h3, h4, h5, h6⟩ := h
  exact ⟨x, y, c, h1, h2, h3, h4, h5, by omega⟩
theorem Pot.up {p : Addr} {n m : Nat} {H : Hp} (h : Pot p n H) (k : n ≤ m) : Pot p m H := by
  obtain ⟨xs, h1, h2⟩ := h
  exact ⟨xs, h1, h2.up k⟩
theorem Pot.same {p : Addr} {n : Nat} {H H' : Hp} (h : Pot p n H) (s : Same H H') : Pot p n H' := by
  obtain ⟨xs, h1, h2⟩ := h
  exact ⟨xs, s _ _ h1, h2⟩
def spPot (K : PySem.W.Frag) : Sp := fun vs H Q _ => ∃ (a : Addr) (ns : List Int) (k : Int), vs = [.ref a, .int k] ∧ SqL K H a (ns.map V.int) ∧
  0 ≤ k ∧ k ≤ 1000 ∧ ∀ p xs, H p = none → PotL 0 xs → Q (.ref p) (upd H p (.lst xs))
def spTake : Sp := fun vs H Q _ => ∃ (p : Addr) (m : Int) (n : Nat), vs = [.ref p, .int m] ∧ Pot p n H ∧ n ≤ 1000000 ∧
  0 < m ∧ m.natAbs.log2 < 9000 ∧ ∀ H' d, Bu p H H' → Pot p (n + 1) H' → 0 ≤ d → d < m → Q (.int d) H'
def spOf (K : PySem.W.Frag) : Sp := fun vs H Q _ => ∃ (p q : Addr) (zs : List V) (n : Nat), vs = [.ref p, .ref q] ∧ Pot p n H ∧ n ≤ 1000000 ∧
  p ≠ q ∧ SqL K H q zs ∧ zs ≠ [] ∧ zs.length ≤ 1000000 ∧ ∀ H' v, Bu p H H' → Pot p (n + 1) H' → v ∈ zs → Q v H'
def spSg : Sp := fun vs H Q _ => ∃ (p : Addr) (m : Int) (n : Nat), vs = [.ref p, .int m] ∧ Pot p n H ∧ n ≤ 1000000 ∧
  0 ≤ m ∧ m ≤ 10 ^ 18 ∧ ∀ H' d, Bu p H H' → Pot p (n + 1) H' → -m ≤ d → d ≤ m → Q (.int d) H'
def spGr : Sp := fun vs H Q _ => ∃ (p : Addr) (n : Nat), vs = [.ref p] ∧ Pot p n H ∧ n + 15 ≤ 1000000 ∧
  ∀ H' d, Bu p H H' → Pot p (n + 15) H' → 0 ≤ d → d ≤ 10 ^ 60 → Q (.int d) H'
theorem bigPos : (0 : Int) < (10 ^ (60 : Int).toNat) ^ (5 : Int).toNat := by decide +kernel
theorem own_nn (z m : Int) (b : Bool) (h : 0 < m) : 0 ≤ z % m * (if b = true then 1 else 0) := by
  refine Int.mul_nonneg (Int.emod_nonneg _ (by omega)) ?_
  cases b <;> decide
theorem flag_in (b : Bool) : -(2 ^ 64) < (if b = true then 1 else 0 : Int) ∧ (if b = true then 1 else 0 : Int) < 2 ^ 64 := by
  cases b <;> decide
theorem log_le {m : Int} (h1 : 1 ≤ m) (h2 : m ≤ 10 ^ 19) : m.natAbs.log2 < 9000 :=
  Nat.lt_of_lt_of_le (PySem.Flt.log2_lt_of (show 0 < 64 by decide) (show m.natAbs < 2 ^ 64 by omega)) (by decide)
theorem bu_seq {K : PySem.W.Frag} {p q : Addr} {H H' : Hp} {zs : List V} (n : q ≠ p) (h : Bu p H H') (s : SqL K H q zs) : SqL K H' q zs := by
  rcases s with (e | ⟨o, e⟩) | e
  · exact .inl (.inl (h _ _ n e))
  · exact .inl (.inr ⟨o, h _ _ n e⟩)
  · exact .inr e
section
variable {P : Program} {w : World} {K : PySem.W.Frag} {mg : Str → Option Value} {base : Heap} {f fT fO : Addr} {fd fdT fdO : FuncData}
theorem ok_pot (F : Fun K "_law_pot" "_law_pot" (topS 3) f fd) (ml : mg "len" = none) (ma : mg "abs" = none) (mi : mg "int" = none) :
    FnOk P w K mg base CX0 1 f fd ["_law_script", "_law_spot"] (spPot K) := by
  refine F.ok scPot (fun vs H Q E h => ?_) (fun cdv A outer s H vs Q E hr h => ?_)
  · obtain ⟨a, ns, k, rfl, _⟩ := h
    rfl
  · obtain ⟨a, ns, k, rfl, hS, k0, k1, q⟩ := h
    refine ⟨_, pss_cons (ps_set (i := 2) scPot.nd rfl (.inl rfl) (pe_ifExp (pt_cmpR op_lt (pv 1) (pe_callB call_len_seq (by rfl) ml PySem.boot_len (pa_cons (pv 0) pa_nil)) (nomark _)) (pe_ix ix_list (pv 0) (pv 1) (fun _ _ => rfl)) (pe_op op_add pe_int (pv 1))))
      (pss_cons (ps_set (i := 3) scPot.nd rfl (.inl rfl) (pe_op op_mul
        (pe_op op_mod (pe_callB call_abs (by rfl) ma (by decide +kernel) (pa_cons (pv 2) pa_nil)) (pe_op op_powG (pe_op op_pow pe_int pe_int) pe_int))
        (pe_callTy call_int1 (by rfl) mi (by decide +kernel) (pa_cons (pe_cmpR op_ge (pe_callB call_abs (by rfl) ma (by decide +kernel) (pa_cons (pv 2) pa_nil)) (pe_op op_pow pe_int pe_int) (nomark _)) pa_nil))))
      (pss_one (ps_ret (pe_lst (pa_cons (pv 3) (pa_cons
        (pe_op op_mod (pe_op op_add (pe_op op_add (pe_op op_mul (pe_op op_mod (pv 2) pe_int) pe_int) (pe_op op_mul (pe_op op_mul pe_int (pv 1)) (pv 1))) pe_int) pe_int)
        (pa_cons pe_int pa_nil))))))), ?_⟩
    have g : ∀ e : decide (k < ((ns.map V.int).length : Int)) = true, ∃ z : Int, atI (ns.map V.int) k = some (.int z) := fun e => by
      have hk : k < ((ns.map V.int).length : Int) := of_decide_eq_true e
      rw [List.length_map] at hk
      have hk' : k.toNat < ns.length := by omega
      refine ⟨ns[k.toNat], ?_⟩
      have z : (ns.map V.int)[k.toNat]? = some (.int ns[k.toNat]) := by
        rw [List.getElem?_map, List.getElem?_eq_getElem hk']
        rfl
      have y := atI_nat z
      rw [Int.toNat_of_nonneg k0] at y
      exact y
    refine ⟨_, rfl, _, rfl, a, _, rfl, .inl hS, k, _, rfl, rfl, _, rfl, ite2 (fun e => ⟨_, rfl, _, rfl, a, _, k, _, rfl, rfl, hS, (g e).choose_spec, ?_⟩) (fun e => ⟨_, rfl, _, _, rfl, rfl, ?_⟩)⟩
    all_goals
      refine ⟨_, rfl, _, rfl, 10, 60, rfl, rfl, ⟨by decide, by decide, by decide⟩, _, 5, rfl, rfl, ⟨by decide, by decide +kernel⟩, _, _, rfl, rfl, bigPos, ?_⟩
      refine ⟨_, rfl, _, rfl, 10, 18, rfl, rfl, ⟨by decide, by decide, by decide⟩, _, _, rfl, rfl, .inr ⟨_, rfl, _, _, rfl, rfl, .inr (flag_in _), ?_⟩⟩
      refine ⟨_, rfl, _, rfl, _, _, rfl, rfl, (show (0 : Int) < 2305843009213693951 by decide), _, _, rfl, rfl, .inr ⟨by decide, by decide⟩, _, rfl, _, _, rfl, rfl, .inl ⟨by decide, by decide⟩, _, rfl, _, _, rfl, rfl, .inr ⟨by omega, by omega⟩, ?_⟩
      refine ⟨_, _, rfl, rfl, _, _, rfl, rfl, _, _, rfl, rfl, (show (0 : Int) < 2305843009213693921 by decide), (by show 3 ≤ sizeLine; decide), fun p np => q p _ np ?_⟩
      exact ⟨_, _, 0, rfl, own_nn _ _ _ bigPos, Int.emod_nonneg _ (by decide), Int.emod_lt_of_pos _ (by decide), Int.le_refl 0, by decide⟩
theorem ok_take {k : Nat} (F : Fun K "_law_take" "_law_take" (topS 4) f fd) :
    FnOk P w K mg base CX0 (k + 1) f fd ["_law_pot_here", "_law_upto"] spTake := by
  refine F.ok scTake (fun vs H Q E h => ?_) (fun cdv A outer s H vs Q E hr h => ?_)
  · obtain ⟨p, m, n, rfl, _⟩ := h
    rfl
  · obtain ⟨p, m, n, rfl, ⟨xs, hp, ⟨x, y, c, rfl, x0, y0, y1, c0, c1⟩⟩, hn, m0, m1, q⟩ := h
    have hL : SqL K H p [.int x, .int y, .int c] := .inl (.inl hp)
    refine ⟨_, pss_cons (ps_if (pt_cmpR op_gt (pe_ix ix_list (pv 0) pe_int (fun _ _ => rfl)) pe_int (nomark _))
        (pss_cons (ps_set (i := 2) scTake.nd rfl (.inl rfl) (pe_op op_mod (pe_ix ix_list (pv 0) pe_int (fun _ _ => rfl)) (pv 1)))
        (pss_cons (ps_asg (pe_op op_fdivW (pe_ix ix_list (pv 0) pe_int (fun _ _ => rfl)) (pv 1)) (pg_sub (pv 0) pe_int set_list))
        (pss_one (ps_ret (pv 2))))) pss_nil)
      (pss_cons (ps_asg (pe_op op_add (pe_ix ix_list (pv 0) pe_int (fun _ _ => rfl)) pe_int) (pg_sub (pv 0) pe_int set_list))
      (pss_cons (ps_set (i := 3) scTake.nd rfl (.inl rfl) (pe_ix ix_list (pe_lst (pa_cons pe_int (pa_cons pe_int (pa_cons pe_int (pa_cons pe_int (pa_cons pe_int pa_nil))))))
        (pe_op op_mod (pe_ix ix_list (pv 0) pe_int (fun _ _ => rfl)) pe_int) (fun _ _ => rfl)))
      (pss_cons (ps_set (i := 4) scTake.nd rfl (.inl rfl) (pe_op op_mod (pe_op op_pow (pe_op op_add (pe_ix ix_list (pv 0) pe_int (fun _ _ => rfl)) (pe_op op_mul pe_int (pe_ix ix_list (pv 0) pe_int (fun _ _ => rfl)))) pe_int) (pv 3)))
      (pss_one (ps_ret (pe_op op_mod (pe_op op_fdivW (pe_op op_mod (pe_op op_mulW (pv 4) (pe_op op_add (pe_op op_mod (pv 4) pe_int) (pe_ix ix_list (pv 0) pe_int (fun _ _ => rfl)))) (pv 3)) pe_int) (pv 1))))))), ?_⟩
    refine ⟨_, rfl, p, _, 0, .int x, rfl, rfl, hL, rfl, _, _, rfl, rfl, _, rfl, ite2 (fun e => ?_) (fun e => ?_)⟩
    · have hx : 0 < x := of_decide_eq_true e
      refine ⟨_, rfl, p, _, 0, .int x, rfl, rfl, hL, rfl, _, rfl, _, _, rfl, rfl, m0, ?_⟩
      refine ⟨_, rfl, p, _, 0, .int x, rfl, rfl, hL, rfl, _, rfl, _, _, rfl, rfl, ⟨m0, m1⟩, _, rfl, p, _, 0, 0, rfl, rfl, hp, rfl, _, rfl, ?_⟩
      exact q _ _ Bu.put ⟨_, upd_same, ⟨_, _, _, rfl, Int.ediv_nonneg x0 (Int.le_of_lt m0), y0, y1, c0, by omega⟩⟩ (Int.emod_nonneg _ (by omega)) (Int.emod_lt_of_pos _ m0)
    · refine ⟨_, rfl, p, _, 2, .int c, rfl, rfl, hL, rfl, _, _, rfl, rfl, _, rfl, p, _, 2, 2, rfl, rfl, hp, rfl, ?_⟩
      have c0' : 0 ≤ c + 1 := by omega
      have c1' : c + 1 ≤ 1000001 := by omega
      refine ⟨(by show 5 ≤ sizeLine; decide), fun t nt => ?_⟩
      have npt : p ≠ t := fun z => by
        rw [← z, upd_same] at nt
        cases nt
      let H2 : Hp := upd (upd H p (.lst [.int x, .int y, .int (c + 1)])) t (.lst [.int 2147483647, .int 2147483629, .int 2147483587, .int 2147483579, .int 2147483563])
      have h2 : H2 p = some (.lst [.int x, .int y, .int (c + 1)]) := by
        show upd _ t _ p = _
        rw [upd_ne npt, upd_same]
      have hL2 : SqL K H2 p [.int x, .int y, .int (c + 1)] := .inl (.inl h2)
      have hb : Bu p H H2 := Bu.trans Bu.put (Bu.new nt)
      have hT : SqL K H2 t [.int 2147483647, .int 2147483629, .int 2147483587, .int 2147483579, .int 2147483563] := .inl (.inl upd_same)
      obtain ⟨pr, hpr, p1, p2⟩ : ∃ pr : Int, atI [V.int 2147483647, .int 2147483629, .int 2147483587, .int 2147483579, .int 2147483563] ((c + 1) % 5) = some (.int pr) ∧ 0 < pr ∧ pr < 2147483648 := by
        have r0 : 0 ≤ (c + 1) % 5 := Int.emod_nonneg _ (by decide)
        have r1 : (c + 1) % 5 < 5 := Int.emod_lt_of_pos _ (by decide)
        generalize (c + 1) % 5 = r at r0 r1
        have : r = 0 ∨ r = 1 ∨ r = 2 ∨ r = 3 ∨ r = 4 := by omega
        rcases this with rfl | rfl | rfl | rfl | rfl
        · exact ⟨_, rfl, by decide, by decide⟩
        · exact ⟨_, rfl, by decide, by decide⟩
        · exact ⟨_, rfl, by decide, by decide⟩
        · exact ⟨_, rfl, by decide, by decide⟩
        · exact ⟨_, rfl, by decide, by decide⟩
      refine ⟨_, rfl, p, _, 2, .int (c + 1), rfl, rfl, hL2, rfl, _, _, rfl, rfl, (show (0 : Int) < 5 by decide), t, _, _, _, rfl, rfl, hT, hpr, ?_⟩
      have pb : CPow (y + 7919 * (c + 1)) 3 := ⟨by decide, by decide, by omega⟩
      refine ⟨_, rfl, p, _, 1, .int y, rfl, rfl, hL2, rfl, _, rfl, p, _, 2, .int (c + 1), rfl, rfl, hL2, rfl, _, _, rfl, rfl, .inl ⟨by decide, by decide⟩, _, _, rfl, rfl, _, _, rfl, rfl, pb, _, rfl, _, _, rfl, rfl, p1, ?_⟩
      have u0 : 0 ≤ (y + 7919 * (c + 1)) ^ (3 : Int).toNat % pr := Int.emod_nonneg _ (by omega)
      have u1 : (y + 7919 * (c + 1)) ^ (3 : Int).toNat % pr < pr := Int.emod_lt_of_pos _ p1
      have fin := fun d => q H2 d hb ⟨_, h2, ⟨x, y, c + 1, rfl, x0, y0, y1, c0', by omega⟩⟩
      show gName 4 (V.int ((y + 7919 * (c + 1)) ^ (3 : Int).toNat % pr)) _ _ _
      generalize (y + 7919 * (c + 1)) ^ (3 : Int).toNat % pr = u at u0 u1 ⊢
      have v0 : 0 ≤ u % 1013 := Int.emod_nonneg _ (by decide)
      have v1 : u % 1013 < 1013 := Int.emod_lt_of_pos _ (by decide)
      refine ⟨_, rfl, _, rfl, _, _, rfl, rfl, (show (0 : Int) < 1013 by decide), _, rfl, p, _, 2, .int (c + 1), rfl, rfl, hL2, rfl, _, _, rfl, rfl, ?_⟩
      refine ⟨_, _, rfl, rfl, wide_mul (a := 40) (b := 40) (by omega) (by omega) (by decide) (by decide) (by decide), _, rfl, _, _, rfl, rfl, p1, _, _, rfl, rfl, ⟨by decide, by decide +kernel⟩, _, rfl, _, _, rfl, rfl, m0, ?_⟩
      exact fin _ (Int.emod_nonneg _ (by omega)) (Int.emod_lt_of_pos _ m0)
theorem ok_of (F : Fun K "_law_of" "_law_of" (topS 5) f fd) (GT : FnOk P w K mg base CX0 1 fT fdT ["_law_pot_here", "_law_upto"] spTake) (bT : Binds K fdT ["_law_pot_here", "_law_upto"] [])
    (gT : mg "_law_take" = some (.ref fT)) (kT : PySem.W.keepIn K (.ref fT) = true) (ml : mg "len" = none) :
    FnOk P w K mg base CX0 2 f fd ["_law_pot_here", "_law_some"] (spOf K) := by
  refine F.ok scOf (fun vs H Q E h => ?_) (fun cdv A outer s H vs Q E hr h => ?_)
  · obtain ⟨p, r, zs, n, rfl, _⟩ := h
    rfl
  · obtain ⟨p, r, zs, n, rfl, hp, hn, ne, hS, z0, z1, q⟩ := h
    refine ⟨_, pss_one (ps_ret (pe_ix ix_list (pv 1) (pe_call GT hr (by rfl) gT kT bT .nil pass0 (pa_cons (pv 0) (pa_cons (pe_callB call_len_seq (by rfl) ml PySem.boot_len (pa_cons (pv 1) pa_nil)) pa_nil))) (fun _ _ => rfl))), ?_⟩
    have hz : 0 < zs.length := by
      cases zs with
      | nil => exact absurd rfl z0
      | cons _ _ => exact Nat.succ_pos _
    have hlog : ((zs.length : Nat) : Int).natAbs.log2 < 9000 := log_le (by omega) (by omega)
    refine ⟨_, rfl, _, rfl, _, rfl, r, zs, rfl, .inl hS, p, _, n, rfl, hp, hn, by omega, hlog, fun H' d hb hP d0 d1 => ?_⟩
    have hd : d.toNat < zs.length := by omega
    have hS' : SqL K H' r zs := bu_seq (Ne.symm ne) hb hS
    have g : atI zs d = some zs[d.toNat] := by
      have y := atI_nat (List.getElem?_eq_getElem hd)
      rw [Int.toNat_of_nonneg d0] at y
      exact y
    exact ⟨r, zs, d, _, rfl, rfl, hS', g, q H' _ hb hP (List.getElem_mem hd)⟩
theorem ok_sg (F : Fun K "_law_signed" "_law_signed" (topS 6) f fd) (GT : FnOk P w K mg base CX0 1 fT fdT ["_law_pot_here", "_law_upto"] spTake) (bT : Binds K fdT ["_law_pot_here", "_law_upto"] [])
    (gT : mg "_law_take" = some (.ref fT)) (kT : PySem.W.keepIn K (.ref fT) = true) :
    FnOk P w K mg base CX0 2 f fd ["_law_pot_here", "_law_bound"] spSg := by
  refine F.ok scSg (fun vs H Q E h => ?_) (fun cdv A outer s H vs Q E hr h => ?_)
  · obtain ⟨p, m, n, rfl, _⟩ := h
    rfl
  · obtain ⟨p, m, n, rfl, hp, hn, m0, m1, q⟩ := h
    refine ⟨_, pss_one (ps_ret (pe_op op_sub (pe_call GT hr (by rfl) gT kT bT .nil pass0 (pa_cons (pv 0) (pa_cons (pe_op op_add (pe_op op_mul pe_int (pv 1)) pe_int) pa_nil))) (pv 1))), ?_⟩
    refine ⟨_, rfl, _, rfl, _, _, rfl, rfl, .inl ⟨by decide, by decide⟩, _, _, rfl, rfl, p, _, n, rfl, hp, hn, by omega, log_le (by omega) (by omega), fun H' d hb hP d0 d1 => ?_⟩
    exact ⟨_, rfl, _, _, rfl, rfl, q H' _ hb hP (by omega) (by omega)⟩
theorem ok_gr (F : Fun K "_law_great" "_law_great" (topS 9) f fd) (GT : FnOk P w K mg base CX0 1 fT fdT ["_law_pot_here", "_law_upto"] spTake) (bT : Binds K fdT ["_law_pot_here", "_law_upto"] [])
    (gT : mg "_law_take" = some (.ref fT)) (kT : PySem.W.keepIn K (.ref fT) = true) (GO : FnOk P w K mg base CX0 2 fO fdO ["_law_pot_here", "_law_some"] (spOf K)) (bO : Binds K fdO ["_law_pot_here", "_law_some"] [])
    (gO : mg "_law_of" = some (.ref fO)) (kO : PySem.W.keepIn K (.ref fO) = true) (mR : mg "range" = none) (mm : mg "min" = none) :
    FnOk P w K mg base CX0 3 f fd ["_law_pot_here"] spGr := by
  refine F.ok scGr (fun vs H Q E h => ?_) (fun cdv A outer s H vs Q E hr h => ?_)
  · obtain ⟨p, n, rfl, _⟩ := h
    rfl
  · obtain ⟨p, n, rfl, hp, hn, q⟩ := h
    have hr1 : Room 1 _ := hr.mono (show 1 ≤ 2 by decide)
    refine ⟨_, pss_cons (ps_set (i := 1) scGr.nd rfl (.inl rfl) pe_int)
      (pss_cons (ps_for PassesOwn.never rfl (pi_range1 rfl mR (pa_cons (pe_op op_add pe_int (pe_call GT hr1 (by rfl) gT kT bT .nil pass0 (pa_cons (pv 0) (pa_cons pe_int pa_nil)))) pa_nil)) (pg_name (i := 2) scGr.nd rfl (.inl rfl))
        (pss_one (ps_set (i := 1) scGr.nd rfl (.inl rfl) (pe_op op_add (pe_op op_mul (pv 1) (pe_op op_pow pe_int pe_int)) (pe_call GO hr (by rfl) gO kO bO .nil pass0 (pa_cons (pv 0) (pa_cons (pe_lst (pa_cons (pe_call GT hr1 (by rfl) gT kT bT .nil pass0 (pa_cons (pv 0) (pa_cons (pe_op op_pow pe_int pe_int) pa_nil))) (pa_cons (pe_op op_sub (pe_op op_pow pe_int pe_int) pe_int) pa_nil))) pa_nil)))))))
      (pss_one (ps_ret (pe_callB (call_min2 rfl) (by rfl) mm (by decide +kernel) (pa_cons (pv 1) (pa_cons (pe_op op_pow pe_int pe_int) pa_nil)))))), ?_⟩
    have p9 : (10 : Int) ^ (9 : Int).toNat = 1000000000 := by decide
    refine ⟨_, rfl, p, 7, n, rfl, hp, by omega, by decide, by decide +kernel, fun H1 d hb1 hP1 d0 d1 => ⟨_, _, rfl, rfl, _, rfl, by omega, by omega, for_range (lo := 0) (n := (1 + d).toNat)
      (fun i σ' H' => ∃ (y2 : Option V) (fnd : Int), σ' = [some (.ref p), some (.int fnd), y2] ∧ 0 ≤ fnd ∧ Bu p H H' ∧ Pot p (n + 1 + 2 * i) H') ⟨none, 0, rfl, Int.le_refl 0, hb1, hP1⟩ ?_ ?_⟩⟩
    · rintro i σ' H' hi ⟨y2, fnd, rfl, f0, hb', hP'⟩
      refine ⟨_, rfl, 10, 9, rfl, rfl, ⟨by decide, by decide, by decide⟩, _, _, rfl, rfl, .inr (by rw [p9]; decide), _, rfl, _, rfl, 10, 9, rfl, rfl, ⟨by decide, by decide, by decide⟩, p, _, n + 1 + 2 * i, rfl, hP', by omega, by rw [p9]; decide, by rw [p9]; decide +kernel, fun H2 e hb2 hP2 e0 e1 => ?_⟩
      refine ⟨10, 9, rfl, rfl, ⟨by decide, by decide, by decide⟩, _, _, rfl, rfl, (by show 2 ≤ sizeLine; decide), fun l nl => ?_⟩
      have npl : p ≠ l := by
        obtain ⟨xs, hx, _⟩ := hP2
        exact ne_of_none hx nl
      refine ⟨p, l, _, n + 1 + 2 * i + 1, rfl, hP2.same (same_put nl), by omega, npl, .inl (.inl upd_same), by simp, by simp, fun H3 v hb3 hP3 hv => ?_⟩
      obtain ⟨z, rfl, z0⟩ : ∃ z : Int, v = .int z ∧ 0 ≤ z := by
        rcases List.mem_cons.mp hv with h | h
        · exact ⟨_, h, e0⟩
        · rw [List.mem_singleton.mp h]
          exact ⟨_, rfl, by decide⟩
      refine ⟨_, _, rfl, rfl, _, _, rfl, ?_, ((hb'.trans hb2).trans (Bu.new nl)).trans hb3, hP3.up (by omega)⟩
      have : 0 ≤ fnd * (10 : Int) ^ (9 : Int).toNat := Int.mul_nonneg f0 (by decide)
      omega
    · rintro σ' H' ⟨y2, fnd, rfl, f0, hb', hP'⟩
      refine ⟨_, rfl, 10, 60, rfl, rfl, ⟨by decide, by decide, by decide⟩, _, _, rfl, q H' _ hb' (hP'.up (by omega)) ?_ ?_⟩
      · split
        · decide
        · exact f0
      · have p60 : (10 : Int) ^ (60 : Int).toNat = 10 ^ 60 := by decide +kernel
        rw [p60]
        split <;> omega
end
end Ev

/-! ## The law's questions -/
namespace Ev
open PySem PySem.Spec PyProof.Rows L2
/-- repr of an int -/
def rReprI : List V → Hp → VK → Prop := fun xs H Q => ∃ i : Int, xs = [.int i] ∧ i.natAbs.log2 < 1920 ∧ Q (.str (toString i)) H
theorem call_reprI {X : Cx} : CallR X (.builtin "repr") rReprI := by
  intro pins s σ H xs us Q I r h
  obtain ⟨i, rfl, hi, q⟩ := h
  cases r with
  | cons r1 r2 =>
    cases r2
    obtain ⟨t, rfl⟩ := r1
    exact PySem.P.repr_of_int hi ⟨.str _, H, I.tok _, ⟨_, rfl⟩, q⟩
theorem sumTo_abs {f : Nat → Int} {B : Nat} : ∀ n : Nat, (∀ i, i < n → (f i).natAbs ≤ B) → (sumTo f n).natAbs ≤ n * B
  | 0, _ => Nat.zero_le _
  | n + 1, h => by
    have h1 := sumTo_abs n fun i hi => h i (Nat.lt_succ_of_lt hi)
    have h2 := h n (Nat.lt_succ_self n)
    have h3 : (sumTo f n + f n).natAbs ≤ (sumTo f n).natAbs + (f n).natAbs := Int.natAbs_add_le _ _
    show (sumTo f n + f n).natAbs ≤ (n + 1) * B
    rw [Nat.succ_mul]
    omega
theorem S_abs (n : Nat) (s b m : Int) : (S n s b m).natAbs ≤ n * (s.natAbs * n + b.natAbs) := by
  refine sumTo_abs n fun i hi => ?_
  refine Nat.le_trans (Int.natAbs_ediv_le_natAbs _ _) ?_
  have h1 : (s * (i : Int) + b).natAbs ≤ (s * (i : Int)).natAbs + b.natAbs := Int.natAbs_add_le _ _
  rw [Int.natAbs_mul, Int.natAbs_natCast] at h1
  have h2 : s.natAbs * i ≤ s.natAbs * n := Nat.mul_le_mul_left _ (Nat.le_of_lt hi)
  omega
/-- a question: true, whatever is drawn; at most c draws -/
def spAsk (c : Nat) : Sp := fun vs H Q _ => ∃ (p : Addr) (n : Nat), vs = [.ref p] ∧ Pot p n H ∧ n + c ≤ 1000000 ∧ ∀ H', Bu p H H' → Pot p (n + c) H' → Q (.bl true) H'
theorem scSm : FnScope ["_law_pot_here", "_law_many", "_law_base", "_law_slope", "_law_shifted", "_law_due", "_law_at"] ["_law_pot_here"] (defScope (topS 7)) := ⟨rfl, rfl, rfl, by decide +kernel, rfl, by decide +kernel, by decide +kernel⟩
theorem scMn : FnScope ["_law_pot_here", "_law_base", "_law_many", "_law_slope", "_law_shifted", "_law_due", "_law_rest", "_law_turns"] ["_law_pot_here"] (defScope (topS 8)) := ⟨rfl, rfl, rfl, by decide +kernel, rfl, by decide +kernel, by decide +kernel⟩
theorem scCt : FnScope ["_law_pot_here", "_law_many", "_law_base", "_law_at", "_law_slope", "_law_shifted", "_law_whole", "_law_rest", "_law_often"] ["_law_pot_here"] (defScope (topS 10)) := ⟨rfl, rfl, rfl, by decide +kernel, rfl, by decide +kernel, by decide +kernel⟩
theorem Pot.ne {p l : Addr} {n : Nat} {H : Hp} (h : Pot p n H) (nl : H l = none) : p ≠ l := by
  obtain ⟨xs, hx, _⟩ := h
  exact ne_of_none hx nl
theorem w1000 {i : Int} (h : i.natAbs < 2 ^ 250) : i.natAbs < 2 ^ 1000 := Nat.lt_of_lt_of_le h (Nat.pow_le_pow_right (by decide) (by decide))
theorem dec_int (x : Int) : decide (V.int x = V.int x) = true := decide_eq_true rfl
theorem dec_str (x : Str) : decide (V.str x = V.str x) = true := decide_eq_true rfl
section
variable {P : Program} {w : World} {K : PySem.W.Frag} {mg : Str → Option Value} {base : Heap} {f fT fO fS fF fG : Addr} {fd fdT fdO fdS fdF fdG : FuncData}
theorem ok_sm (F : Fun K "_law_small_right" "_law_small_right" (topS 7) f fd) (GT : FnOk P w K mg base CX0 1 fT fdT ["_law_pot_here", "_law_upto"] spTake) (bT : Binds K fdT ["_law_pot_here", "_law_upto"] [])
    (gT : mg "_law_take" = some (.ref fT)) (kT : PySem.W.keepIn K (.ref fT) = true) (GO : FnOk P w K mg base CX0 2 fO fdO ["_law_pot_here", "_law_some"] (spOf K)) (bO : Binds K fdO ["_law_pot_here", "_law_some"] [])
    (gO : mg "_law_of" = some (.ref fO)) (kO : PySem.W.keepIn K (.ref fO) = true) (GS : FnOk P w K mg base CX0 2 fS fdS ["_law_pot_here", "_law_bound"] spSg) (bS : Binds K fdS ["_law_pot_here", "_law_bound"] [])
    (gS : mg "_law_signed" = some (.ref fS)) (kS : PySem.W.keepIn K (.ref fS) = true) (GF : FnOk P w K mg base CX0 1 fF fdF ["count", "step", "shift", "modulus"] spFs) (bF : Binds K fdF ["count", "step", "shift", "modulus"] [])
    (hbF : ∀ (s : Shared) (us : List Value), us.length = 4 → BindsTo s fdF ⟨[], (["modulus", "shift", "step", "count"] : List Str).zip us⟩ ((["count", "step", "shift", "modulus"] : List Str).zip us.reverse))
    (gF : mg "floor_sum" = some (.ref fF)) (kF : PySem.W.keepIn K (.ref fF) = true) (mR : mg "range" = none) (mS : mg "sum" = none) (mr : mg "repr" = none) :
    FnOk P w K mg base CX0 3 f fd ["_law_pot_here"] (spAsk 8) := by
  refine F.ok scSm (fun vs H Q E h => ?_) (fun cdv A outer s H vs Q E hr h => ?_)
  · obtain ⟨p, n, rfl, _⟩ := h
    rfl
  · obtain ⟨p, n, rfl, hp, hn, q⟩ := h
    have hr1 : Room 1 _ := hr.mono (show 1 ≤ 2 by decide)
    refine ⟨_, pss_cons (ps_asg (pe_tup (pa_cons (pe_call GT hr1 (by rfl) gT kT bT .nil pass0 (pa_cons (pv 0) (pa_cons pe_int pa_nil)))
          (pa_cons (pe_op op_add pe_int (pe_call GO hr (by rfl) gO kO bO .nil pass0 (pa_cons (pv 0) (pa_cons (pe_lst (pa_cons (pe_call GT hr1 (by rfl) gT kT bT .nil pass0 (pa_cons (pv 0) (pa_cons pe_int pa_nil))) (pa_cons (pe_call GT hr1 (by rfl) gT kT bT .nil pass0 (pa_cons (pv 0) (pa_cons (pe_op op_pow pe_int pe_int) pa_nil))) pa_nil))) pa_nil)))) pa_nil)))
          (pg_tup rfl (pgs_cons (pg_name (i := 1) scSm.nd rfl (.inl rfl)) (pgs_cons (pg_name (i := 2) scSm.nd rfl (.inr rfl)) pgs_nil))))
      (pss_cons (ps_asg (pe_tup (pa_cons (pe_call GS hr (by rfl) gS kS bS .nil pass0 (pa_cons (pv 0) (pa_cons (pe_op op_mul pe_int (pv 2)) pa_nil))) (pa_cons (pe_call GS hr (by rfl) gS kS bS .nil pass0 (pa_cons (pv 0) (pa_cons (pe_op op_mul pe_int (pv 2)) pa_nil))) pa_nil)))
          (pg_tup rfl (pgs_cons (pg_name (i := 3) scSm.nd rfl (.inr rfl)) (pgs_cons (pg_name (i := 4) scSm.nd rfl (.inr rfl)) pgs_nil))))
      (pss_cons (ps_set (i := 5) scSm.nd rfl (.inl rfl) (pe_callB (cr_sum rfl) (by rfl) mS (by decide +kernel) (pa_cons (pe_lc (own := [("_law_at", 6)]) (g := gName 6) (tt := tYes) (te := tOp (rI CDivW fun i j => .int (i / j)) (tOp (rI0 fun i j => .int (i + j)) (tOp (rI CMul fun i j => .int (i * j)) (tVar 3) (tVar 6)) (tVar 4)) (tVar 2)) rfl scSm.nd (pi_range1 rfl mR (pa_cons (pv 1) pa_nil))
          (blkOk_by (N := ["_law_pot_here", "_law_many", "_law_base", "_law_slope", "_law_shifted", "_law_due", "_law_at"]) (sc := defScope (topS 7)) (by decide +kernel)) (fun _ _ _ _ _ => pg_name (i := 6) scSm.nd rfl (Or.inl rfl)) (fun _ _ _ _ _ => pts_nil)
          (fun _ _ _ _ _ => pe_op op_fdivW (pe_op op_add (pe_op op_mul (pv 3) (pv 6)) (pv 4)) (pv 2))) pa_nil)))
      (pss_cons (ps_if (pt_cmpR op_ne (pe_callB call_reprI (by rfl) mr (by decide +kernel) (pa_cons (pe_call GF hr1 (by rfl) gF kF bF .nil pass0 (pa_cons (pv 1) (pa_cons (pv 3) (pa_cons (pv 4) (pa_cons (pv 2) pa_nil))))) pa_nil)) (pe_callB call_reprI (by rfl) mr (by decide +kernel) (pa_cons (pv 5) pa_nil)) (nomark _)) (pss_one (ps_ret pe_bl)) pss_nil)
      (pss_one (ps_ret (pe_cmpR op_eq (pe_callKs (ks := ["modulus", "shift", "step", "count"]) List.reverse GF hr1 (by rfl) gF kF hbF (fun zs us _ r => r.reverse) pass0 (pk_cons (pv 2) (pk_cons (pv 4) (pk_cons (pv 3) (pk_cons (pv 1) pk_nil))))
          (fun zs H Q E h => by
            obtain ⟨c, s, b, m, e, _⟩ := h
            have z := congrArg List.length e
            rw [List.length_reverse] at z
            exact z)) (pv 5) (nomark _))))))), ?_⟩
    have p6 : (10 : Int) ^ (6 : Int).toNat = 1000000 := by decide
    have y := sizeLine_eq
    refine ⟨_, rfl, p, 60, n, rfl, hp, by omega, by decide, by decide +kernel, fun H1 many hb1 hP1 k0 k1 => ?_⟩
    refine ⟨_, rfl, _, rfl, p, 9, n + 1, rfl, hP1, by omega, by decide, by decide +kernel, fun H2 d2 hb2 hP2 a0 a1 => ?_⟩
    refine ⟨_, rfl, 10, 6, rfl, rfl, ⟨by decide, by decide, by decide⟩, p, _, n + 2, rfl, hP2, by omega, by rw [p6]; decide, by rw [p6]; decide +kernel, fun H3 d3 hb3 hP3 b0 b1 => ?_⟩
    rw [p6] at b1
    refine ⟨(by show 2 ≤ sizeLine; decide), fun l nl => ?_⟩
    have npl := hP3.ne nl
    refine ⟨p, l, _, n + 3, rfl, hP3.same (same_put nl), by omega, npl, .inl (.inl upd_same), by simp, by simp, fun H4 v hb4 hP4 hv => ?_⟩
    obtain ⟨z, rfl, z0, z1⟩ : ∃ z : Int, v = .int z ∧ 0 ≤ z ∧ z < 1000000 := by
      rcases List.mem_cons.mp hv with h | h
      · exact ⟨_, h, a0, by omega⟩
      · rw [List.mem_singleton.mp h]
        exact ⟨_, rfl, b0, b1⟩
    refine ⟨_, _, rfl, rfl, (by show 2 ≤ sizeLine; decide), fun t nt => ⟨t, _, rfl, .inl (.inl upd_same), rfl, _, _, rfl, _, _, rfl, rfl, ?_⟩⟩
    have hbt : Bu p H (upd H4 t (.tup [.int many, .int (1 + z)])) := ((((hb1.trans hb2).trans hb3).trans (Bu.new nl)).trans hb4).trans (Bu.new nt)
    have hP5 : Pot p (n + 4) (upd H4 t (.tup [.int many, .int (1 + z)])) := hP4.same (same_put nt)
    generalize upd H4 t (.tup [.int many, .int (1 + z)]) = H5 at hbt hP5 ⊢
    refine ⟨_, rfl, _, rfl, _, _, rfl, rfl, .inl ⟨by decide, by decide⟩, p, _, n + 4, rfl, hP5, by omega, by omega, by omega, fun H6 sl hb6 hP6 s0 s1 => ?_⟩
    refine ⟨_, rfl, _, rfl, _, _, rfl, rfl, .inl ⟨by decide, by decide⟩, p, _, n + 5, rfl, hP6, by omega, by omega, by omega, fun H7 sh hb7 hP7 h0 h1 => ?_⟩
    refine ⟨(by show 2 ≤ sizeLine; decide), fun t' nt' => ⟨t', _, rfl, .inl (.inl upd_same), rfl, _, _, rfl, _, _, rfl, rfl, ?_⟩⟩
    have hb8 : Bu p H (upd H7 t' (.tup [.int sl, .int sh])) := ((hbt.trans hb6).trans hb7).trans (Bu.new nt')
    have hP8 : Pot p (n + 6) (upd H7 t' (.tup [.int sl, .int sh])) := hP7.same (same_put nt')
    generalize upd H7 t' (.tup [.int sl, .int sh]) = H8 at hb8 hP8 ⊢
    let g : Nat → Int := fun i => (sl * i + sh) / (1 + z)
    refine ⟨_, rfl, many, rfl, by omega, by omega, fun D nD => ?_⟩
    refine lc_range (lo := 0) (n := many.toNat) (fun k H' => Same H8 H' ∧ H' D = some (.lst (((List.range k).map g).map V.int))) ⟨same_put nD, upd_same⟩ ?_ ?_
    · rintro k H' hk ⟨s', eD⟩
      refine ⟨rfl, _, rfl, _, rfl, _, _, rfl, rfl, .inl ⟨by omega, by omega⟩, _, rfl, _, _, rfl, rfl, _, rfl, _, _, rfl, rfl, ⟨by omega, log_le (by omega) (by omega)⟩, _, eD, by rw [List.length_map, List.length_map, List.length_range]; omega, ?_, ?_⟩
      · intro b o e
        rw [upd_ne (ne_of_none e nD)]
        exact s' _ _ e
      · rw [upd_same, List.range_succ, List.map_append, List.map_append]
        show _ = some (HO.lst (_ ++ [V.int ((sl * (k : Int) + sh) / (1 + z))]))
        rw [Int.zero_add]
    · rintro H9 ⟨s9, eD⟩
      have hsum : ((List.range many.toNat).map g).sum = S many.toNat sl sh (1 + z) := sumTo_list g _
      refine ⟨D, _, rfl, .inl (.inl eD), ?_⟩
      rw [hsum]
      have hS : (S many.toNat sl sh (1 + z)).natAbs < 2 ^ 60 := by
        have h := S_abs many.toNat sl sh (1 + z)
        have h2 : sl.natAbs * many.toNat ≤ 3000000 * 60 := Nat.mul_le_mul (by omega) (by omega)
        have h3 : many.toNat * (sl.natAbs * many.toNat + sh.natAbs) ≤ 60 * (3000000 * 60 + 5000000) := Nat.mul_le_mul (by omega) (by omega)
        omega
      have hlog : (S many.toNat sl sh (1 + z)).natAbs.log2 < 1920 := Nat.lt_of_lt_of_le (PySem.Flt.log2_lt_of (show 0 < 60 by decide) hS) (by decide)
      refine ⟨_, rfl, _, rfl, _, rfl, _, rfl, many, sl, sh, 1 + z, rfl, k0, by omega, w1000 (by omega), w1000 (by omega), w1000 (by omega), w1000 (by omega), fun H10 s10 => ?_⟩
      refine ⟨_, rfl, hlog, _, rfl, _, rfl, hlog, rfl, _, rfl, ?_⟩
      rw [dec_str]
      refine iteF ?_
      refine ⟨_, rfl, _, rfl, _, rfl, _, rfl, many, sl, sh, 1 + z, rfl, k0, by omega, w1000 (by omega), w1000 (by omega), w1000 (by omega), w1000 (by omega), fun H11 s11 => ?_⟩
      refine ⟨_, rfl, rfl, ?_⟩
      rw [dec_int]
      have sE := (s9.trans s10).trans s11
      exact q H11 (hb8.trans (Bu.of sE)) ((hP8.same sE).up (by omega))
end
end Ev

/-! ## Many terms, sums that are cut -/
namespace Ev
open PySem PySem.Spec PyProof.Rows L2
theorem abs_lt {i : Int} {n : Nat} (h1 : -(2 ^ n : Nat) < i) (h2 : i < (2 ^ n : Nat)) : i.natAbs < 2 ^ n := by omega
theorem w_up {i : Int} {n m : Nat} (h : i.natAbs < 2 ^ n) (k : n ≤ m) : i.natAbs < 2 ^ m := Nat.lt_of_lt_of_le h (Nat.pow_le_pow_right (by decide) k)
theorem w_add {i j : Int} {n : Nat} (h : i.natAbs < 2 ^ n) (k : j.natAbs < 2 ^ n) : (i + j).natAbs < 2 ^ (n + 1) := by
  have := Int.natAbs_add_le i j
  rw [Nat.pow_succ]
  omega
theorem w_sgn {i j : Int} {n : Nat} (h : i.natAbs < 2 ^ n) (k : j = 1 ∨ j = -1) : (i * j).natAbs < 2 ^ n := by
  rcases k with rfl | rfl
  · rw [Int.mul_one]
    exact h
  · rw [Int.mul_neg, Int.mul_one, Int.natAbs_neg]
    exact h
section
variable {P : Program} {w : World} {K : PySem.W.Frag} {mg : Str → Option Value} {base : Heap} {f fT fO fS fF fG : Addr} {fd fdT fdO fdS fdF fdG : FuncData}
theorem ok_mn (F : Fun K "_law_many_right" "_law_many_right" (topS 8) f fd) (GT : FnOk P w K mg base CX0 1 fT fdT ["_law_pot_here", "_law_upto"] spTake) (bT : Binds K fdT ["_law_pot_here", "_law_upto"] [])
    (gT : mg "_law_take" = some (.ref fT)) (kT : PySem.W.keepIn K (.ref fT) = true) (GO : FnOk P w K mg base CX0 2 fO fdO ["_law_pot_here", "_law_some"] (spOf K)) (bO : Binds K fdO ["_law_pot_here", "_law_some"] [])
    (gO : mg "_law_of" = some (.ref fO)) (kO : PySem.W.keepIn K (.ref fO) = true) (GS : FnOk P w K mg base CX0 2 fS fdS ["_law_pot_here", "_law_bound"] spSg) (bS : Binds K fdS ["_law_pot_here", "_law_bound"] [])
    (gS : mg "_law_signed" = some (.ref fS)) (kS : PySem.W.keepIn K (.ref fS) = true) (GF : FnOk P w K mg base CX0 1 fF fdF ["count", "step", "shift", "modulus"] spFs) (bF : Binds K fdF ["count", "step", "shift", "modulus"] [])
    (gF : mg "floor_sum" = some (.ref fF)) (kF : PySem.W.keepIn K (.ref fF) = true) (mR : mg "range" = none) (mr : mg "repr" = none) :
    FnOk P w K mg base CX0 3 f fd ["_law_pot_here"] (spAsk 8) := by
  refine F.ok scMn (fun vs H Q E h => ?_) (fun cdv A outer s H vs Q E hr h => ?_)
  · obtain ⟨p, n, rfl, _⟩ := h
    rfl
  · obtain ⟨p, n, rfl, hp, hn, q⟩ := h
    have hr1 : Room 1 _ := hr.mono (show 1 ≤ 2 by decide)
    refine ⟨_, pss_cons (ps_par (i := 1) (j := 2) rfl scMn.nd rfl rfl (by decide) rfl rfl (pa_cons (pe_op op_add pe_int (pe_call GT hr1 (by rfl) gT kT bT .nil pass0 (pa_cons (pv 0) (pa_cons pe_int pa_nil))))
          (pa_cons (pe_call GO hr (by rfl) gO kO bO .nil pass0 (pa_cons (pv 0) (pa_cons (pe_lst (pa_cons (pe_op op_pow pe_int pe_int) (pa_cons (pe_call GT hr1 (by rfl) gT kT bT .nil pass0 (pa_cons (pv 0) (pa_cons (pe_op op_pow pe_int pe_int) pa_nil))) (pa_cons (pe_op op_sub (pe_op op_pow pe_int pe_int) pe_int) pa_nil)))) pa_nil))) pa_nil)) (by rfl))
      (pss_cons (ps_par3 (i := 3) (j := 4) (l := 5) rfl scMn.nd rfl rfl rfl (by decide) (by decide) (by decide) rfl rfl rfl (pa_cons (pe_call GS hr (by rfl) gS kS bS .nil pass0 (pa_cons (pv 0) (pa_cons pe_int pa_nil))) (pa_cons (pe_call GS hr (by rfl) gS kS bS .nil pass0 (pa_cons (pv 0) (pa_cons pe_int pa_nil))) (pa_cons pe_int pa_nil))) (by rfl))
      (pss_cons (ps_for PassesOwn.never rfl (pi_range1 rfl mR (pa_cons (pv 1) pa_nil)) (pg_name (i := 6) scMn.nd rfl (.inl rfl))
        (pss_cons (ps_set (i := 7) scMn.nd rfl (.inl rfl) (pe_ifExp (pt_cmpR op_gt (pv 2) (pv 6) (nomark _)) (pe_op op_fdivW (pe_op op_sub (pe_op op_add (pe_op op_sub (pv 2) (pv 6)) (pv 1)) pe_int) (pv 1)) pe_int))
        (pss_cons (ps_set (i := 5) scMn.nd rfl (.inl rfl) (pe_op op_add (pv 5) (pe_op op_mulW (pv 7) (pe_op op_fdivW (pe_op op_add (pe_op op_mul (pv 3) (pv 6)) (pv 4)) (pv 1)))))
        (pss_one (ps_set (i := 5) scMn.nd rfl (.inl rfl) (pe_op op_add (pv 5) (pe_op op_mulW (pv 3) (pe_op op_fdivW (pe_op op_mulW (pv 7) (pe_op op_sub (pv 7) pe_int)) pe_int))))))))
      (pss_one (ps_ret (pe_cmpR op_eq (pe_callB call_reprI (by rfl) mr (by decide +kernel) (pa_cons (pe_call GF hr1 (by rfl) gF kF bF .nil pass0 (pa_cons (pv 2) (pa_cons (pv 3) (pa_cons (pv 4) (pa_cons (pv 1) pa_nil))))) pa_nil)) (pe_callB call_reprI (by rfl) mr (by decide +kernel) (pa_cons (pv 5) pa_nil)) (nomark _)))))), ?_⟩
    have p9 : (10 : Int) ^ (9 : Int).toNat = 1000000000 := by decide
    have p18 : (10 : Int) ^ (18 : Int).toNat = 1000000000000000000 := by decide
    have p30 : (10 : Int) ^ (30 : Int).toNat = 1000000000000000000000000000000 := by decide
    have y := sizeLine_eq
    refine ⟨_, rfl, p, 12, n, rfl, hp, by omega, by decide, by decide +kernel, fun H1 b0 hb1 hP1 k0 k1 => ⟨_, _, rfl, rfl, ?_⟩⟩
    refine ⟨_, rfl, 10, 30, rfl, rfl, ⟨by decide, by decide, by decide⟩, _, rfl, 10, 9, rfl, rfl, ⟨by decide, by decide, by decide⟩, p, _, n + 1, rfl, hP1, by omega, by rw [p9]; decide, by rw [p9]; decide +kernel, fun H2 d2 hb2 hP2 a0 a1 => ?_⟩
    rw [p9] at a1
    refine ⟨10, 18, rfl, rfl, ⟨by decide, by decide, by decide⟩, _, _, rfl, rfl, (by show 3 ≤ sizeLine; decide), fun l nl => ?_⟩
    have npl := hP2.ne nl
    refine ⟨p, l, _, n + 2, rfl, hP2.same (same_put nl), by omega, npl, .inl (.inl upd_same), by simp, by simp, fun H3 v hb3 hP3 hv => ?_⟩
    obtain ⟨many, rfl, m0, m1⟩ : ∃ z : Int, v = .int z ∧ 0 ≤ z ∧ z ≤ 1000000000000000000000000000000 := by
      rcases List.mem_cons.mp hv with h | h
      · exact ⟨_, h, by rw [p30]; decide, by rw [p30]; decide⟩
      rcases List.mem_cons.mp h with h | h
      · exact ⟨_, h, a0, by omega⟩
      · rw [List.mem_singleton.mp h, p18]
        exact ⟨_, rfl, by decide, by decide⟩
    refine ⟨_, _, rfl, ?_⟩
    have hb4 : Bu p H H3 := ((hb1.trans hb2).trans (Bu.new nl)).trans hb3
    obtain ⟨bs, hbs, hbs2⟩ : ∃ bs : Nat, 1 + b0 = (bs : Int) ∧ 0 < bs := ⟨(1 + b0).toNat, by omega, by omega⟩
    dsimp only
    rw [hbs]
    have hbs3 : bs ≤ 12 := by omega
    refine ⟨_, rfl, p, 40, n + 3, rfl, hP3, by omega, by decide, by decide, fun H5 sl hb5 hP5 s0 s1 => ?_⟩
    refine ⟨_, rfl, p, 40, n + 4, rfl, hP5, by omega, by decide, by decide, fun H6 sh hb6 hP6 h0 h1 => ?_⟩
    refine ⟨_, _, _, rfl, ?_⟩
    have hb7 : Bu p H H6 := (hb4.trans hb5).trans hb6
    refine ⟨_, rfl, (bs : Int), rfl, by omega, by omega, ?_⟩
    rw [Int.toNat_natCast]
    refine for_range (lo := 0) (n := bs) (fun i σ' H' => ∃ (y6 y7 : Option V), σ' = [some (.ref p), some (.int (bs : Int)), some (.int many), some (.int sl), some (.int sh), some (.int (sumTo (clsT many sl sh bs) i)), y6, y7] ∧ H6 = H') ⟨none, none, rfl, rfl⟩ ?_ ?_
    · rintro i σ' H' hi ⟨y6, y7, rfl, rfl⟩
      have go : ∀ t : Int, t = turnsR many bs i →
          tSeq (tAsg (tOp (rI0 fun i j => .int (i + j)) (tVar 5) (tOp (rI CMulW fun i j => .int (i * j)) (tVar 7) (tOp (rI CDivW fun i j => .int (i / j)) (tOp (rI0 fun i j => .int (i + j)) (tOp (rI CMul fun i j => .int (i * j)) (tVar 3) (tVar 6)) (tVar 4)) (tVar 1)))) (gName 5))
            (tAsg (tOp (rI0 fun i j => .int (i + j)) (tVar 5) (tOp (rI CMulW fun i j => .int (i * j)) (tVar 3) (tOp (rI CDivW fun i j => .int (i / j)) (tOp (rI CMulW fun i j => .int (i * j)) (tVar 7) (tOp (rI0 fun i j => .int (i - j)) (tVar 7) (tC (.int 1)))) (tC (.int 2))))) (gName 5))
            { nx := fun σ' H' => ∃ (y6 y7 : Option V), σ' = [some (.ref p), some (.int (bs : Int)), some (.int many), some (.int sl), some (.int sh), some (.int (sumTo (clsT many sl sh bs) (i + 1))), y6, y7] ∧ H6 = H', rt := Q }
            [some (.ref p), some (.int (bs : Int)), some (.int many), some (.int sl), some (.int sh), some (.int (sumTo (clsT many sl sh bs) i)), some (.int (0 + (i : Int))), some (.int t)] H6 := fun t ht => by
        have t0 : 0 ≤ t ∧ t ≤ many + 12 := by
          rw [ht]
          unfold turnsR
          have e1 : 0 ≤ many - (i : Int) + (bs : Int) - 1 := by omega
          refine ⟨Int.ediv_nonneg e1 (by omega), ?_⟩
          have := Int.ediv_le_self (bs : Int) e1
          omega
        have tw : t.natAbs < 2 ^ 110 := by omega
        have tw1 : (t - 1).natAbs < 2 ^ 110 := by omega
        have qw : ((sl * (0 + (i : Int)) + sh) / (bs : Int)).natAbs < 2 ^ 110 := by
          refine Nat.lt_of_le_of_lt (Int.natAbs_ediv_le_natAbs _ _) ?_
          have h1 : (sl * (0 + (i : Int)) + sh).natAbs ≤ (sl * (0 + (i : Int))).natAbs + sh.natAbs := Int.natAbs_add_le _ _
          rw [Int.natAbs_mul] at h1
          have h2 : sl.natAbs * (0 + (i : Int)).natAbs ≤ 40 * 12 := Nat.mul_le_mul (by omega) (by omega)
          omega
        have dw : (t * (t - 1) / 2).natAbs < 2 ^ (110 + 110) := Nat.lt_of_le_of_lt (Int.natAbs_ediv_le_natAbs _ 2) (wide_lt tw tw1)
        refine ⟨_, rfl, _, rfl, _, rfl, _, rfl, _, _, rfl, rfl, .inl ⟨by omega, by omega⟩, _, rfl, _, _, rfl, rfl, _, rfl, _, _, rfl, rfl, ⟨by omega, log_le (by omega) (by omega)⟩, _, _, rfl, rfl, wide_mul tw qw (by decide) (by decide) (by decide), _, _, rfl, rfl, ?_⟩
        refine ⟨_, rfl, _, rfl, _, rfl, _, rfl, _, _, rfl, rfl, _, _, rfl, rfl, wide_mul tw tw1 (by decide) (by decide) (by decide), _, _, rfl, rfl, ⟨by decide, by decide +kernel⟩, _, _, rfl, rfl, wide_mul (w_up (n := 60) (show sl.natAbs < 2 ^ 60 by omega) (show 60 ≤ 220 by decide)) dw (by decide) (by decide) (by decide), _, _, rfl, rfl, ?_⟩
        refine ⟨some (.int (0 + (i : Int))), some (.int t), ?_, rfl⟩
        have e : sumTo (clsT many sl sh bs) i + t * ((sl * (0 + (i : Int)) + sh) / (bs : Int)) + sl * (t * (t - 1) / 2) = sumTo (clsT many sl sh bs) (i + 1) := by
          show _ = sumTo (clsT many sl sh bs) i + clsT many sl sh bs i
          unfold clsT tri
          rw [← ht, Int.zero_add]
          omega
        rw [← e]
        rfl
      refine ⟨_, rfl, _, rfl, _, _, rfl, rfl, _, rfl, ite2 (fun e => ?_) (fun e => ?_)⟩
      · refine ⟨_, rfl, _, rfl, _, _, rfl, rfl, _, rfl, _, _, rfl, rfl, _, _, rfl, rfl, _, rfl, _, _, rfl, rfl, ⟨by omega, log_le (by omega) (by omega)⟩, go _ ?_⟩
        unfold turnsR
        rw [Int.zero_add]
      · have hle : many ≤ (i : Int) := by
          have : ¬ (0 + (i : Int)) < many := of_decide_eq_false (Bool.eq_false_iff.mpr e)
          omega
        exact go 0 (turns_zero (by omega) m0 (by omega) hle).symm
    · rintro σ' H' ⟨y6, y7, rfl, rfl⟩
      have hcls := S_cls sl sh bs hbs2 many.toNat
      rw [Int.toNat_of_nonneg m0] at hcls
      have hS : (S many.toNat sl sh bs).natAbs < 2 ^ 300 := by
        have h := S_abs many.toNat sl sh bs
        have h2 : sl.natAbs * many.toNat ≤ 40 * 1000000000000000000000000000000 := Nat.mul_le_mul (by omega) (by omega)
        have h3 : many.toNat * (sl.natAbs * many.toNat + sh.natAbs) ≤ 1000000000000000000000000000000 * (40 * 1000000000000000000000000000000 + 40) := Nat.mul_le_mul (by omega) (by omega)
        have h4 : (1000000000000000000000000000000 * (40 * 1000000000000000000000000000000 + 40) : Nat) < 2 ^ 300 := by decide +kernel
        omega
      have hlog : (S many.toNat sl sh bs).natAbs.log2 < 1920 := Nat.lt_of_lt_of_le (PySem.Flt.log2_lt_of (show 0 < 300 by decide) hS) (by decide)
      rw [← hcls]
      refine ⟨_, rfl, _, rfl, _, rfl, _, rfl, many, sl, sh, bs, rfl, m0, by omega, w1000 (by omega), w1000 (by omega), w1000 (by omega), w1000 (by omega), fun H10 s10 => ?_⟩
      refine ⟨_, rfl, hlog, _, rfl, _, rfl, hlog, rfl, ?_⟩
      rw [dec_str]
      exact q H10 (hb7.trans (Bu.of s10)) ((hP6.same s10).up (by omega))
theorem ok_ct (F : Fun K "_law_cut_right" "_law_cut_right" (topS 10) f fd) (GT : FnOk P w K mg base CX0 1 fT fdT ["_law_pot_here", "_law_upto"] spTake) (bT : Binds K fdT ["_law_pot_here", "_law_upto"] [])
    (gT : mg "_law_take" = some (.ref fT)) (kT : PySem.W.keepIn K (.ref fT) = true) (GO : FnOk P w K mg base CX0 2 fO fdO ["_law_pot_here", "_law_some"] (spOf K)) (bO : Binds K fdO ["_law_pot_here", "_law_some"] [])
    (gO : mg "_law_of" = some (.ref fO)) (kO : PySem.W.keepIn K (.ref fO) = true) (GG : FnOk P w K mg base CX0 3 fG fdG ["_law_pot_here"] spGr) (bG : Binds K fdG ["_law_pot_here"] [])
    (gG : mg "_law_great" = some (.ref fG)) (kG : PySem.W.keepIn K (.ref fG) = true) (GF : FnOk P w K mg base CX0 1 fF fdF ["count", "step", "shift", "modulus"] spFs) (bF : Binds K fdF ["count", "step", "shift", "modulus"] [])
    (gF : mg "floor_sum" = some (.ref fF)) (kF : PySem.W.keepIn K (.ref fF) = true) (mm : mg "min" = none) :
    FnOk P w K mg base CX0 4 f fd ["_law_pot_here"] (spAsk 70) := by
  refine F.ok scCt (fun vs H Q E h => ?_) (fun cdv A outer s H vs Q E hr h => ?_)
  · obtain ⟨p, n, rfl, _⟩ := h
    rfl
  · obtain ⟨p, n, rfl, hp, hn, q⟩ := h
    have hr1 : Room 1 _ := hr.mono (show 1 ≤ 3 by decide)
    have hr2 : Room 2 _ := hr.mono (show 2 ≤ 3 by decide)
    refine ⟨_, pss_cons (ps_par (i := 1) (j := 2) rfl scCt.nd rfl rfl (by decide) rfl rfl (pa_cons (pe_call GG hr (by rfl) gG kG bG .nil pass0 (pa_cons (pv 0) pa_nil)) (pa_cons (pe_callB (call_min2 rfl) (by rfl) mm (by decide +kernel) (pa_cons (pe_op op_pow pe_int pe_int) (pa_cons (pe_op op_add pe_int (pe_call GG hr (by rfl) gG kG bG .nil pass0 (pa_cons (pv 0) pa_nil))) pa_nil))) pa_nil)) (by rfl))
      (pss_cons (ps_set (i := 3) scCt.nd rfl (.inl rfl) (pe_callB (call_min2 rfl) (by rfl) mm (by decide +kernel) (pa_cons (pe_call GT hr1 (by rfl) gT kT bT .nil pass0 (pa_cons (pv 0) (pa_cons (pe_op op_pow pe_int pe_int) pa_nil))) (pa_cons (pv 1) pa_nil))))
      (pss_cons (ps_par (i := 4) (j := 5) rfl scCt.nd rfl rfl (by decide) rfl rfl (pa_cons (pe_op op_fdivW (pe_call GG hr (by rfl) gG kG bG .nil pass0 (pa_cons (pv 0) pa_nil)) (pe_op op_pow pe_int pe_int)) (pa_cons (pe_op op_fdivW (pe_call GG hr (by rfl) gG kG bG .nil pass0 (pa_cons (pv 0) pa_nil)) pe_int) pa_nil)) (by rfl))
      (pss_cons (ps_par (i := 4) (j := 5) rfl scCt.nd rfl rfl (by decide) rfl rfl (pa_cons (pe_op op_mul (pv 4) (pe_call GO hr2 (by rfl) gO kO bO .nil pass0 (pa_cons (pv 0) (pa_cons (pe_lst (pa_cons pe_int (pa_cons (pe_un un_neg pe_int) pa_nil))) pa_nil)))) (pa_cons (pe_op op_mul (pv 5) (pe_call GO hr2 (by rfl) gO kO bO .nil pass0 (pa_cons (pv 0) (pa_cons (pe_lst (pa_cons pe_int (pa_cons (pe_un un_neg pe_int) pa_nil))) pa_nil)))) pa_nil)) (by rfl))
      (pss_cons (ps_set (i := 6) scCt.nd rfl (.inl rfl) (pe_call GF hr1 (by rfl) gF kF bF .nil pass0 (pa_cons (pv 1) (pa_cons (pv 4) (pa_cons (pv 5) (pa_cons (pv 2) pa_nil))))))
      (pss_cons (ps_if (pt_cmpR op_ne (pv 6) (pe_op op_add (pe_call GF hr1 (by rfl) gF kF bF .nil pass0 (pa_cons (pv 3) (pa_cons (pv 4) (pa_cons (pv 5) (pa_cons (pv 2) pa_nil))))) (pe_call GF hr1 (by rfl) gF kF bF .nil pass0 (pa_cons (pe_op op_sub (pv 1) (pv 3)) (pa_cons (pv 4) (pa_cons (pe_op op_add (pv 5) (pe_op op_mulW (pv 4) (pv 3))) (pa_cons (pv 2) pa_nil)))))) (nomark _)) (pss_one (ps_ret pe_bl)) pss_nil)
      (pss_cons (ps_set (i := 7) scCt.nd rfl (.inl rfl) (pe_call GF hr1 (by rfl) gF kF bF .nil pass0 (pa_cons (pv 1) (pa_cons (pe_op op_mod (pv 4) (pv 2)) (pa_cons (pe_op op_mod (pv 5) (pv 2)) (pa_cons (pv 2) pa_nil))))))
      (pss_cons (ps_set (i := 8) scCt.nd rfl (.inl rfl) (pe_op op_mulW (pe_op op_fdivW (pv 4) (pv 2)) (pe_op op_fdivW (pe_op op_mulW (pv 1) (pe_op op_sub (pv 1) pe_int)) pe_int)))
      (pss_one (ps_ret (pe_cmpR op_eq (pv 6) (pe_op op_add (pe_op op_add (pv 7) (pv 8)) (pe_op op_mulW (pv 1) (pe_op op_fdivW (pv 5) (pv 2)))) (nomark _))))))))))), ?_⟩
    have p60 : (10 : Int) ^ (60 : Int).toNat = 10 ^ 60 := by decide +kernel
    have p10 : (10 : Int) ^ (10 : Int).toNat = 10000000000 := by decide
    have p9 : (10 : Int) ^ (9 : Int).toNat = 1000000000 := by decide
    have y := sizeLine_eq
    have ten : (10 : Int) ^ 60 < 2 ^ 200 := by decide +kernel
    refine ⟨_, rfl, p, n, rfl, hp, by omega, fun H1 many hb1 hP1 m0 m1 => ?_⟩
    refine ⟨10, 60, rfl, rfl, ⟨by decide, by decide, by decide⟩, _, rfl, p, n + 15, rfl, hP1, by omega, fun H2 g2 hb2 hP2 g0 g1 => ⟨_, _, rfl, rfl, _, _, rfl, _, _, rfl, ?_⟩⟩
    obtain ⟨bs, hbs, bs0, bs1⟩ : ∃ bs : Int, (if 1 + g2 < (10 : Int) ^ (60 : Int).toNat then 1 + g2 else (10 : Int) ^ (60 : Int).toNat) = bs ∧ 0 < bs ∧ bs ≤ 10 ^ 60 := by
      refine ⟨_, rfl, ?_, ?_⟩
      · rw [p60]
        split <;> omega
      · rw [p60]
        split <;> omega
    rw [hbs]
    have hb12 := hb1.trans hb2
    refine ⟨_, rfl, 10, 9, rfl, rfl, ⟨by decide, by decide, by decide⟩, p, _, n + 30, rfl, hP2, by omega, by rw [p9]; decide, by rw [p9]; decide +kernel, fun H3 t3 hb3 hP3 t0 t1 => ⟨_, rfl, _, _, rfl, ?_⟩⟩
    obtain ⟨at', hat, at0, at1⟩ : ∃ z : Int, (if many < t3 then many else t3) = z ∧ 0 ≤ z ∧ z ≤ many := by
      refine ⟨_, rfl, ?_, ?_⟩ <;> split <;> omega
    rw [hat]
    refine ⟨_, rfl, p, n + 31, rfl, hP3, by omega, fun H4 g4 hb4 hP4 c0 c1 => ⟨10, 10, rfl, rfl, ⟨by decide, by decide, by decide⟩, _, _, rfl, rfl, ⟨by rw [p10]; decide, by rw [p10]; decide +kernel⟩, ?_⟩⟩
    refine ⟨_, rfl, p, n + 46, rfl, hP4, by omega, fun H5 g5 hb5 hP5 d0 d1 => ⟨_, _, rfl, rfl, ⟨by decide, by decide +kernel⟩, _, _, rfl, ?_⟩⟩
    have hb15 := ((hb12.trans hb3).trans hb4).trans hb5
    have e0 : 0 ≤ g4 / (10 : Int) ^ (10 : Int).toNat := Int.ediv_nonneg c0 (by rw [p10]; decide)
    have e1 : g4 / (10 : Int) ^ (10 : Int).toNat ≤ 10 ^ 60 := Int.le_trans (Int.ediv_le_self _ c0) c1
    have f0 : 0 ≤ g5 / 10 := Int.ediv_nonneg d0 (by decide)
    have f1 : g5 / 10 ≤ 10 ^ 60 := Int.le_trans (Int.ediv_le_self _ d0) d1
    dsimp only
    generalize g4 / (10 : Int) ^ (10 : Int).toNat = sl0 at e0 e1 ⊢
    generalize g5 / 10 = sh0 at f0 f1 ⊢
    have sgn : ∀ v : V, v ∈ [V.int 1, V.int (-1)] → ∃ z : Int, v = .int z ∧ (z = 1 ∨ z = -1) := fun v hv => by
      rcases List.mem_cons.mp hv with h | h
      · exact ⟨1, h, .inl rfl⟩
      · rw [List.mem_singleton.mp h]
        exact ⟨-1, rfl, .inr rfl⟩
    refine ⟨_, rfl, _, rfl, 1, rfl, (by show 2 ≤ sizeLine; decide), fun l nl => ?_⟩
    refine ⟨p, l, _, n + 61, rfl, hP5.same (same_put nl), by omega, hP5.ne nl, .inl (.inl upd_same), by simp, by simp, fun H6 v hb6 hP6 hv => ?_⟩
    obtain ⟨z1, rfl, hz1⟩ := sgn v hv
    refine ⟨_, _, rfl, rfl, .inr ⟨by omega, by omega⟩, _, rfl, _, rfl, 1, rfl, (by show 2 ≤ sizeLine; decide), fun l2 nl2 => ?_⟩
    refine ⟨p, l2, _, n + 62, rfl, hP6.same (same_put nl2), by omega, hP6.ne nl2, .inl (.inl upd_same), by simp, by simp, fun H7 v2 hb7 hP7 hv2 => ?_⟩
    obtain ⟨z2, rfl, hz2⟩ := sgn v2 hv2
    refine ⟨_, _, rfl, rfl, .inr ⟨by omega, by omega⟩, _, _, rfl, ?_⟩
    have hb17 := (((hb15.trans (Bu.new nl)).trans hb6).trans (Bu.new nl2)).trans hb7
    have wsl : (sl0 * z1).natAbs < 2 ^ 200 := w_sgn (by omega) hz1
    have wsh : (sh0 * z2).natAbs < 2 ^ 200 := w_sgn (by omega) hz2
    dsimp only
    generalize sl0 * z1 = sl at wsl ⊢
    generalize sh0 * z2 = sh at wsh ⊢
    have wm : many.natAbs < 2 ^ 200 := by omega
    have wa : at'.natAbs < 2 ^ 200 := by omega
    have wb : bs.natAbs < 2 ^ 200 := by omega
    have up : ∀ {i : Int}, i.natAbs < 2 ^ 200 → i.natAbs < 2 ^ 1000 := fun h => w_up h (by decide)
    refine ⟨_, rfl, _, rfl, _, rfl, _, rfl, many, sl, sh, bs, rfl, m0, bs0, up wm, up wsl, up wsh, up wb, fun H8 s8 => ?_⟩
    refine ⟨_, rfl, _, rfl, _, rfl, _, rfl, _, rfl, at', sl, sh, bs, rfl, at0, bs0, up wa, up wsl, up wsh, up wb, fun H9 s9 => ?_⟩
    refine ⟨_, rfl, _, rfl, _, _, rfl, rfl, _, rfl, _, rfl, _, rfl, _, rfl, _, _, rfl, rfl, wide_mul wsl wa (by decide) (by decide) (by decide), _, _, rfl, rfl, _, rfl, many - at', sl, sh + sl * at', bs, rfl, by omega, bs0, up (by omega), up wsl, w_up (w_add (w_up wsh (show 200 ≤ 400 by decide)) (wide_lt wsl wa)) (by decide), up wb, fun H10 s10 => ?_⟩
    have hcut : S many.toNat sl sh bs = S at'.toNat sl sh bs + S (many - at').toNat sl (sh + sl * at') bs := by
      have h := S_cut at'.toNat (many - at').toNat sl sh bs
      rw [Int.toNat_of_nonneg at0, show at'.toNat + (many - at').toNat = many.toNat by omega] at h
      exact h
    refine ⟨_, _, rfl, rfl, rfl, _, rfl, ?_⟩
    have nz : ¬ ((!decide (V.int (S many.toNat sl sh bs) = V.int (S at'.toNat sl sh bs + S (many - at').toNat sl (sh + sl * at') bs))) = true) := by
      rw [decide_eq_true (congrArg V.int hcut)]
      decide
    dsimp only
    rw [if_neg nz]
    have rs0 := Int.emod_nonneg sl (show bs ≠ 0 by omega)
    have rs1 := Int.emod_lt_of_pos sl bs0
    have rh0 := Int.emod_nonneg sh (show bs ≠ 0 by omega)
    have rh1 := Int.emod_lt_of_pos sh bs0
    refine ⟨_, rfl, _, rfl, _, rfl, _, _, rfl, rfl, bs0, _, rfl, _, rfl, _, _, rfl, rfl, bs0, _, rfl, many, sl % bs, sh % bs, bs, rfl, m0, bs0, up wm, up (wide_le rs0 (Int.le_of_lt rs1) wb), up (wide_le rh0 (Int.le_of_lt rh1) wb), up wb, fun H11 s11 => ?_⟩
    have wq : (sl / bs).natAbs < 2 ^ 200 := Nat.lt_of_le_of_lt (Int.natAbs_ediv_le_natAbs _ _) wsl
    have wq2 : (sh / bs).natAbs < 2 ^ 200 := Nat.lt_of_le_of_lt (Int.natAbs_ediv_le_natAbs _ _) wsh
    have wm1 : (many - 1).natAbs < 2 ^ 201 := by
      have : (2 : Nat) ^ 201 = 2 ^ 200 * 2 := Nat.pow_succ ..
      omega
    have wt : (many * (many - 1) / 2).natAbs < 2 ^ (200 + 201) := Nat.lt_of_le_of_lt (Int.natAbs_ediv_le_natAbs _ 2) (wide_lt wm wm1)
    have ld : ∀ i : Int, CDivW i bs := fun i => wide_div bs0 wb (by decide) (by decide)
    refine ⟨_, rfl, _, rfl, _, _, rfl, rfl, ld _, _, rfl, _, rfl, _, _, rfl, rfl, _, _, rfl, rfl, wide_mul wm wm1 (by decide) (by decide) (by decide), _, _, rfl, rfl, ⟨by decide, by decide +kernel⟩, _, _, rfl, rfl, wide_mul wq wt (by decide) (by decide) (by decide), ?_⟩
    refine ⟨_, rfl, _, rfl, _, rfl, _, _, rfl, rfl, _, rfl, _, rfl, _, rfl, _, _, rfl, rfl, ld _, _, _, rfl, rfl, wide_mul wm wq2 (by decide) (by decide) (by decide), _, _, rfl, rfl, rfl, ?_⟩
    have hred := S_red many.toNat sl sh bs bs0
    rw [Int.toNat_of_nonneg m0] at hred
    have e : S many.toNat (sl % bs) (sh % bs) bs + sl / bs * (many * (many - 1) / 2) + many * (sh / bs) = S many.toNat sl sh bs := by
      rw [hred, Int.mul_comm many (sh / bs)]
      unfold tri
      omega
    dsimp only
    rw [decide_eq_true (congrArg V.int e.symm)]
    have sE := ((s8.trans s9).trans s10).trans s11
    exact q H11 (hb17.trans (Bu.of sE)) ((hP7.same sE).up (by omega))
end
end Ev

/-! ## The law -/
namespace Ev
open PySem PySem.Spec PyProof.Rows L2
theorem iteN {b : Bool} {A B : Prop} (h : b = true) (k : B) : if (!b) = true then A else B := by
  subst h
  exact k
theorem lc_ask {m c n : Nat} {m' : Int} {p : Addr} {a : V} {y1 y3 : Option V} {H : Hp} {Q : VK} (e : m' = (m : Int)) (hP : Pot p n H) (hm : m ≤ 1000) (hn : n + m * c ≤ 1000000)
    (q : ∀ H' D, Bu p H H' → Pot p (n + m * c) H' → H' D = some (.lst ((List.replicate m true).map V.bl)) → Q (.ref D) H') :
    tLc (iRng1 (tCons (tC (.int m')) tNil)) (gName 3) tYes (tCall (spAsk c) [] E0 (tCons (tVar 2) tNil)) [3] [some a, y1, some (.ref p), y3] H Q := by
  have y := sizeLine_eq
  subst e
  refine ⟨(m : Int), rfl, by omega, by omega, fun D nD => ?_⟩
  have npD : p ≠ D := hP.ne nD
  rw [Int.toNat_natCast]
  refine lc_range (lo := 0) (n := m) (fun i H' => Pot p (n + i * c) H' ∧ Bu p H H' ∧ H' D = some (.lst ((List.replicate i true).map V.bl))) ⟨?_, Bu.new nD, upd_same⟩ ?_ ?_
  · rw [Nat.zero_mul]
    exact hP.same (same_put nD)
  · rintro i H' hi ⟨hP', hb', eD⟩
    have hic : (i + 1) * c ≤ m * c := Nat.mul_le_mul_right _ hi
    rw [Nat.succ_mul] at hic
    refine ⟨rfl, _, rfl, p, n + i * c, rfl, hP', by omega, fun H4 hb4 hP4 => ⟨_, hb4 _ _ npD.symm eD, by rw [List.length_map, List.length_replicate]; omega, ?_, ?_, ?_⟩⟩
    · obtain ⟨xs, hx, hX⟩ := hP4
      refine ⟨xs, ?_, hX.up (by rw [Nat.succ_mul]; omega)⟩
      rw [upd_ne npD]
      exact hx
    · intro b o nb e
      rw [upd_ne (ne_of_none e nD)]
      exact hb4 _ _ nb (hb' _ _ nb e)
    · rw [upd_same, List.replicate_succ', List.map_append]
      rfl
  · rintro H' ⟨hP', hb', eD⟩
    exact q H' D hb' hP' eD
theorem all_rep : ∀ m : Nat, (List.replicate m true).all id = true
  | 0 => rfl
  | m + 1 => all_rep m
section
variable {K : PySem.W.Frag} {m c n : Nat} {m' : Int} {p : Addr} {a : V} {y1 y3 : Option V} {H : Hp}
theorem t_asks {R : Bool → Hp → Prop} (e : m' = (m : Int)) (hP : Pot p n H) (hm : m ≤ 1000) (hn : n + m * c ≤ 1000000) (q : ∀ H', Bu p H H' → Pot p (n + m * c) H' → R false H') :
    tNot (tB (tCB (rAll K) (tCons (tLc (iRng1 (tCons (tC (.int m')) tNil)) (gName 3) tYes (tCall (spAsk c) [] E0 (tCons (tVar 2) tNil)) [3]) tNil))) [some a, y1, some (.ref p), y3] H R := by
  unfold tNot tB tCB tCons
  refine lc_ask e hP hm hn fun H' D hb hP' eD => ?_
  refine ⟨D, _, rfl, .inl (.inl eD), _, rfl, ?_⟩
  rw [all_rep]
  exact q H' hb hP'
theorem s_asks {uu : TT} {t rest : TS} {D : Ends} (e : m' = (m : Int)) (hP : Pot p n H) (hm : m ≤ 1000) (hn : n + m * c ≤ 1000000)
    (q : ∀ H', Bu p H H' → Pot p (n + m * c) H' → uu [some a, y1, some (.ref p), y3] H' fun b H2 => if b = true then t { D with nx := rest D } [some a, y1, some (.ref p), y3] H2 else rest D [some a, y1, some (.ref p), y3] H2) :
    tSeq (tIfS (tOr (tNot (tB (tCB (rAll K) (tCons (tLc (iRng1 (tCons (tC (.int m')) tNil)) (gName 3) tYes (tCall (spAsk c) [] E0 (tCons (tVar 2) tNil)) [3]) tNil)))) uu) t tNext) rest D [some a, y1, some (.ref p), y3] H := by
  unfold tSeq tIfS tOr
  exact t_asks e hP hm hn fun H' hb hP' => iteF (q H' hb hP')
theorem s_asks1 {uu : TT} {t : TS} {D : Ends} (e : m' = (m : Int)) (hP : Pot p n H) (hm : m ≤ 1000) (hn : n + m * c ≤ 1000000)
    (q : ∀ H', Bu p H H' → Pot p (n + m * c) H' → uu [some a, y1, some (.ref p), y3] H' fun b H2 => if b = true then t D [some a, y1, some (.ref p), y3] H2 else D.nx [some a, y1, some (.ref p), y3] H2) :
    tIfS (tOr (tNot (tB (tCB (rAll K) (tCons (tLc (iRng1 (tCons (tC (.int m')) tNil)) (gName 3) tYes (tCall (spAsk c) [] E0 (tCons (tVar 2) tNil)) [3]) tNil)))) uu) t tNext D [some a, y1, some (.ref p), y3] H := by
  unfold tIfS tOr
  exact t_asks e hP hm hn fun H' hb hP' => iteF (q H' hb hP')
end
def spLaw (K : PySem.W.Frag) : Sp := fun vs H Q _ => ∃ (a : Addr) (ns : List Int), vs = [.ref a] ∧ SqL K H a (ns.map V.int) ∧ ∀ H', Q (.bl true) H'
theorem scLaw : FnScope ["_law_script", "_law_spot", "_law_pot_here", "_law_turn"] ["_law_script"] (defScope (topS 11)) := ⟨rfl, rfl, rfl, by decide +kernel, rfl, by decide +kernel, by decide +kernel⟩
section
variable {P : Program} {w : World} {K : PySem.W.Frag} {mg : Str → Option Value} {base : Heap} {f fP fA fB fC fF : Addr} {fd fdP fdA fdB fdC fdF : FuncData}
theorem ok_law (F : Fun K "law" "law" (topS 11) f fd)
    (GP : FnOk P w K mg base CX0 1 fP fdP ["_law_script", "_law_spot"] (spPot K)) (bP : Binds K fdP ["_law_script", "_law_spot"] []) (gP : mg "_law_pot" = some (.ref fP)) (kP : PySem.W.keepIn K (.ref fP) = true)
    (GA : FnOk P w K mg base CX0 3 fA fdA ["_law_pot_here"] (spAsk 8)) (bA : Binds K fdA ["_law_pot_here"] []) (gA : mg "_law_small_right" = some (.ref fA)) (kA : PySem.W.keepIn K (.ref fA) = true)
    (GB : FnOk P w K mg base CX0 3 fB fdB ["_law_pot_here"] (spAsk 8)) (bB : Binds K fdB ["_law_pot_here"] []) (gB : mg "_law_many_right" = some (.ref fB)) (kB : PySem.W.keepIn K (.ref fB) = true)
    (GC : FnOk P w K mg base CX0 4 fC fdC ["_law_pot_here"] (spAsk 70)) (bC : Binds K fdC ["_law_pot_here"] []) (gC : mg "_law_cut_right" = some (.ref fC)) (kC : PySem.W.keepIn K (.ref fC) = true)
    (GF : FnOk P w K mg base CX0 1 fF fdF ["count", "step", "shift", "modulus"] spFs) (bF : Binds K fdF ["count", "step", "shift", "modulus"] []) (gF : mg "floor_sum" = some (.ref fF)) (kF : PySem.W.keepIn K (.ref fF) = true)
    (mR : mg "range" = none) (mM : mg "max" = none) (mm : mg "min" = none) (ml : mg "len" = none) (ma : mg "all" = none) :
    FnOk P w K mg base CX0 5 f fd ["_law_script"] (spLaw K) := by
  refine F.ok scLaw (fun vs H Q E h => ?_) (fun cdv A outer s H vs Q E hr h => ?_)
  · obtain ⟨a, ns, rfl, _⟩ := h
    rfl
  · obtain ⟨a, ns, rfl, hS, q⟩ := h
    have hr1 : Room 1 _ := hr.mono (show 1 ≤ 4 by decide)
    have hr3 : Room 3 _ := hr.mono (show 3 ≤ 4 by decide)
    refine ⟨_, pss_cons (ps_for PassesOwn.never rfl (pi_range1 rfl mR (pa_cons (pe_callB (call_max2 rfl) (by rfl) mM (by decide +kernel) (pa_cons pe_int (pa_cons (pe_callB (call_min2 rfl) (by rfl) mm (by decide +kernel) (pa_cons pe_int (pa_cons (pe_callB call_len_seq (by rfl) ml PySem.boot_len (pa_cons (pv 0) pa_nil)) pa_nil))) pa_nil))) pa_nil)) (pg_name (i := 1) scLaw.nd rfl (.inl rfl))
        (pss_cons (ps_set (i := 2) scLaw.nd rfl (.inr rfl) (pe_call GP hr1 (by rfl) gP kP bP .nil pass0 (pa_cons (pv 0) (pa_cons (pv 1) pa_nil))))
        (pss_cons (ps_if (PW.pt (pw_or (pt_not (pt_val (pe_callB (cr_all rfl) (by rfl) ma (by decide +kernel) (pa_cons (pe_lc (own := [("_law_turn", 3)]) (g := gName 3) (tt := tYes) (te := tCall (spAsk 8) [] E0 (tCons (tVar 2) tNil)) rfl scLaw.nd (pi_range1 rfl mR (pa_cons pe_int pa_nil))
            (blkOk_by (N := ["_law_script", "_law_spot", "_law_pot_here", "_law_turn"]) (sc := defScope (topS 11)) (by decide +kernel)) (fun _ _ _ _ _ => pg_name (i := 3) scLaw.nd rfl (Or.inl rfl)) (fun _ _ _ _ _ => pts_nil) (fun _ _ _ _ _ => pe_call GA hr3 (by rfl) gA kA bA .nil pass0 (pa_cons (pv 2) pa_nil))) pa_nil))))
            (pw_or1 (pt_cmpR op_ne (pe_call GF hr1 (by rfl) gF kF bF .nil pass0 (pa_cons pe_int (pa_cons pe_int (pa_cons (pe_un un_neg pe_int) (pa_cons pe_int pa_nil))))) pe_int (nomark _))))) (pss_one (ps_ret pe_bl)) pss_nil)
        (pss_one (ps_if (PW.pt (pw_or (pt_not (pt_val (pe_callB (cr_all rfl) (by rfl) ma (by decide +kernel) (pa_cons (pe_lc (own := [("_law_turn", 3)]) (g := gName 3) (tt := tYes) (te := tCall (spAsk 8) [] E0 (tCons (tVar 2) tNil)) rfl scLaw.nd (pi_range1 rfl mR (pa_cons pe_int pa_nil))
            (blkOk_by (N := ["_law_script", "_law_spot", "_law_pot_here", "_law_turn"]) (sc := defScope (topS 11)) (by decide +kernel)) (fun _ _ _ _ _ => pg_name (i := 3) scLaw.nd rfl (Or.inl rfl)) (fun _ _ _ _ _ => pts_nil) (fun _ _ _ _ _ => pe_call GB hr3 (by rfl) gB kB bB .nil pass0 (pa_cons (pv 2) pa_nil))) pa_nil))))
            (pw_or1 (pt_not (pt_val (pe_callB (cr_all rfl) (by rfl) ma (by decide +kernel) (pa_cons (pe_lc (own := [("_law_turn", 3)]) (g := gName 3) (tt := tYes) (te := tCall (spAsk 70) [] E0 (tCons (tVar 2) tNil)) rfl scLaw.nd (pi_range1 rfl mR (pa_cons pe_int pa_nil))
            (blkOk_by (N := ["_law_script", "_law_spot", "_law_pot_here", "_law_turn"]) (sc := defScope (topS 11)) (by decide +kernel)) (fun _ _ _ _ _ => pg_name (i := 3) scLaw.nd rfl (Or.inl rfl)) (fun _ _ _ _ _ => pts_nil) (fun _ _ _ _ _ => pe_call GC hr (by rfl) gC kC bC .nil pass0 (pa_cons (pv 2) pa_nil))) pa_nil))))))) (pss_one (ps_ret pe_bl)) pss_nil)))))
      (pss_one (ps_ret pe_bl)), ?_⟩
    have y := sizeLine_eq
    refine ⟨_, rfl, a, _, rfl, .inl hS, 3, _, rfl, 1, _, rfl, _, rfl, (mm_at _ (mm_le _)).1, (mm_at _ (mm_le _)).2.1, for_range (lo := 0) (fun i σ' H' => ∃ y1 y2 y3 : Option V, σ' = [some (.ref a), y1, y2, y3] ∧ SqL K H' a (ns.map V.int))
      ⟨none, none, none, rfl, hS⟩ ?_ ?_⟩
    · rintro i σ' H1 hi ⟨y1, y2, y3, rfl, hS1⟩
      have hi3 : i < 3 := Nat.lt_of_lt_of_le hi (mm_at _ (mm_le _)).2.2
      refine ⟨_, rfl, _, rfl, a, ns, _, rfl, hS1, by omega, by omega, fun p xs np hx => ?_⟩
      have hP0 : Pot p 0 (upd H1 p (.lst xs)) := ⟨xs, upd_same, hx⟩
      refine s_asks (m := 40) (m' := 40) (c := 8) (n := 0) (a := .ref a) rfl hP0 (by decide) (by decide) fun H2 hb2 hP2 => ?_
      refine ⟨7, rfl, 0, 5, -7, 3, rfl, by decide, by decide, by decide +kernel, by decide +kernel, by decide +kernel, by decide +kernel, fun H3 s3 => ⟨rfl, _, rfl, iteN (decide_eq_true rfl) ?_⟩⟩
      refine s_asks1 (m := 12) (m' := 12) (c := 8) (n := 320) (a := .ref a) rfl (hP2.same s3) (by decide) (by decide) fun H4 hb4 hP4 => ?_
      refine t_asks (m := 8) (m' := 8) (c := 70) (n := 416) (a := .ref a) rfl hP4 (by decide) (by decide) fun H5 hb5 hP5 => iteF ?_
      have hb : Bu p H1 H5 := (((Bu.put.trans hb2).trans (Bu.of s3)).trans hb4).trans hb5
      exact ⟨_, _, _, rfl, sq_of hS1 (keepA np (fun o e => e) hb)⟩
    · rintro σ' H1 ⟨y1, y2, y3, rfl, hS1⟩
      exact q H1
end
end Ev

/-! ## What the top has written -/
namespace Ev
open PySem PySem.Spec PyProof.Rows L2
open PySem.W (typeIn keepIn codeIn nsIn)
def initB (K : PySem.W.Frag) (fI : Addr) (cd : Value) (q : Str) : Bool := (typeIn K (.ref fI) == some (.type "function")) && (codeIn K cd q && keepIn K (.ref fI))
theorem initB_ok {K : PySem.W.Frag} {fI : Addr} {cd : Value} {q : Str} (h : initB K fI cd q = true) : typeIn K (.ref fI) = some (.type "function") ∧ codeIn K cd q = true ∧ keepIn K (.ref fI) = true := by
  unfold initB at h
  simpa only [Bool.and_eq_true, beq_iff_eq] using h
theorem all_mk {P : Program} {w : World} {K : PySem.W.Frag} {h : Heap} {mg : Str → Option Value} {fa : Addr} (X : K.In h) (G : h.Ns mainGlobals mg) (hfa : mg "law" = some (.ref fa))
    {g1 : Addr} {ode1 ane1 : Option Addr} {sle1 : Array (Option Value)} {oce1 kVe1 dce1 pme1 cde1 cte1 : Value}
    {g3 : Addr} {ode3 ane3 : Option Addr} {sle3 : Array (Option Value)} {oce3 kVe3 dce3 pme3 cde3 cte3 : Value}
    {g4 : Addr} {ode4 ane4 : Option Addr} {sle4 : Array (Option Value)} {oce4 kVe4 dce4 pme4 cde4 cte4 : Value}
    {g5 : Addr} {ode5 ane5 : Option Addr} {sle5 : Array (Option Value)} {oce5 kVe5 dce5 pme5 cde5 cte5 : Value}
    {g6 : Addr} {ode6 ane6 : Option Addr} {sle6 : Array (Option Value)} {oce6 kVe6 dce6 pme6 cde6 cte6 : Value}
    {g7 : Addr} {ode7 ane7 : Option Addr} {sle7 : Array (Option Value)} {oce7 kVe7 dce7 pme7 cde7 cte7 : Value}
    {g8 : Addr} {ode8 ane8 : Option Addr} {sle8 : Array (Option Value)} {oce8 kVe8 dce8 pme8 cde8 cte8 : Value}
    {g9 : Addr} {ode9 ane9 : Option Addr} {sle9 : Array (Option Value)} {oce9 kVe9 dce9 pme9 cde9 cte9 : Value}
    {g10 : Addr} {ode10 ane10 : Option Addr} {sle10 : Array (Option Value)} {oce10 kVe10 dce10 pme10 cde10 cte10 : Value}
    {g11 : Addr} {ode11 ane11 : Option Addr} {sle11 : Array (Option Value)} {oce11 kVe11 dce11 pme11 cde11 cte11 : Value}
    (A1 : nsIn K mainGlobals "floor_sum" = some (some (.ref g1)))
    (L1 : K.lookup g1 = some ⟨oce1, ode1, .func (PySem.W.fnOf "floor_sum" "floor_sum" (defArgs (topS 1)) (defBody (topS 1)) (defScope (topS 1)) .none kVe1 dce1 pme1 ane1 cde1 cte1), sle1⟩)
    (H1 : initB K g1 cde1 "floor_sum" = true)
    (A3 : nsIn K mainGlobals "_law_pot" = some (some (.ref g3)))
    (L3 : K.lookup g3 = some ⟨oce3, ode3, .func (PySem.W.fnOf "_law_pot" "_law_pot" (defArgs (topS 3)) (defBody (topS 3)) (defScope (topS 3)) .none kVe3 dce3 pme3 ane3 cde3 cte3), sle3⟩)
    (H3 : initB K g3 cde3 "_law_pot" = true)
    (A4 : nsIn K mainGlobals "_law_take" = some (some (.ref g4)))
    (L4 : K.lookup g4 = some ⟨oce4, ode4, .func (PySem.W.fnOf "_law_take" "_law_take" (defArgs (topS 4)) (defBody (topS 4)) (defScope (topS 4)) .none kVe4 dce4 pme4 ane4 cde4 cte4), sle4⟩)
    (H4 : initB K g4 cde4 "_law_take" = true)
    (A5 : nsIn K mainGlobals "_law_of" = some (some (.ref g5)))
    (L5 : K.lookup g5 = some ⟨oce5, ode5, .func (PySem.W.fnOf "_law_of" "_law_of" (defArgs (topS 5)) (defBody (topS 5)) (defScope (topS 5)) .none kVe5 dce5 pme5 ane5 cde5 cte5), sle5⟩)
    (H5 : initB K g5 cde5 "_law_of" = true)
    (A6 : nsIn K mainGlobals "_law_signed" = some (some (.ref g6)))
    (L6 : K.lookup g6 = some ⟨oce6, ode6, .func (PySem.W.fnOf "_law_signed" "_law_signed" (defArgs (topS 6)) (defBody (topS 6)) (defScope (topS 6)) .none kVe6 dce6 pme6 ane6 cde6 cte6), sle6⟩)
    (H6 : initB K g6 cde6 "_law_signed" = true)
    (A7 : nsIn K mainGlobals "_law_small_right" = some (some (.ref g7)))
    (L7 : K.lookup g7 = some ⟨oce7, ode7, .func (PySem.W.fnOf "_law_small_right" "_law_small_right" (defArgs (topS 7)) (defBody (topS 7)) (defScope (topS 7)) .none kVe7 dce7 pme7 ane7 cde7 cte7), sle7⟩)
    (H7 : initB K g7 cde7 "_law_small_right" = true)
    (A8 : nsIn K mainGlobals "_law_many_right" = some (some (.ref g8)))
    (L8 : K.lookup g8 = some ⟨oce8, ode8, .func (PySem.W.fnOf "_law_many_right" "_law_many_right" (defArgs (topS 8)) (defBody (topS 8)) (defScope (topS 8)) .none kVe8 dce8 pme8 ane8 cde8 cte8), sle8⟩)
    (H8 : initB K g8 cde8 "_law_many_right" = true)
    (A9 : nsIn K mainGlobals "_law_great" = some (some (.ref g9)))
    (L9 : K.lookup g9 = some ⟨oce9, ode9, .func (PySem.W.fnOf "_law_great" "_law_great" (defArgs (topS 9)) (defBody (topS 9)) (defScope (topS 9)) .none kVe9 dce9 pme9 ane9 cde9 cte9), sle9⟩)
    (H9 : initB K g9 cde9 "_law_great" = true)
    (A10 : nsIn K mainGlobals "_law_cut_right" = some (some (.ref g10)))
    (L10 : K.lookup g10 = some ⟨oce10, ode10, .func (PySem.W.fnOf "_law_cut_right" "_law_cut_right" (defArgs (topS 10)) (defBody (topS 10)) (defScope (topS 10)) .none kVe10 dce10 pme10 ane10 cde10 cte10), sle10⟩)
    (H10 : initB K g10 cde10 "_law_cut_right" = true)
    (A11 : nsIn K mainGlobals "law" = some (some (.ref g11)))
    (L11 : K.lookup g11 = some ⟨oce11, ode11, .func (PySem.W.fnOf "law" "law" (defArgs (topS 11)) (defBody (topS 11)) (defScope (topS 11)) .none kVe11 dce11 pme11 ane11 cde11 cte11), sle11⟩)
    (H11 : initB K g11 cde11 "law" = true)
    (z_len : nsIn K mainGlobals "len" = some none)
    (z_abs : nsIn K mainGlobals "abs" = some none)
    (z_int : nsIn K mainGlobals "int" = some none)
    (z_range : nsIn K mainGlobals "range" = some none)
    (z_max : nsIn K mainGlobals "max" = some none)
    (z_min : nsIn K mainGlobals "min" = some none)
    (z_all : nsIn K mainGlobals "all" = some none)
    (z_sum : nsIn K mainGlobals "sum" = some none)
    (z_repr : nsIn K mainGlobals "repr" = some none)
    (z_divmod : nsIn K mainGlobals "divmod" = some none)
    : ∃ fd : FuncData, (∀ (s : Shared) (u : Value), BindsTo s fd ⟨[u], []⟩ [("_law_script", u)]) ∧
      ∀ base : Heap, K.In base → base.Ns mainGlobals mg → (∃ mm, base.Ns sysModules mm) → FnG P w K mg base CX0 5 fa fd ["_law_script"] (spLaw K) := by
  have e := hfa.symm.trans (PySem.W.mg_of X G A11)
  cases e
  obtain ⟨t1, u1, v1⟩ := initB_ok H1
  have F1 := fun_mk (st := topS 1) L1 u1 v1
  have m1 := PySem.W.mg_of X G A1
  have b1 := F1.binds (ps := ["count", "step", "shift", "modulus"]) fun _ _ _ _ _ _ us hl => match us, hl with | [_, _, _, _], _ => rfl
  obtain ⟨t3, u3, v3⟩ := initB_ok H3
  have F3 := fun_mk (st := topS 3) L3 u3 v3
  have m3 := PySem.W.mg_of X G A3
  have b3 := F3.binds (ps := ["_law_script", "_law_spot"]) fun _ _ _ _ _ _ us hl => match us, hl with | [_, _], _ => rfl
  obtain ⟨t4, u4, v4⟩ := initB_ok H4
  have F4 := fun_mk (st := topS 4) L4 u4 v4
  have m4 := PySem.W.mg_of X G A4
  have b4 := F4.binds (ps := ["_law_pot_here", "_law_upto"]) fun _ _ _ _ _ _ us hl => match us, hl with | [_, _], _ => rfl
  obtain ⟨t5, u5, v5⟩ := initB_ok H5
  have F5 := fun_mk (st := topS 5) L5 u5 v5
  have m5 := PySem.W.mg_of X G A5
  have b5 := F5.binds (ps := ["_law_pot_here", "_law_some"]) fun _ _ _ _ _ _ us hl => match us, hl with | [_, _], _ => rfl
  obtain ⟨t6, u6, v6⟩ := initB_ok H6
  have F6 := fun_mk (st := topS 6) L6 u6 v6
  have m6 := PySem.W.mg_of X G A6
  have b6 := F6.binds (ps := ["_law_pot_here", "_law_bound"]) fun _ _ _ _ _ _ us hl => match us, hl with | [_, _], _ => rfl
  obtain ⟨t7, u7, v7⟩ := initB_ok H7
  have F7 := fun_mk (st := topS 7) L7 u7 v7
  have m7 := PySem.W.mg_of X G A7
  have b7 := F7.binds (ps := ["_law_pot_here"]) fun _ _ _ _ _ _ us hl => match us, hl with | [_], _ => rfl
  obtain ⟨t8, u8, v8⟩ := initB_ok H8
  have F8 := fun_mk (st := topS 8) L8 u8 v8
  have m8 := PySem.W.mg_of X G A8
  have b8 := F8.binds (ps := ["_law_pot_here"]) fun _ _ _ _ _ _ us hl => match us, hl with | [_], _ => rfl
  obtain ⟨t9, u9, v9⟩ := initB_ok H9
  have F9 := fun_mk (st := topS 9) L9 u9 v9
  have m9 := PySem.W.mg_of X G A9
  have b9 := F9.binds (ps := ["_law_pot_here"]) fun _ _ _ _ _ _ us hl => match us, hl with | [_], _ => rfl
  obtain ⟨t10, u10, v10⟩ := initB_ok H10
  have F10 := fun_mk (st := topS 10) L10 u10 v10
  have m10 := PySem.W.mg_of X G A10
  have b10 := F10.binds (ps := ["_law_pot_here"]) fun _ _ _ _ _ _ us hl => match us, hl with | [_], _ => rfl
  obtain ⟨t11, u11, v11⟩ := initB_ok H11
  have F11 := fun_mk (st := topS 11) L11 u11 v11
  have m11 := PySem.W.mg_of X G A11
  have n_len := PySem.W.mg_none_of X G z_len
  have n_abs := PySem.W.mg_none_of X G z_abs
  have n_int := PySem.W.mg_none_of X G z_int
  have n_range := PySem.W.mg_none_of X G z_range
  have n_max := PySem.W.mg_none_of X G z_max
  have n_min := PySem.W.mg_none_of X G z_min
  have n_all := PySem.W.mg_none_of X G z_all
  have n_sum := PySem.W.mg_none_of X G z_sum
  have n_repr := PySem.W.mg_none_of X G z_repr
  have n_divmod := PySem.W.mg_none_of X G z_divmod
  refine ⟨PySem.W.fnOf "law" "law" (defArgs (topS 11)) (defBody (topS 11)) (defScope (topS 11)) .none kVe11 dce11 pme11 ane11 cde11 cte11, fun s u => .of_eq rfl, fun base _ _ hm => ?_⟩
  have GT : FnOk P w K mg base CX0 1 _ _ ["_law_pot_here", "_law_upto"] spTake := ok_take F4
  have GO := ok_of F5 GT b4 m4 v4 n_len
  have GS := ok_sg F6 GT b4 m4 v4
  have GG := ok_gr F9 GT b4 m4 v4 GO b5 m5 v5 n_range n_min
  have GF := ok_fs (P := P) (w := w) (base := base) F1 n_divmod
  have GA := ok_sm F7 GT b4 m4 v4 GO b5 m5 v5 GS b6 m6 v6 GF b1 (fun s us hl => match us, hl with | [_, _, _, _], _ => .of_eq rfl) m1 v1 n_range n_sum n_repr
  have GB := ok_mn F8 GT b4 m4 v4 GO b5 m5 v5 GS b6 m6 v6 GF b1 m1 v1 n_range n_repr
  have GC := ok_ct F10 GT b4 m4 v4 GO b5 m5 v5 GG b9 m9 v9 GF b1 m1 v1 n_min
  exact .of (ok_law F11 (ok_pot F3 n_len n_abs n_int) b3 m3 v3 GA b7 m7 v7 GB b8 m8 v8 GC b10 m10 v10 GF b1 m1 v1 n_range n_max n_min n_len n_all)
end Ev

open PySem PySem.W PyProof.Rows
set_option maxRecDepth 100000 in
set_option maxHeartbeats 0 in
theorem PySem.Challenge.cw_evensamples_k16_floor_sums_holds : PySem.Challenge.rw_evensamples_k16_floor_sums.Holds := by
  w_on; o_law; k_head; (case hw => w_witness2)
  k_fill
  refine Ev.walkG (l := PySem.Challenge.rw_evensamples_k16_floor_sums) (n := 63) (k := 5) (x := "_law_script") (CX := L2.CX0) (sp := Ev.spLaw) ?noImports rfl (by decide) rfl ⟨rfl, by decide, by decide⟩ (fun w h Y => PySem.W.kIn_of Y) ?F
    (fun _ _ a ns _ _ hS => ⟨a, ns, rfl, hS, fun _ => rfl⟩) (fun _ _ _ _ h => h)
  case noImports => decide +kernel
  case F =>
    intro w mg fa h KX G hmg
    refine' Ev.all_mk KX G hmg ?A1 ?L1 ?H1 ?A3 ?L3 ?H3 ?A4 ?L4 ?H4 ?A5 ?L5 ?H5 ?A6 ?L6 ?H6 ?A7 ?L7 ?H7 ?A8 ?L8 ?H8 ?A9 ?L9 ?H9 ?A10 ?L10 ?H10 ?A11 ?L11 ?H11 ?z_len ?z_abs ?z_int ?z_range ?z_max ?z_min ?z_all ?z_sum ?z_repr ?z_divmod
    (case A1 => k_is)
    (case L1 => k_is)
    (case H1 => kernel_rfl)
    (case A3 => k_is)
    (case L3 => k_is)
    (case H3 => kernel_rfl)
    (case A4 => k_is)
    (case L4 => k_is)
    (case H4 => kernel_rfl)
    (case A5 => k_is)
    (case L5 => k_is)
    (case H5 => kernel_rfl)
    (case A6 => k_is)
    (case L6 => k_is)
    (case H6 => kernel_rfl)
    (case A7 => k_is)
    (case L7 => k_is)
    (case H7 => kernel_rfl)
    (case A8 => k_is)
    (case L8 => k_is)
    (case H8 => kernel_rfl)
    (case A9 => k_is)
    (case L9 => k_is)
    (case H9 => kernel_rfl)
    (case A10 => k_is)
    (case L10 => k_is)
    (case H10 => kernel_rfl)
    (case A11 => k_is)
    (case L11 => k_is)
    (case H11 => kernel_rfl)
    (case z_len => k_is)
    (case z_abs => k_is)
    (case z_int => k_is)
    (case z_range => k_is)
    (case z_max => k_is)
    (case z_min => k_is)
    (case z_all => k_is)
    (case z_sum => k_is)
    (case z_repr => k_is)
    (case z_divmod => k_is)

import PyProof.Rows.All
import Wide.All
import OpenK.AllK
import Wide.FinOn
import PySem.Challenge.RW_evensamples_k61_limits_of_texts
import HandS.ForMost
import HandS.Wide
import HandS.More
import HandS.Set
import HandS.SetBool
import HandS.SetFor
import HandS.TupSets
import HandS.IsInst
import HandS.TupAny
import HandS.TupMul
import HandS.DictComp
import HandS.Exc
import HandS.ExcInit
import KE.KExcIs
import HandS.ExcOwn
import HandS.WordsExc
import HandS.ExcValue
import HandS.EndTab
import KE.KNestM
import HandS.Conv
import HandS.Text
import HandS.WideBits
import HandS.Zip
import HandS.Style
import PyProof.Rows.SortShellAny
import HandS.FStr
import HandS.Walk
import PyProof.Rows.StrMul
set_option Elab.async false
set_option linter.all false
set_option maxRecDepth 100000
set_option maxHeartbeats 4000000
/-! ## Promises of defs that are called while no repr is under way -/
namespace Ev
open PySem PySem.Spec PyProof.Rows L2

/-- the promise of a def, for a stack without a repr that is under way -/
structure FnG (P : Program) (w : World) (K : PySem.W.Frag) (mg : Str → Option Value)
    (base : Heap) (CX : CXT) (k : Nat) (f : Addr) (fd : FuncData) (ps : List Str) (sp : Sp) : Prop where
  many : ∀ vs H Q E, sp vs H Q E → vs.length = ps.length
  go : ∀ (A : Around) (outer : List Env) (s : Shared) (H : Hp) (args : Args)
      (us : List Value) (vs : List V) (Q : VK) (E : XK),
    Room k A → A.guards = some [] → Env0 P w K mg base A outer s H → BindsTo s fd args (ps.zip us) →
      Vals vs us → sp vs H Q E → codeAny (model P w) A (.call (.ref f) args) (CR CX outer P w H s Q E) s

section
variable {P : Program} {w : World} {K : PySem.W.Frag} {mg : Str → Option Value} {base : Heap} {CX : CXT}
variable {k : Nat} {f : Addr} {fd : FuncData} {ps : List Str} {sp : Sp}
theorem FnG.of (F : FnOk P w K mg base CX k f fd ps sp) : FnG P w K mg base CX k f fd ps sp :=
  ⟨F.len, fun A o s H args us vs Q E hr _ => F.run A o s H args us vs Q E hr⟩
theorem FnG.up {j : Nat} (F : FnG P w K mg base CX j f fd ps sp) (h : j ≤ k) : FnG P w K mg base CX k f fd ps sp :=
  ⟨F.many, fun A o s H args us vs Q E hr => F.go A o s H args us vs Q E (hr.mono h)⟩
end

section
variable {X : Cx} {CX : CXT} {k : Nat} {f : Addr} {fd : FuncData} {ps : List Str} {sp : Sp}
variable {dvs : List V} {ds : List Value} {E : XK} {x : Str} {p pos : Pos} {e : Expr} {es : List Expr} {t : TA}
theorem runG {pins : List (Addr × Obj)} {σ : L2.St} {H : Hp} {s : Shared} {Q : VK} {us : List Value} {vs : List V}
    (F : FnG X.prog X.w X.K X.mg X.base CX k f fd ps sp) (hr : Room k X.A) (gd : X.A.guards = some [])
    (hb : Binds X.K fd ps ds) (hd : Vals dvs ds) (hx : Passes CX X E) (I : Inv X pins σ H s) (r : Vals vs us)
    (h : sp (vs ++ dvs) H Q E) : wpAny (model X.prog X.w) X.A (call (.ref f) us) (EP X pins σ Q) X.xe s := by
  have rr : Vals (vs ++ dvs) (us ++ ds) := r.append hd
  have hl : (us ++ ds).length = ps.length := rr.length.symm.trans (F.many _ _ _ _ h)
  have z := F.go X.A X.stack s H ⟨us, []⟩ (us ++ ds) (vs ++ dvs) Q E hr gd I.env0 (hb s us I.kIn hl) rr h
  refine wpAny_call (codeAny_mono z fun res s' hq => ?_)
  match res, hq with
  | .error e, hq => exact hx pins σ H s e s' I hq
  | .ok (.ret u), hq => exact I.after hq
  | .ok .next, hq => exact False.elim hq
  | .ok .brk, hq => exact False.elim hq
  | .ok .cont, hq => exact False.elim hq
theorem pe_callG (F : FnG X.prog X.w X.K X.mg X.base CX k f fd ps sp) (hr : Room k X.A) (gd : X.A.guards = some [])
    (hg : Gl X x) (hm : X.mg x = some (.ref f)) (hk : PySem.W.keepIn X.K (.ref f) = true) (hb : Binds X.K fd ps ds)
    (hd : Vals dvs ds) (hx : Passes CX X E) (ha : PA X (e :: es) t)
    (hdb : (x == ("__debug__" : Str)) = false := by decide)
    (he : starEach (e :: es) X.env = (false, eval e X.env) :: starEach es X.env := by rfl)
    (hpl : (backTo pos (starEach es X.env)).any (·.1) = false := by rfl) :
    PE X (.Call (.Name x p) (e :: es) [] pos) (tCall sp dvs E t) := by
  constructor
  intro pins s σ H Q I h
  refine wpAny_Call_Name_kw (ld_glob I hg hm ?_ hdb)
  have z := ha.run pos pins s σ H _ I h
  refine PySem.W.callWith_K (h₀ := X.base) I.ok.mod.kin hk (thn z ?_) he hpl
  rintro us s1 ⟨vs, H1, I1, r, q⟩
  exact ⟨I1.kIn, runG F hr gd hb hd hx I1 r q⟩
theorem pe_callG0 (F : FnG X.prog X.w X.K X.mg X.base CX k f fd ps sp) (hr : Room k X.A) (gd : X.A.guards = some [])
    (hg : Gl X x) (hm : X.mg x = some (.ref f)) (hk : PySem.W.keepIn X.K (.ref f) = true) (hb : Binds X.K fd ps ds)
    (hd : Vals dvs ds) (hx : Passes CX X E) (hdb : (x == ("__debug__" : Str)) = false := by decide) :
    PE X (.Call (.Name x p) [] [] pos) (tCall sp dvs E tNil) := by
  constructor
  intro pins s σ H Q I h
  refine wpAny_Call_Name_kw (ld_glob I hg hm ?_ hdb)
  have z := runG (us := []) F hr gd hb hd hx I .nil h
  exact PySem.W.callWith_K0 I.kIn hk z
end

/-- a def by its body -/
theorem fnG_of {CX : CXT} {P : Program} {w : World} {K : PySem.W.Frag} {mg : Str → Option Value} {base : Heap}
    {k : Nat} {f : Addr} {name qual : Str} {params : Arguments} {body : List Stmt} {scope : Scope}
    {dV kV doc pm cdv ct oc : Value} {an od : Option Addr} {osl : Array (Option Value)} {N ps : List Str} {sp : Sp}
    (lk : K.lookup f = some ⟨oc, od, .func (PySem.W.fnOf name qual params body scope dV kV doc pm an cdv ct), osl⟩)
    (hcd : PySem.W.codeIn K cdv qual = true) (S : FnScope N ps scope)
    (len : ∀ vs H Q E, sp vs H Q E → vs.length = ps.length)
    (hbody : ∀ (A : Around) (outer : List Env) (s : Shared) (H : Hp) (vs : List V) (Q : VK) (E : XK),
      Room k (A.deeper (envOfC qual scope s.heap.objs.size f cdv)) → A.guards = some [] → sp vs H Q E →
      ∃ t, PSs (cxOf CX P w K mg base N qual scope f cdv A outer s H E) body t ∧
        t { nx := fun _ H' => Q .non H', rt := Q } (start N vs) H) :
    FnG P w K mg base CX (k + 1) f (PySem.W.fnOf name qual params body scope dV kV doc pm an cdv ct) ps sp := by
  constructor
  · exact len
  intro A outer s H args us vs Q E hr gd e0 hb r hsp
  have old : ∀ b o, base.get? b = some o → s.heap.get? b = some o := fun b o e => (e0.bs b o e).1
  have KX : K.In s.heap := e0.mod.kin.keeps old
  have lim : s.heap.NoLimit := e0.mod.nolimit.keeps old
  have hkind : ∀ y ∈ ps.zip us, scope.names.lookup y.1 = some .local ∨
      (scope.names.lookup y.1 = some .cell ∧
        ((cellsFrom (s.heap.objs.size + 1) scope.names []).lookup y.1).isSome = true) := by
    rintro ⟨n, v⟩ hy
    have hn := (List.of_mem_zip hy).1
    rcases S.par n hn with q | q
    · exact Or.inl q
    · exact Or.inr ⟨q, PySem.W.cellsFrom_some _ _ _ (Or.inl q)⟩
  refine codeAny_call_function hr.depth (KX _ _ lk) rfl S.co S.gen rfl (PySem.W.codeRec_of KX hcd) (hb _ _ _ _ ?_)
  refine wpAny_newFunctionEnv_cells S.kind hkind ?_
  rintro env rfl s1 x
  refine ⟨lim.keeps x.toInCall.keep, codeAny_func ?_⟩
  obtain ⟨t, ht, hq⟩ := hbody A outer s H vs Q E (hr.deeper _) gd hsp
  have I := inv_start (CX := CX) (E := E) S hr.hd e0 (len _ _ _ _ hsp) r x
  refine wpAny_mono (ht.run [] s1 (start N vs) H _ I hq) ?_ (fun _ _ z => z)
  intro fl s' hs
  match fl, hs with
  | .ret u, ⟨v, σ', H', J, rv, q⟩ => exact ⟨v, H', J.os, J.bare, J.base, J.hok, rv, q⟩
  | .next, ⟨σ', H', J, q⟩ => exact ⟨V.non, H', J.os, J.bare, J.base, J.hok, rfl, q⟩
  | .brk, ⟨_, _, _, q⟩ => exact False.elim q
  | .cont, ⟨_, _, _, q⟩ => exact False.elim q

section
variable {P : Program} {w : World} {K : PySem.W.Frag} {mg : Str → Option Value} {base : Heap}
theorem okG {x qual : Str} {st : Stmt} {f : Addr} {fd : FuncData} {N ps : List Str} {k : Nat} {sp : Sp}
    (F : Fun K x qual st f fd) (S : FnScope N ps (defScope st))
    (len : ∀ vs H Q E, sp vs H Q E → vs.length = ps.length)
    (hbody : ∀ (cdv : Value) (A : Around) (outer : List Env) (s : Shared) (H : Hp) (vs : List V) (Q : VK) (E : XK),
      Room k (A.deeper (envOfC qual (defScope st) s.heap.objs.size f cdv)) → A.guards = some [] → sp vs H Q E →
      ∃ t, PSs (cxOf CX0 P w K mg base N qual (defScope st) f cdv A outer s H E).nox (defBody st) t ∧
        t { nx := fun _ H' => Q .non H', rt := Q } (start N vs) H) :
    FnG P w K mg base CX0 (k + 1) f fd ps sp := by
  obtain ⟨oc, od, kV, doc, pm, an, cdv, ct, osl, e, lk, hcd⟩ := F.ex
  subst e
  refine fnG_of lk hcd S len ?_
  intro A outer s H vs Q E hr gd hsp
  obtain ⟨t, h, q⟩ := hbody cdv A outer s H vs Q E hr gd hsp
  exact ⟨t, h.nox, q⟩
end

/-! ### the end of a law, by such a promise -/
theorem law_end {P : Program} {w : World} {K : PySem.W.Frag} {mg mb : Str → Option Value} {CX : CXT} {k : Nat}
    {fa a : Addr} {fd : FuncData} {x : Str} {sp : Sp} {s₁ : Shared} {vs : List Value} {ns : List Int}
    (KX : K.In s₁.heap) (hns : s₁.heap.Ns mainGlobals mg) (hb : s₁.heap.Ns builtinsNs mb)
    (hbb : ∀ x : Str, x ≠ "__name__" → mb x = bootBuiltins x) (hlim : s₁.heap.NoLimit) (hg : s₁.gens = #[])
    (ha : s₁.heap.get? a = some { cls := .type "list", data := .seq vs.toArray }) (hi : IntsAre vs ns)
    (hl : ns.length ≤ sizeLine) (hr : Room k callerA) (hsm : ∃ mm, s₁.heap.Ns sysModules mm)
    (F : ∀ base : Heap, K.In base → base.Ns mainGlobals mg → (∃ mm, base.Ns sysModules mm) → FnG P w K mg base CX k fa fd [x] sp)
    (hbind : ∀ (s : Shared) (u : Value), BindsTo s fd ⟨[u], []⟩ [(x, u)])
    (hsp : ∀ H : Hp, Only H → SqL K H a (ns.map V.int) → sp [.ref a] H (fun v _ => v = .bl true) fun _ _ _ => False)
    (hCX : ∀ H e s', CX [] H s₁ (fun _ _ _ => False) e s' → False) :
    codeAny (model P w) callerA (.call (.ref fa) ⟨[.ref a], []⟩)
      (fun r s' => r = .ok (.ret (.bool true)) ∧ OldK s₁.heap s'.heap ∧ s'.os = s₁.os ∧ AllBare s'.gens) s₁ := by
  have rv := vals_ints hi
  have lenV := hi.length
  have core : ∀ H : Hp, Only H → SqL K H a (ns.map V.int) → HOk P w H s₁.heap → (∀ b, H b ≠ none → b = a) →
      (H a ≠ none → K.lookup a = none) →
      codeAny (model P w) callerA (.call (.ref fa) ⟨[.ref a], []⟩)
        (fun r s' => r = .ok (.ret (.bool true)) ∧ OldK s₁.heap s'.heap ∧ s'.os = s₁.os ∧ AllBare s'.gens) s₁ := by
    intro H hO hS hok hA hK
    have at_a : ∀ {b : Addr} {u : HO}, H b = some u → b = a := fun {b u} q => hA b (by rw [q]; simp)
    have noA : ∀ {b : Addr} {o : Obj} {es : Array DictEntry} {ep : Nat}, s₁.heap.get? b = some o →
        o.data = .dict es ep → H b = none := by
      intro b o es ep e d
      cases q : H b with
      | none => rfl
      | some u =>
        rw [at_a q, ha] at e
        cases e
        exact nomatch d
    have nsK : ∀ {b : Addr} {m : Str → Option Value}, s₁.heap.Ns b m → (hidT s₁.heap H).Ns b m := by
      rintro b m ⟨o, es, ep, e, d, r⟩
      exact ⟨o, es, ep, hidT_get e (noA e d), d, r⟩
    have hKb : K.In (hidT s₁.heap H) := by
      intro b o e
      refine hidT_get (KX b o e) ?_
      cases q : H b with
      | none => rfl
      | some u =>
        have e' := at_a q
        subst e'
        rw [hK (by rw [q]; simp)] at e
        cases e
    have hM : Mod K mg (hidT s₁.heap H) := by
      obtain ⟨mc, h1, h2⟩ := hlim
      exact ⟨hKb, nsK hns, ⟨mb, nsK hb, hbb⟩, ⟨mc, nsK h1, h2⟩⟩
    have e0 : Env0 P w K mg (hidT s₁.heap H) callerA [] s₁ H := by
      refine ⟨rfl, hM, fun b o e => of_hidT e, Nat.le_of_eq (hidT_size _ _), trivial, ?_, hok, .of_eq hg⟩
      intro b hb
      exact absurd (show b ∈ ([] : List Addr) from hb) (by simp)
    have hmods : ∃ mm, (hidT s₁.heap H).Ns sysModules mm := by
      obtain ⟨mm, h1⟩ := hsm
      exact ⟨mm, nsK h1⟩
    have z := (F _ hKb (nsK hns) hmods).go callerA [] s₁ H ⟨[.ref a], []⟩ [.ref a] [.ref a] _ _ hr rfl e0
      (hbind s₁ (.ref a)) (.cons rfl .nil) (hsp H hO hS)
    refine codeAny_mono z fun r s' h => ?_
    match r, h with
    | .error e, h => exact (hCX H e s' h).elim
    | .ok .next, h => exact False.elim h
    | .ok .brk, h => exact False.elim h
    | .ok .cont, h => exact False.elim h
    | .ok (.ret u), ⟨v, H', os, bare, un, hok', r', q⟩ =>
      have q' : v = .bl true := q
      subst q'
      obtain rfl : u = Value.bool true := r'
      refine ⟨rfl, OldK.of_keep ?_, os, bare⟩
      intro b o e
      cases q : H b with
      | none =>
        refine un.keep b o e q ?_ (by simp)
        intro z
        exact absurd (show b ∈ ([] : List Addr) from z) (by simp)
      | some u =>
        rcases hO b with z | ⟨ob, xs, z⟩
        · rw [q] at z
          cases z
        · obtain ⟨e1, _⟩ := hok b _ z
          obtain ⟨e2, _⟩ := hok' b _ (un.frzs b ob _ z)
          rw [e] at e1
          cases e1
          exact e2
  cases hk : K.lookup a with
  | some o =>
    have e := KX a o hk
    rw [ha] at e
    cases e
    refine core (fun _ => none) (fun _ => Or.inl rfl) (Or.inr ⟨_, vs.toArray, _, hk, rfl, rfl, rfl, ?_, ?_⟩) ?_ ?_ ?_
    · rw [List.size_toArray, lenV]
      exact hl
    · simpa using rv
    · intro b u z
      cases (show (none : Option HO) = some u from z)
    · intro b z
      exact absurd rfl z
    · intro z
      exact absurd rfl z
  | none =>
    let o₁ : Obj := { cls := .type "list", data := .seq vs.toArray }
    let H₁ : Hp := fun b => if b = a then some (.frz o₁ (.lst (ns.map V.int))) else none
    have at1 : H₁ a = some (.frz o₁ (.lst (ns.map V.int))) := if_pos rfl
    have off : ∀ b, b ≠ a → H₁ b = none := fun b h => if_neg h
    refine core H₁ (fun b => ?_) (Or.inl (Or.inr ⟨o₁, at1⟩)) (fun b u z => ?_) (fun b z => ?_) fun _ => hk
    · by_cases hb : b = a
      · subst hb
        exact Or.inr ⟨_, _, at1⟩
      · exact Or.inl (off b hb)
    · by_cases hb : b = a
      · subst hb
        rw [at1] at z
        cases z
        refine ⟨ha, ?_, vs, _, rv, ha⟩
        rw [List.length_map]
        exact hl
      · rw [off b hb] at z
        cases z
    · by_cases hb : b = a
      · exact hb
      · exact absurd (off b hb) z

theorem walkG {l : PySem.W.OpenLaw} {n k : Nat} {q : Program} {loose : List Str} {XP : (Str → Option Value) → Heap → Prop}
    {YP : World → Heap → Prop} {d : DefRec} {K : Params → PySem.W.Frag} {CX : CXT} {sp : PySem.W.Frag → Sp} {x : Str}
    (hq : importsNone q = true) (hn : l.most = some n) (hn2 : n ≤ sizeLine) (hdf : d.params.defaults = []) (hr : Room k callerA)
    (hY : ∀ (w : World) (h : Heap), YP w h → (K w.params).In h)
    (F : ∀ (w : World) (mg : Str → Option Value) (fa : Addr) (h : Heap), (K w.params).In h → h.Ns mainGlobals mg →
      mg d.name = some (.ref fa) →
      ∃ fd : FuncData, (∀ (s : Shared) (u : Value), BindsTo s fd ⟨[u], []⟩ [(x, u)]) ∧
        ∀ base : Heap, (K w.params).In base → base.Ns mainGlobals mg → (∃ mm, base.Ns sysModules mm) →
          FnG l.prog w (K w.params) mg base CX k fa fd [x] (sp (K w.params)))
    (hsp : ∀ (K : PySem.W.Frag) (H : Hp) (a : Addr) (ns : List Int), ns.length ≤ n → Only H →
      SqL K H a (ns.map V.int) → sp K [.ref a] H (fun v _ => v = .bl true) fun _ _ _ => False)
    (hCX : ∀ (H : Hp) (s : Shared) (e : Value) (s' : Shared), CX [] H s (fun _ _ _ => False) e s' → False) :
    PySem.W.WalkO q loose XP YP l.row.toRowW d [] (fun f vs => PySem.call f vs) := by
  refine Att.attach_call hn hdf ?_
  intro w s₀ s₁ mg mb fa o pm cd doc a vs ns G Y ho hd hcd hmg hobj hints hlen hg
  have KX := hY w _ Y
  obtain ⟨fd, hb, hF⟩ := F w mg fa _ KX G.T.g hmg
  have hz := Nat.le_trans hlen hn2
  obtain ⟨mm, hmm, _⟩ := (G.T.seer hq).mods
  refine law_end KX G.T.g G.T.b G.T.builtins G.T.nolimit hg hobj hints hz hr ⟨mm, hmm⟩ hF hb ?_ ?_
  · exact fun H hO hS => hsp _ H a ns hlen hO hS
  · exact fun H e s' => hCX H s₁ e s'

/-! ### powers of great numbers -/
def CPowG (i j : Int) : Prop := 0 ≤ j ∧ (Builtin.Int.intBits i : Int) * j ≤ 2 ^ 27
theorem op_powG {X : Cx} : OpR X (binaryOp .Pow) (rI CPowG fun i j => .int (i ^ j.toNat)) :=
  opI fun _ _ _ _ _ _ _ hc q => pow_int hc.1 hc.2 q

/-! ### data at any depth, dicts among them -/
def kD : Key → PyData
  | .inl i => .int i
  | .inr x => .str x
mutual
inductive Da (K : PySem.W.Frag) (H : Hp) : V → PyData → Prop
  | non : Da K H .non .none
  | bl (b : Bool) : Da K H (.bl b) (.bool b)
  | int (i : Int) : Da K H (.int i) (.int i)
  | str (x : Str) : Da K H (.str x) (.str x)
  | lst {a : Addr} {xs : List V} {ds : List PyData} (h : SqL K H a xs) (t : DaAll K H xs ds) : Da K H (.ref a) (.list ds)
  | tup {a : Addr} {xs : List V} {ds : List PyData} (h : SqT K H a xs) (t : DaAll K H xs ds) : Da K H (.ref a) (.tuple ds)
  | dic {a : Addr} {kvs : List (Key × V)} {ds : List (PyData × PyData)} (h : H a = some (.dK kvs)) (t : DaKv K H kvs ds) : Da K H (.ref a) (.dict ds)
inductive DaAll (K : PySem.W.Frag) (H : Hp) : List V → List PyData → Prop
  | nil : DaAll K H [] []
  | cons {v : V} {vs : List V} {d : PyData} {ds : List PyData} (h : Da K H v d) (t : DaAll K H vs ds) : DaAll K H (v :: vs) (d :: ds)
inductive DaKv (K : PySem.W.Frag) (H : Hp) : List (Key × V) → List (PyData × PyData) → Prop
  | nil : DaKv K H [] []
  | cons {k : Key} {v : V} {kvs : List (Key × V)} {d : PyData} {ds : List (PyData × PyData)} (h : Da K H v d) (t : DaKv K H kvs ds) :
      DaKv K H ((k, v) :: kvs) ((kD k, d) :: ds)
end
section
variable {K : PySem.W.Frag} {H H' : Hp}
theorem seqT_mono (s : Same H H') {a : Addr} {xs : List V} (h : SqT K H a xs) : SqT K H' a xs := by
  rcases h with (e | ⟨o, e⟩) | e
  · exact .inl (.inl (s _ _ e))
  · exact .inl (.inr ⟨o, s _ _ e⟩)
  · exact .inr e
mutual
theorem Da.mono (s : Same H H') : ∀ {v : V} {d : PyData}, Da K H v d → Da K H' v d
  | _, _, .non => .non
  | _, _, .bl b => .bl b
  | _, _, .int i => .int i
  | _, _, .str x => .str x
  | _, _, .lst h t => .lst (s.seq h) (DaAll.mono s t)
  | _, _, .tup h t => .tup (seqT_mono s h) (DaAll.mono s t)
  | _, _, .dic h t => .dic (s _ _ h) (DaKv.mono s t)
theorem DaAll.mono (s : Same H H') : ∀ {vs : List V} {ds : List PyData}, DaAll K H vs ds → DaAll K H' vs ds
  | _, _, .nil => .nil
  | _, _, .cons h t => .cons (Da.mono s h) (DaAll.mono s t)
theorem DaKv.mono (s : Same H H') : ∀ {vs : List (Key × V)} {ds : List (PyData × PyData)}, DaKv K H vs ds → DaKv K H' vs ds
  | _, _, .nil => .nil
  | _, _, .cons h t => .cons (Da.mono s h) (DaKv.mono s t)
end
end
section
variable {X : Cx} {pins : List (Addr × Obj)} {σ : L2.St} {H : Hp} {s : Shared}
theorem key_reads {h : Heap} {k : Key} {u : Value} (e : keyIs k u = true) : Reads h u (kD k) [] := by
  rcases keyIs_shape e with ⟨i, t, rfl, rfl⟩ | ⟨x, t, rfl, rfl⟩
  · exact .int i t
  · exact .str x t
/-- a list does not stand where the modules' dict stands -/
theorem not_mods (hm : ∃ mm, X.base.Ns sysModules mm) (I : Inv X pins σ H s) {a : Addr} {o : Obj} {vs : Array Value} {n : Nat}
    (ho : s.heap.get? a = some o) (hd : o.data = .seq vs n) : sysModules ≠ a := by
  rintro rfl
  obtain ⟨mm, om, es, ep, e1, e2, _⟩ := hm
  have e3 := I.bk _ _ e1
  rw [ho] at e3
  cases e3
  rw [hd] at e2
  cases e2
mutual
theorem Da.reads (hm : ∃ mm, X.base.Ns sysModules mm) (I : Inv X pins σ H s) : ∀ (d : PyData) (v : V) (u : Value), Da X.K H v d → RelV v u → ∃ as, Reads s.heap u d as ∧ sysModules ∉ as
  | .none, _, _, h, r => by
    cases h
    cases r
    exact ⟨_, .none, by simp⟩
  | .bool b, _, _, h, r => by
    cases h
    cases r
    exact ⟨_, .bool b, by simp⟩
  | .int i, _, _, h, r => by
    cases h
    obtain ⟨t, rfl⟩ := r
    exact ⟨_, .int i t, by simp⟩
  | .str x, _, _, h, r => by
    cases h
    obtain ⟨t, rfl⟩ := r
    exact ⟨_, .str x t, by simp⟩
  | .list ds, _, _, h, r => by
    cases h with
    | lst hs ha =>
      cases r
      obtain ⟨its, rv, ⟨o, n, ho, hc, _, hd⟩, _⟩ := I.list hs
      obtain ⟨as, hr, no⟩ := Da.readsAll hm I ds _ its ha rv
      refine ⟨_, .list ho hc hd hr, ?_⟩
      rw [List.mem_cons, not_or]
      exact ⟨not_mods hm I ho hd, no⟩
  | .tuple ds, _, _, h, r => by
    cases h with
    | tup hs ha =>
      cases r
      obtain ⟨its, rv, ⟨o, ho, hc, n, hd⟩, _⟩ := I.tuple hs
      obtain ⟨as, hr, no⟩ := Da.readsAll hm I ds _ its ha rv
      exact ⟨_, .tuple ho hc hd hr, no⟩
  | .dict ds, _, _, h, r => by
    cases h with
    | @dic a kvs _ he hk =>
      cases r
      have ok : ObjOk X.prog X.w H s.heap a (.dK kvs) := I.hok a _ he
      obtain ⟨_, ns, vs, kv, o, es, ep, ho, ex, hd, _, ps, _⟩ := ok
      obtain ⟨as, bs, h1, h2, n1, n2⟩ := Da.readsKv hm I ds kvs vs es.toList hk kv ps
      refine ⟨_, .dict ho ex.1 hd h1 h2, ?_⟩
      rw [List.mem_append, List.mem_cons, not_or, not_or]
      refine ⟨⟨fun z => ?_, n1⟩, n2⟩
      rw [← z] at ns
      exact absurd ns (by decide)
theorem Da.readsAll (hm : ∃ mm, X.base.Ns sysModules mm) (I : Inv X pins σ H s) : ∀ (ds : List PyData) (vs : List V) (us : List Value), DaAll X.K H vs ds → Vals vs us → ∃ as, ReadsAll s.heap us ds as ∧ sysModules ∉ as
  | [], _, _, h, r => by
    cases h
    cases r
    exact ⟨_, .nil, by simp⟩
  | d :: ds, _, _, h, r => by
    cases h with
    | cons h1 h2 =>
      cases r with
      | cons r1 r2 =>
        obtain ⟨as, q1, n1⟩ := Da.reads hm I d _ _ h1 r1
        obtain ⟨bs, q2, n2⟩ := Da.readsAll hm I ds _ _ h2 r2
        refine ⟨_, .cons q1 q2, ?_⟩
        rw [List.mem_append, not_or]
        exact ⟨n1, n2⟩
theorem Da.readsKv (hm : ∃ mm, X.base.Ns sysModules mm) (I : Inv X pins σ H s) : ∀ (ds : List (PyData × PyData)) (kvs : List (Key × V)) (vs : List (Key × Value)) (es : List DictEntry), DaKv X.K H kvs ds → KV kvs vs →
    Pairs (mixKind X.prog X.w) es vs → ∃ as bs, ReadsAll s.heap (es.map (·.key)) (ds.map (·.1)) as ∧ ReadsAll s.heap (es.map (·.val)) (ds.map (·.2)) bs ∧ sysModules ∉ as ∧ sysModules ∉ bs
  | [], _, _, _, h, r, p => by
    cases h
    cases r
    cases p
    exact ⟨_, _, .nil, .nil, by simp, by simp⟩
  | d :: ds, _, _, _, h, r, p => by
    cases h with
    | cons h1 h2 =>
      cases r with
      | cons r1 r2 =>
        cases p with
        | cons p1 p2 p3 =>
          obtain ⟨e1, e2⟩ := r1
          obtain ⟨as, q1, n1⟩ := Da.reads hm I _ _ _ h1 e2
          obtain ⟨cs, bs, q2, q3, n2, n3⟩ := Da.readsKv hm I ds _ _ _ h2 r2 p3
          rw [← p2] at q1
          rw [← e1] at p1
          refine ⟨_, _, .cons (key_reads p1) q2, .cons q1 q3, by simpa using n2, ?_⟩
          rw [List.mem_append, not_or]
          exact ⟨n1, n3⟩
end
end
/-! ### repr of data -/
def rRepr (K : PySem.W.Frag) : List V → Hp → VK → Prop := fun xs H Q =>
  ∃ (a : Addr) (d : PyData), xs = [.ref a] ∧ Da K H (.ref a) d ∧ d.showable = true ∧ d.depth ≤ 64 ∧ d.shown.length ≤ sizeLine ∧ Q (.str d.shown) H
theorem call_repr {X : Cx} (hm : ∃ mm, X.base.Ns sysModules mm) (gd : X.A.guards = some []) (hu : X.A.units + 70 < cLine) :
    CallR X (.builtin "repr") (rRepr X.K) := by
  intro pins s σ H xs us Q I r h
  obtain ⟨a, d, rfl, hs, sh, dp, sz, q⟩ := h
  cases r with
  | cons r1 r2 =>
    cases r2
    obtain ⟨as, rd, sy⟩ := Da.reads hm I d _ _ hs r1
    obtain rfl := r1
    refine repr_of_reads' rd sh (fun _ => sy) gd (by omega) (fun _ _ e => e) (fun h' u tk k => ?_) sz
    exact ⟨.str d.shown, H, I.kept (h' := h') (t' := tk) k, ⟨u, rfl⟩, q⟩
end Ev

/-! ## What an expression gives, while all that is tracked stands -/
namespace Ev
open PySem PySem.Spec PyProof.Rows L2
theorem PE.imp {X : Cx} {e : Expr} {t t' : TE} (h : PE X e t) (i : ∀ σ H Q, t' σ H Q → t σ H Q) : PE X e t' :=
  ⟨fun pins s σ H Q I z => h.run pins s σ H Q I (i σ H Q z)⟩
theorem Same.rfl' {H : Hp} : Same H H := fun _ _ e => e
theorem same_put {H : Hp} {p : Addr} {o : HO} (h : H p = none) : Same H (upd H p o) := fun b x e => by
  rw [upd_ne (ne_of_none e h)]
  exact e
/-- all but p stands as it stood -/
def Bu (p : Addr) (H H' : Hp) : Prop := ∀ b o, b ≠ p → H b = some o → H' b = some o
theorem Bu.refl {p : Addr} {H : Hp} : Bu p H H := fun _ _ _ e => e
theorem Bu.trans {p : Addr} {H H1 H2 : Hp} (h : Bu p H H1) (k : Bu p H1 H2) : Bu p H H2 := fun b o n e => k b o n (h b o n e)
theorem Bu.put {p : Addr} {H : Hp} {o : HO} : Bu p H (upd H p o) := fun b _ n e => by
  rw [upd_ne n]
  exact e
theorem Bu.new {p q : Addr} {H : Hp} {o : HO} (h : H q = none) : Bu p H (upd H q o) := fun b _ _ e => by
  rw [upd_ne (ne_of_none e h)]
  exact e
theorem Bu.of {p : Addr} {H H' : Hp} (h : Same H H') : Bu p H H' := fun b o _ e => h b o e
structure GP where
  p : Hp → V → Prop
  mono : ∀ {H H' : Hp} {u : V}, Same H H' → p H u → p H' u
def AllG (Gs : List GP) (H : Hp) (us : List V) : Prop := Paired (fun (G : GP) u => G.p H u) Gs us
theorem AllG.mono {H H' : Hp} (s : Same H H') : ∀ {Gs : List GP} {us : List V}, AllG Gs H us → AllG Gs H' us
  | _, _, .nil => .nil
  | G :: _, _, .cons h t => .cons (G.mono s h) (AllG.mono s t)
theorem AllG.append {H : Hp} : ∀ {Gs Gs' : List GP} {us us' : List V}, AllG Gs H us → AllG Gs' H us' → AllG (Gs ++ Gs') H (us ++ us')
  | _, _, _, _, .nil, k => k
  | _ :: _, _, _, _, .cons h t, k => .cons h (AllG.append t k)
def gEq (v : V) : GP := ⟨fun _ u => u = v, fun _ h => h⟩
def gLst (Gs : List GP) : GP := ⟨fun H u => ∃ p us, u = .ref p ∧ H p = some (.lst us) ∧ AllG Gs H us, fun s ⟨p, us, h1, h2, h3⟩ => ⟨p, us, h1, s _ _ h2, h3.mono s⟩⟩
def Gives (H0 : Hp) (te : TE) (G : GP) (σ : L2.St) : Prop := ∀ (H : Hp) (Q : VK), Same H0 H → (∀ H' u, Same H H' → G.p H' u → Q u H') → te σ H Q
def GivesL (H0 : Hp) (ta : TA) (Gs : List GP) (σ : L2.St) : Prop := ∀ (H : Hp) (Q : List V → Hp → Prop), Same H0 H → (∀ H' us, Same H H' → AllG Gs H' us → Q us H') → ta σ H Q
section
variable {H0 : Hp} {σ : L2.St} {te te' : TE} {ta : TA} {G : GP} {Gs Gs' : List GP} {i : Nat} {v : V} {C : Addr} {D : Ends} {rest : TS}
theorem g_nil : GivesL H0 tNil [] σ := fun H Q _ q => q H [] Same.rfl' .nil
theorem g_cons (h : Gives H0 te G σ) (t : GivesL H0 ta Gs σ) : GivesL H0 (tCons te ta) (G :: Gs) σ := fun H Q s q =>
  h H _ s fun H1 u s1 g1 => t H1 _ (s.trans s1) fun H2 us s2 g2 => q H2 (u :: us) (s1.trans s2) (.cons (G.mono s2 g1) g2)
theorem g_lst (h : GivesL H0 ta Gs σ) (hz : Gs.length ≤ 1000 := by simp) : Gives H0 (tLst ta) (gLst Gs) σ := fun H Q s q =>
  h H _ s fun H1 us s1 g1 => by
    have hl : us.length = Gs.length := (Paired.length g1).symm
    refine ⟨?_, fun p np => ?_⟩
    · have y := sizeLine_eq
      omega
    · have s2 := same_put (o := .lst us) np
      exact q _ _ (s1.trans s2) ⟨p, us, rfl, upd_same, g1.mono s2⟩
theorem g_cat (h : Gives H0 te (gLst Gs) σ) (h' : Gives H0 te' (gLst Gs') σ) (hz : Gs.length + Gs'.length ≤ 1000 := by simp) :
    Gives H0 (tOp rCat te te') (gLst (Gs ++ Gs')) σ := fun H Q s q =>
  h H _ s fun H1 u s1 ⟨p, us, e1, h1, g1⟩ => h' H1 _ (s.trans s1) fun H2 u' s2 ⟨p', us', e2, h2, g2⟩ => by
    have l1 : us.length = Gs.length := (Paired.length g1).symm
    have l2 : us'.length = Gs'.length := (Paired.length g2).symm
    refine ⟨p, p', us, us', e1, e2, s2 _ _ h1, h2, ?_, fun r nr => ?_⟩
    · have y := sizeLine_eq
      omega
    · have s3 := same_put (o := .lst (us ++ us')) nr
      exact q _ _ ((s1.trans s2).trans s3) ⟨r, us ++ us', rfl, upd_same, AllG.append (g1.mono (s2.trans s3)) (g2.mono s3)⟩
theorem g_var (hv : σ[i]? = some (some v)) (g : G.p H0 v) : Gives H0 (tVar i) G σ := fun H Q s q => ⟨v, hv, q H v Same.rfl' (G.mono s g)⟩
theorem g_eq (hv : σ[i]? = some (some v)) : Gives H0 (tVar i) (gEq v) σ := g_var hv rfl
theorem s_set (h : Gives H0 te G σ) (k : ∀ H' u, Same H0 H' → G.p H' u → rest D (σ.set i (some u)) H') : tSeq (tAsg te (gName i)) rest D σ H0 :=
  h H0 _ Same.rfl' fun H' u s g => k H' u s g
theorem s_ret (h : Gives H0 te G σ) (k : ∀ H' u, Same H0 H' → G.p H' u → D.rt u H') : tRet te D σ H0 :=
  h H0 _ Same.rfl' fun H' u s g => k H' u s g
end
/-- the abstract heap without p -/
def but (H : Hp) (p : Addr) : Hp := fun b => if b = p then none else H b
theorem but_ne {H : Hp} {p b : Addr} (h : b ≠ p) : but H p b = H b := if_neg h
theorem but_same {H H' : Hp} {p : Addr} (s : Same H H') : Same (but H p) (but H' p) := fun b o e => by
  by_cases h : b = p
  · rw [h] at e
    have z : but H p p = none := if_pos rfl
    rw [z] at e
    cases e
  · rw [but_ne h] at e ⊢
    exact s _ _ e
theorem but_le {H H' : Hp} {p : Addr} (s : Bu p H H') : Same (but H p) H' := fun b o e => by
  by_cases h : b = p
  · rw [h] at e
    have z : but H p p = none := if_pos rfl
    rw [z] at e
    cases e
  · rw [but_ne h] at e
    exact s _ _ h e
/-- data that do not hold p -/
def gDa (K : PySem.W.Frag) (p : Addr) (d : PyData) : GP := ⟨fun H u => Da K (but H p) u d, fun s h => h.mono (but_same s)⟩
section
variable {K : PySem.W.Frag} {p : Addr} {op : HO} {H0 : Hp} {σ : L2.St} {te : TE} {ta : TA} {G : GP} {Gs : List GP} {v : V} {d : PyData} {ds : List PyData}
theorem ne_new {H : Hp} {q : Addr} (hp : H0 p = some op) (s : Same H0 H) (nq : H q = none) : q ≠ p := fun z => by
  rw [z, s _ _ hp] at nq
  cases nq
theorem g_c (h : ∀ H, G.p H v) : Gives H0 (tC v) G σ := fun H Q _ q => q H v Same.rfl' (h H)
theorem g_neg {i : Int} : Gives H0 (tUn (rU fun i => .int (-i)) (tC (.int i))) (gDa K p (.int (-i))) σ := fun H Q _ q => ⟨i, rfl, q H _ Same.rfl' (.int _)⟩
theorem g_pow {i j : Int} (h : CPow i j) : Gives H0 (tOp (rI CPow fun i j => .int (i ^ j.toNat)) (tC (.int i)) (tC (.int j))) (gDa K p (.int (i ^ j.toNat))) σ :=
  fun H Q _ q => ⟨i, j, rfl, rfl, h, q H _ Same.rfl' (.int _)⟩
theorem allDa {H : Hp} : ∀ {ds : List PyData} {us : List V}, AllG (ds.map (gDa K p)) H us → DaAll K (but H p) us ds
  | [], _, .nil => .nil
  | _ :: _, _, .cons h t => .cons h (allDa t)
theorem g_lstD (hp : H0 p = some op) (h : GivesL H0 ta (ds.map (gDa K p)) σ) (hz : ds.length ≤ 1000 := by simp) : Gives H0 (tLst ta) (gDa K p (.list ds)) σ := fun H Q s q =>
  h H _ s fun H1 us s1 g1 => by
    have hl : us.length = ds.length := by rw [← Paired.length g1, List.length_map]
    refine ⟨?_, fun r nr => ?_⟩
    · have y := sizeLine_eq
      omega
    · have s2 := same_put (o := .lst us) nr
      have ne := ne_new hp (s.trans s1) nr
      refine q _ _ (s1.trans s2) (.lst (.inl (.inl ?_)) ((allDa g1).mono (but_same s2)))
      rw [but_ne ne, upd_same]
theorem g_tupD (hp : H0 p = some op) (h : GivesL H0 ta (ds.map (gDa K p)) σ) (hz : ds.length ≤ 1000 := by simp) : Gives H0 (tTup ta) (gDa K p (.tuple ds)) σ := fun H Q s q =>
  h H _ s fun H1 us s1 g1 => by
    have hl : us.length = ds.length := by rw [← Paired.length g1, List.length_map]
    refine ⟨?_, fun r nr => ?_⟩
    · have y := sizeLine_eq
      omega
    · have s2 := same_put (o := .tup us) nr
      have ne := ne_new hp (s.trans s1) nr
      refine q _ _ (s1.trans s2) (.tup (.inl (.inl ?_)) ((allDa g1).mono (but_same s2)))
      rw [but_ne ne, upd_same]
theorem g_dnew (hp : H0 p = some op) : Gives H0 tDNewK (gDa K p (.dict [])) σ := fun H Q s q r nr => by
  refine q _ _ (same_put nr) (.dic ?_ .nil)
  rw [but_ne (ne_new hp s nr), upd_same]
theorem g_disp {x : Str} (hp : H0 p = some op) : Gives H0 (tDisp [(tC (.str x), tTup (tCons (tC .non) tNil))]) (gDa K p (.dict [(.str x, .tuple [.none])])) σ := fun H Q s q r nr => by
  refine ⟨(by show 1 ≤ sizeLine; decide), fun t nt => ?_⟩
  have ne : t ≠ r := fun z => by
    rw [z, upd_same] at nt
    cases nt
  have n1 := ne_new hp s nr
  have n2 := ne_new hp (s.trans (same_put nr)) nt
  refine ⟨by rw [upd_ne ne.symm, upd_same], [(.inr x, .ref t)], rfl, (by show 1 ≤ 15; decide), q _ _ ?_ (.dic (kvs := [(.inr x, .ref t)]) ?_ (.cons (.tup (xs := [.non]) (.inl (.inl ?_)) (.cons .non .nil)) .nil))⟩
  · intro b o e
    have nb : b ≠ r := ne_of_none e nr
    have nbt : b ≠ t := fun z => by
      rw [z] at e
      rw [upd_ne ne, e] at nt
      cases nt
    rw [upd_ne nb, upd_ne nbt, upd_ne nb]
    exact e
  · rw [but_ne n1]
    exact upd_same
  · rw [but_ne n2, upd_ne ne, upd_same]
theorem allEq {H : Hp} : ∀ {ys : List V}, AllG (ys.map gEq) H ys
  | [] => .nil
  | _ :: _ => .cons rfl allEq
/-- [elt for .. in xs], the elements plain values -/
theorem g_lcP {a : Addr} {xs ys : List V} {i : Nat} {g : TG} {vs : List Nat} (hi : σ[i]? = some (some (.ref a))) (hx : SqL K H0 a xs) (hz : xs.length ≤ 1000) (hl : ys.length = xs.length)
    (he : ∀ (j : Nat) (x y : V), xs[j]? = some x → ys[j]? = some y → ∀ (H : Hp) (R : VK), Same H0 H → R y H →
      g x (wipe σ vs) H fun σ2 H2 => wipe σ2 vs = wipe σ vs ∧ te σ2 H2 R) :
    Gives H0 (tLc (iList K (tVar i)) g tYes te vs) (gLst (ys.map gEq)) σ := fun H Q s q => by
  refine ⟨_, hi, a, rfl, ⟨xs, s.seq hx⟩, fun D nD => ?_⟩
  have sD : Same H (upd H D (.lst [])) := same_put nD
  have y := sizeLine_eq
  refine lc_list (K := K) (a := a) (xs := xs) (fun k H' => Same H H' ∧ H' D = some (.lst (ys.take k))) ⟨sD, upd_same⟩ (fun k H' _ ⟨s', _⟩ => s'.seq (s.seq hx)) ?_ ?_
  · rintro k x H' hk ⟨s', eD⟩
    have hk' : k < ys.length := by
      obtain ⟨h, _⟩ := List.getElem?_eq_some_iff.mp hk
      omega
    have hy := List.getElem?_eq_getElem hk'
    refine cast ?_ (he k x ys[k] hk hy H' (fun y H4 => ∃ acc, H4 D = some (.lst acc) ∧ acc.length < sizeLine ∧ Same H (upd H4 D (.lst (acc ++ [y]))) ∧ upd H4 D (.lst (acc ++ [y])) D = some (.lst (ys.take (k + 1)))) (s.trans s') ⟨_, eD, ?_, ?_, ?_⟩)
    · rfl
    · rw [List.length_take]
      omega
    · intro b o e
      rw [upd_ne (ne_of_none e nD)]
      exact s' _ _ e
    · rw [upd_same, List.take_add_one, hy]
      rfl
  · rintro H' ⟨s', eD⟩
    rw [← hl, List.take_length] at eD
    exact q H' _ s' ⟨D, ys, rfl, eD, allEq⟩
/-- [elt for i in range(m)], the elements plain values -/
theorem g_lcR {ys : List V} {m : Int} {g : TG} {vs : List Nat} (hm : -(2 ^ 62) ≤ m ∧ m < 2 ^ 62) (hl : ys.length = m.toNat) (hz : ys.length ≤ 1000)
    (he : ∀ (j : Nat) (y : V), ys[j]? = some y → ∀ (H : Hp) (R : VK), Same H0 H → R y H →
      g (.int (0 + j)) (wipe σ vs) H fun σ2 H2 => wipe σ2 vs = wipe σ vs ∧ te σ2 H2 R) :
    Gives H0 (tLc (iRng1 (tCons (tC (.int m)) tNil)) g tYes te vs) (gLst (ys.map gEq)) σ := fun H Q s q => by
  refine ⟨m, rfl, hm.1, hm.2, fun D nD => ?_⟩
  have sD : Same H (upd H D (.lst [])) := same_put nD
  have y := sizeLine_eq
  refine lc_range (lo := 0) (n := m.toNat) (fun k H' => Same H H' ∧ H' D = some (.lst (ys.take k))) ⟨sD, upd_same⟩ ?_ ?_
  · rintro k H' hk ⟨s', eD⟩
    have hk' : k < ys.length := by omega
    have hy := List.getElem?_eq_getElem hk'
    refine cast ?_ (he k ys[k] hy H' (fun y H4 => ∃ acc, H4 D = some (.lst acc) ∧ acc.length < sizeLine ∧ Same H (upd H4 D (.lst (acc ++ [y]))) ∧ upd H4 D (.lst (acc ++ [y])) D = some (.lst (ys.take (k + 1)))) (s.trans s') ⟨_, eD, ?_, ?_, ?_⟩)
    · rfl
    · rw [List.length_take]
      omega
    · intro b o e
      rw [upd_ne (ne_of_none e nD)]
      exact s' _ _ e
    · rw [upd_same, List.take_add_one, hy]
      rfl
  · rintro H' ⟨s', eD⟩
    rw [← hl, List.take_length] at eD
    exact q H' _ s' ⟨D, ys, rfl, eD, allEq⟩
/-! ### tests whose answer is known -/
def GivesT (H0 : Hp) (tt : TT) (b : Bool) (σ : L2.St) : Prop := ∀ (H : Hp) (Q : Bool → Hp → Prop), Same H0 H → (∀ H', Same H H' → Q b H') → tt σ H Q
theorem s_skip {tt : TT} {t rest : TS} {D : Ends} (h : GivesT H0 tt false σ) (k : ∀ H', Same H0 H' → rest D σ H') : tSeq (tIfS tt t tNext) rest D σ H0 :=
  h H0 _ Same.rfl' fun H' s => iteF (k H' s)
theorem s_skip1 {tt : TT} {t : TS} {D : Ends} (h : GivesT H0 tt false σ) (k : ∀ H', Same H0 H' → D.nx σ H') : tIfS tt t tNext D σ H0 :=
  h H0 _ Same.rfl' fun H' s => iteF (k H' s)
theorem g_repr (h : Gives H0 te G σ) (hd : ∀ H u, Same H0 H → G.p H u → ∃ a, u = .ref a ∧ Da K H u d) (h1 : d.showable = true) (h2 : d.depth ≤ 64) (h3 : d.shown.length ≤ sizeLine) :
    Gives H0 (tCB (rRepr K) (tCons te tNil)) (gEq (.str d.shown)) σ := fun H Q s q =>
  h H _ s fun H1 u s1 g1 => by
    obtain ⟨a, rfl, da⟩ := hd H1 u (s.trans s1) g1
    exact ⟨a, d, rfl, da, h1, h2, h3, q H1 _ s1 rfl⟩
theorem t_neS {te' : TE} {x : Str} (h : Gives H0 te (gEq (.str x)) σ) (h' : Gives H0 te' (gEq (.str x)) σ) : GivesT H0 (tTest (tOp rNe te te')) false σ := fun H Q s q =>
  h H _ s fun H1 u s1 e1 => h' H1 _ (s.trans s1) fun H2 u' s2 e2 => by
    have e1 : u = .str x := e1
    have e2 : u' = .str x := e2
    subst e1
    subst e2
    refine ⟨rfl, _, rfl, ?_⟩
    rw [decide_eq_true rfl]
    exact q H2 (s1.trans s2)
theorem dp_bools {H : Hp} : ∀ bs : List Bool, DpAll K H (bs.map V.bl) (bs.map PyData.bool)
  | [] => .nil
  | b :: bs => .cons (.bl b) (dp_bools bs)
theorem eqv_bools : ∀ bs : List Bool, PyData.eqvAll (bs.map PyData.bool) (bs.map PyData.bool) = true
  | [] => by simp [PyData.eqvAll]
  | b :: bs => by simp [PyData.eqvAll, PyData.eqv, eqv_bools bs]
theorem lay_bools : ∀ bs : List Bool, PyData.canLayAll0 (bs.map PyData.bool) = true
  | [] => by simp [PyData.canLayAll0]
  | b :: bs => by simp [PyData.canLayAll0, PyData.canLay0, lay_bools bs]
theorem depth_bools : ∀ bs : List Bool, PyData.depthAll (bs.map PyData.bool) = 0
  | [] => by simp [PyData.depthAll]
  | b :: bs => by simp [PyData.depthAll, PyData.depth, depth_bools bs]
theorem shaped_bools (bs : List Bool) : SeqAt.shaped (.list (bs.map PyData.bool)) = true := by
  show (PyData.canLay0 (.list (bs.map .bool)) && decide (PyData.depth (.list (bs.map .bool)) ≤ 64)) = true
  simp [PyData.canLay0, PyData.depth, lay_bools, depth_bools]
theorem all_bl {H : Hp} : ∀ {bs : List Bool} {us : List V}, AllG (bs.map fun b => gEq (.bl b)) H us → us = bs.map V.bl
  | [], _, .nil => rfl
  | _ :: _, _, .cons h t => by
    have h : _ = V.bl _ := h
    rw [h, all_bl t]
    rfl
theorem t_neB {te' : TE} {bs : List Bool} (h : Gives H0 te (gLst (bs.map fun b => gEq (.bl b))) σ) (h' : Gives H0 te' (gLst (bs.map fun b => gEq (.bl b))) σ) :
    GivesT H0 (tTest (tOp (rNeD K) te te')) false σ := fun H Q s q =>
  h H _ s fun H1 u s1 ⟨p1, us1, e1, l1, g1⟩ => h' H1 _ (s.trans s1) fun H2 u' s2 ⟨p2, us2, e2, l2, g2⟩ => by
    subst e1
    subst e2
    rw [all_bl g1] at l1
    rw [all_bl g2] at l2
    refine ⟨_, _, .lst (.inl (.inl (s2 _ _ l1))) (dp_bools bs), .lst (.inl (.inl l2)) (dp_bools bs), shaped_bools bs, shaped_bools bs, _, rfl, ?_⟩
    have z : PyData.eqv (.list (bs.map .bool)) (.list (bs.map .bool)) = true := by
      simp only [PyData.eqv]
      exact eqv_bools bs
    rw [z]
    exact q H2 (s1.trans s2)
theorem t_not {tt : TT} {b : Bool} (h : GivesT H0 tt b σ) : GivesT H0 (tNot tt) (!b) σ := fun H Q s q => h H _ s q
theorem t_orF {tt uu : TT} (h : GivesT H0 tt false σ) (k : GivesT H0 uu false σ) : GivesT H0 (tOr tt uu) false σ := fun H Q s q =>
  h H _ s fun H1 s1 => iteF (k H1 Q (s.trans s1) fun H2 s2 => q H2 (s1.trans s2))
end
section
variable {K : PySem.W.Frag} {p : Addr} {H0 : Hp} {σ : L2.St}
theorem g_nonD : Gives H0 (tC .non) (gDa K p .none) σ := g_c fun _ => Da.non
theorem g_blD {b : Bool} : Gives H0 (tC (.bl b)) (gDa K p (.bool b)) σ := g_c fun _ => Da.bl b
theorem g_intD {i : Int} : Gives H0 (tC (.int i)) (gDa K p (.int i)) σ := g_c fun _ => Da.int i
theorem g_strD {x : Str} : Gives H0 (tC (.str x)) (gDa K p (.str x)) σ := g_c fun _ => Da.str x
end
theorem sum_le_all (m : Nat) : ∀ l : List Nat, (∀ n ∈ l, n ≤ m) → l.sum ≤ m * l.length
  | [], _ => by simp
  | n :: l, h => by
    have h1 := h n (List.mem_cons_self ..)
    have h2 := sum_le_all m l fun k hk => h k (List.mem_cons_of_mem _ hk)
    rw [List.sum_cons, List.length_cons, Nat.mul_succ]
    omega
theorem mem_all {H : Hp} : ∀ {Gs : List GP} {us : List V}, AllG Gs H us → ∀ v ∈ us, ∃ G ∈ Gs, G.p H v
  | _, _, .nil, _, h => nomatch h
  | G :: _, _, .cons h t, v, hv => by
    rcases List.mem_cons.mp hv with rfl | hv
    · exact ⟨G, List.mem_cons_self .., h⟩
    · obtain ⟨G', h1, h2⟩ := mem_all t v hv
      exact ⟨G', List.mem_cons_of_mem _ h1, h2⟩
theorem all_eq {H : Hp} : ∀ {ys us : List V}, AllG (ys.map gEq) H us → us = ys
  | [], _, .nil => rfl
  | _ :: _, _, .cons h t => by
    have h : _ = _ := h
    rw [h, all_eq t]
end Ev

/-! ## General steps -/
namespace Ev
open PySem PySem.Spec PyProof.Rows L2
section
variable {K : PySem.W.Frag} {B H0 : Hp} {σ : L2.St} {te tf : TE} {ta : TA} {i : Nat} {x v : V} {d : PyData} {ds : List PyData} {b c : Bool} {T : String} {tt uu : TT} {t rest : TS} {D : Ends} {a : Addr} {xs : List V} {k : Int} {G : GP}
theorem t_or (h : GivesT H0 tt b σ) (k : b = false → GivesT H0 uu c σ) : GivesT H0 (tOr tt uu) (b || c) σ := fun H Q s q =>
  h H _ s fun H1 s1 => by
    cases b with
    | true => exact iteT (q H1 s1)
    | false => exact iteF (k rfl H1 Q (s.trans s1) fun H2 s2 => q H2 (s1.trans s2))
theorem s_ifB (h : GivesT H0 tt b σ) (k1 : b = true → ∀ H', Same H0 H' → t { D with nx := rest D } σ H') (k2 : b = false → ∀ H', Same H0 H' → rest D σ H') : tSeq (tIfS tt t tNext) rest D σ H0 :=
  h H0 _ Same.rfl' fun H' s => by
    cases b with
    | true => exact iteT (k1 rfl H' s)
    | false => exact iteF (k2 rfl H' s)
theorem t_andB (h : GivesT H0 tt b σ) (k : b = true → GivesT H0 uu c σ) : GivesT H0 (tAnd tt uu) (b && c) σ := fun H Q s q =>
  h H _ s fun H1 s1 => by
    cases b with
    | true => exact iteT (k rfl H1 Q (s.trans s1) fun H2 s2 => q H2 (s1.trans s2))
    | false => exact iteF (q H1 s1)
theorem s_ifB1 (h : GivesT H0 tt b σ) (k1 : b = true → ∀ H', Same H0 H' → t D σ H') (k2 : b = false → ∀ H', Same H0 H' → D.nx σ H') : tIfS tt t tNext D σ H0 :=
  h H0 _ Same.rfl' fun H' s => by
    cases b with
    | true => exact iteT (k1 rfl H' s)
    | false => exact iteF (k2 rfl H' s)
theorem s_set1 (h : Gives H0 te G σ) (k : ∀ H' u, Same H0 H' → G.p H' u → D.nx (σ.set i (some u)) H') : tAsg te (gName i) D σ H0 :=
  h H0 _ Same.rfl' fun H' u s g => k H' u s g
theorem t_eqI2 {r k : Int} (h : Gives H0 te (gEq (.int r)) σ) : GivesT H0 (tTest (tOp rEq te (tC (.int k)))) (decide (r = k)) σ := fun H Q s q =>
  h H _ s fun H1 u s1 e => by
    have e : u = .int r := e
    subst e
    refine ⟨rfl, _, rfl, ?_⟩
    have z : decide (V.int r = V.int k) = decide (r = k) := decide_eq_decide.mpr ⟨fun h => V.int.inj h, fun h => by rw [h]⟩
    rw [z]
    exact q H1 s1
theorem t_eqI {r k : Int} (h : σ[i]? = some (some (.int r))) : GivesT H0 (tTest (tOp rEq (tVar i) (tC (.int k)))) (decide (r = k)) σ := fun H Q s q => by
  refine ⟨_, h, rfl, _, rfl, ?_⟩
  have z : decide (V.int r = V.int k) = decide (r = k) := decide_eq_decide.mpr ⟨fun h => V.int.inj h, fun h => by rw [h]⟩
  rw [z]
  exact q H Same.rfl'
theorem t_neI {r k : Int} (h : Gives H0 te (gEq (.int r)) σ) : GivesT H0 (tTest (tOp rNe te (tC (.int k)))) (!decide (r = k)) σ := fun H Q s q =>
  h H _ s fun H1 u s1 e => by
    have e : u = .int r := e
    subst e
    refine ⟨rfl, _, rfl, ?_⟩
    have z : decide (V.int r = V.int k) = decide (r = k) := decide_eq_decide.mpr ⟨fun h => V.int.inj h, fun h => by rw [h]⟩
    rw [z]
    exact q H1 s1
theorem g_and (h : Gives H0 te (gEq (.bl b)) σ) (k : b = true → Gives H0 tf (gEq (.bl c)) σ) : Gives H0 (tAndV te tf) (gEq (.bl (b && c))) σ := fun H Q s q =>
  h H _ s fun H1 u s1 e => by
    refine ⟨b, e, ?_⟩
    cases b with
    | true => exact iteT (k rfl H1 Q (s.trans s1) fun H2 u2 s2 e2 => q H2 u2 (s1.trans s2) e2)
    | false => exact iteF (q H1 _ s1 rfl)
theorem t_valB (h : Gives H0 te (gEq (.bl b)) σ) : GivesT H0 (tB te) b σ := fun H Q s q => h H _ s fun H1 u s1 e => ⟨b, e, q H1 s1⟩
end
abbrev rGtI : R2 := rI0 fun i j => .bl (decide (j < i))
abbrev rLeI : R2 := rI0 fun i j => .bl (decide (i ≤ j))
abbrev rLtI : R2 := rI0 fun i j => .bl (decide (i < j))
theorem g_all {K : PySem.W.Frag} {H0 : Hp} {σ : L2.St} {te : TE} {bs : List Bool} (h : Gives H0 te (gLst (bs.map fun b => gEq (.bl b))) σ) : Gives H0 (tCB (rAll K) (tCons te tNil)) (gEq (.bl (bs.all id))) σ := fun H Q s q =>
  h H _ s fun H1 u s1 g1 => by
    obtain ⟨p, us, rfl, hp, ha⟩ := g1
    have eu := all_bl ha
    subst eu
    exact ⟨p, bs, rfl, .inl (.inl hp), q H1 _ s1 rfl⟩
def rReprA (K : PySem.W.Frag) : List V → Hp → VK → Prop := fun xs H Q =>
  ∃ (x : V) (d : PyData), xs = [x] ∧ Da K H x d ∧ d.showable = true ∧ d.depth ≤ 64 ∧ d.shown.length ≤ sizeLine ∧ Q (.str d.shown) H
theorem call_reprA {X : Cx} (hm : ∃ mm, X.base.Ns sysModules mm) (gd : X.A.guards = some []) (hu : X.A.units + 70 < cLine) :
    CallR X (.builtin "repr") (rReprA X.K) := by
  intro pins s σ H xs us Q I r h
  obtain ⟨x, d, rfl, hs, sh, dp, sz, q⟩ := h
  have big : ∀ a, x = .ref a → wpAny (model X.prog X.w) X.A (call (.builtin "repr") us) (EP X pins σ Q) X.xe s := by
    rintro a rfl
    exact call_repr hm gd hu pins s σ H _ us Q I r ⟨a, d, rfl, hs, sh, dp, sz, q⟩
  cases hs with
  | non =>
    cases r with
    | cons r1 r2 =>
      cases r2
      cases r1
      rw [PyData.shown] at q
      exact PySem.P.repr_of_none ⟨.str _, H, I.tok _, ⟨_, rfl⟩, q⟩
  | bl b =>
    cases r with
    | cons r1 r2 =>
      cases r2
      cases r1
      rw [PyData.shown] at q
      exact PySem.P.repr_of_bool ⟨.str _, H, I.tok _, ⟨_, rfl⟩, q⟩
  | int i =>
    cases r with
    | cons r1 r2 =>
      cases r2
      obtain ⟨t, rfl⟩ := r1
      rw [PyData.shown] at q
      exact PySem.P.repr_of_int (by rw [PyData.showable] at sh; exact of_decide_eq_true sh) ⟨.str _, H, I.tok _, ⟨_, rfl⟩, q⟩
  | str z =>
    cases r with
    | cons r1 r2 =>
      cases r2
      obtain ⟨t, rfl⟩ := r1
      rw [PyData.shown] at q sz
      exact PySem.P.repr_of_str ⟨.str _, H, I.tok _, ⟨_, rfl⟩, q⟩ sz
  | lst h1 h2 => exact big _ rfl
  | tup h1 h2 => exact big _ rfl
  | dic h1 h2 => exact big _ rfl
theorem s_par {H0 : Hp} {σ : L2.St} {ta : TA} {G1 G2 : GP} {i j : Nat} {D : Ends} {rest : TS} (h : GivesL H0 ta [G1, G2] σ) (k : ∀ H' u1 u2, Same H0 H' → G1.p H' u1 → G2.p H' u2 → rest D ((σ.set i (some u1)).set j (some u2)) H') : tSeq (tPar i j ta) rest D σ H0 :=
  h H0 _ Same.rfl' fun H' us s g => by
    cases g with
    | @cons _ u1 _ _ g1 g =>
    cases g with
    | @cons _ u2 _ _ g2 g =>
    cases g
    exact ⟨u1, u2, rfl, k H' u1 u2 s g1 g2⟩
section
variable {K : PySem.W.Frag} {B H0 : Hp} {σ : L2.St} {te tf : TE} {ta : TA} {i : Nat} {x v : V} {d : PyData} {ds : List PyData} {b c : Bool} {T : String} {tt uu : TT} {t rest : TS} {D : Ends} {a : Addr} {xs : List V} {k : Int} {G : GP}
theorem g_reprA (h : σ[i]? = some (some x)) (hd : Da K H0 x d) (h1 : d.showable = true) (h2 : d.depth ≤ 64) (h3 : d.shown.length ≤ sizeLine) : Gives H0 (tCB (rReprA K) (tCons (tVar i) tNil)) (gEq (.str d.shown)) σ := fun H Q s q =>
  ⟨_, h, x, d, rfl, hd.mono s, h1, h2, h3, q H _ Same.rfl' rfl⟩
theorem g_eqS {y z : Str} (h : Gives H0 te (gEq (.str y)) σ) (h' : Gives H0 tf (gEq (.str z)) σ) : Gives H0 (tOp rEq te tf) (gEq (.bl (decide (y = z)))) σ := fun H Q s q =>
  h H _ s fun H1 u s1 e1 => h' H1 _ (s.trans s1) fun H2 u' s2 e2 => by
    have e1 : u = .str y := e1
    have e2 : u' = .str z := e2
    subst e1
    subst e2
    refine ⟨rfl, q H2 _ (s1.trans s2) ?_⟩
    show _ = _
    congr 1
    exact decide_eq_decide.mpr ⟨fun h => V.str.inj h, fun h => by rw [h]⟩
end
theorem Gives.imp {H0 : Hp} {te : TE} {G G' : GP} {σ : L2.St} (h : Gives H0 te G σ) (i : ∀ H u, Same H0 H → G.p H u → G'.p H u) : Gives H0 te G' σ := fun H Q s q =>
  h H _ s fun H1 u s1 g => q H1 u s1 (i H1 u (s.trans s1) g)
theorem keepA {a p : Addr} {H1 H H' : Hp} (np : H1 p = none) (h : ∀ o, H1 a = some o → H a = some o) (b : Bu p H H') : ∀ o, H1 a = some o → H' a = some o := fun o e => b _ _ (ne_of_none e np) (h o e)
theorem sq_of {K : PySem.W.Frag} {a : Addr} {H H' : Hp} {zs : List V} (s : SqL K H a zs) (h : ∀ o, H a = some o → H' a = some o) : SqL K H' a zs := by
  rcases s with (e | ⟨o, e⟩) | e
  · exact .inl (.inl (h _ e))
  · exact .inl (.inr ⟨o, h _ e⟩)
  · exact .inr e
theorem mm_at (z : Int) (h : z ≤ 3) : -(2 ^ 62) ≤ (if z > 1 then z else 1) ∧ (if z > 1 then z else 1) < 2 ^ 62 ∧ (if z > 1 then z else 1).toNat ≤ 3 := by
  split <;> omega
theorem mm_le (n : Int) : (if n < 3 then n else 3) ≤ 3 := by
  split <;> omega
section
variable {K : PySem.W.Frag} {B H0 : Hp} {σ : L2.St} {te tf : TE} {ta : TA} {i : Nat} {x v : V} {d : PyData} {ds : List PyData} {b c : Bool} {T : String} {tt uu : TT} {t rest : TS} {D : Ends} {a : Addr} {xs : List V} {k : Int} {G : GP}
theorem g_lcQ {a : Addr} {xs ys : List V} {i : Nat} {g : TG} {vs : List Nat} (hi : σ[i]? = some (some (.ref a))) (hx : SqL K H0 a xs) (hz : xs.length ≤ 1000) (hl : ys.length = xs.length)
    (he : ∀ (j : Nat) (x y : V), xs[j]? = some x → ys[j]? = some y → ∀ (H : Hp) (R : VK), Same H0 H → (∀ H', Same H H' → R y H') →
      g x (wipe σ vs) H fun σ2 H2 => wipe σ2 vs = wipe σ vs ∧ te σ2 H2 R) :
    Gives H0 (tLc (iList K (tVar i)) g tYes te vs) (gLst (ys.map gEq)) σ := fun H Q s q => by
  refine ⟨_, hi, a, rfl, ⟨xs, s.seq hx⟩, fun D nD => ?_⟩
  have sD : Same H (upd H D (.lst [])) := same_put nD
  have y := sizeLine_eq
  refine lc_list (K := K) (a := a) (xs := xs) (fun k H' => Same H H' ∧ H' D = some (.lst (ys.take k))) ⟨sD, upd_same⟩ (fun k H' _ ⟨s', _⟩ => s'.seq (s.seq hx)) ?_ ?_
  · rintro k x H' hk ⟨s', eD⟩
    have hk' : k < ys.length := by
      obtain ⟨h, _⟩ := List.getElem?_eq_some_iff.mp hk
      omega
    have hy := List.getElem?_eq_getElem hk'
    refine cast ?_ (he k x ys[k] hk hy H' (fun y H4 => ∃ acc, H4 D = some (.lst acc) ∧ acc.length < sizeLine ∧ Same H (upd H4 D (.lst (acc ++ [y]))) ∧ upd H4 D (.lst (acc ++ [y])) D = some (.lst (ys.take (k + 1)))) (s.trans s') fun H4 s4 => ⟨_, s4 _ _ eD, ?_, ?_, ?_⟩)
    · rfl
    · rw [List.length_take]
      omega
    · intro b o e
      rw [upd_ne (ne_of_none e nD)]
      exact s4 _ _ (s' _ _ e)
    · rw [upd_same, List.take_add_one, hy]
      rfl
  · rintro H' ⟨s', eD⟩
    rw [← hl, List.take_length] at eD
    exact q H' _ s' ⟨D, ys, rfl, eD, allEq⟩
end
/-! ### f(k = v, ..), keywords alone -/
section
variable {X : Cx} {CX : CXT} {k : Nat} {f : Addr} {fd : FuncData} {ps ks : List Str} {sp : Sp} {E : XK} {x : Str} {p pos : Pos} {kws : List Keyword} {tk : TA} {pm : {α : Type} → List α → List α}
def tCallKs (pm : {α : Type} → List α → List α) (sp : Sp) (E : XK) (tk : TA) : TE := fun σ H Q => tk σ H fun zs H2 => sp (pm zs) H2 Q E
theorem pe_callKs (pm : {α : Type} → List α → List α) (F : FnOk X.prog X.w X.K X.mg X.base CX k f fd ps sp) (hr : Room k X.A) (hg : Gl X x) (hm : X.mg x = some (.ref f)) (hk : PySem.W.keepIn X.K (.ref f) = true)
    (hb : ∀ (s : Shared) (us : List Value), us.length = ks.length → BindsTo s fd ⟨[], ks.zip us⟩ (ps.zip (pm us))) (hpm : ∀ (zs : List V) (us : List Value), zs.length = ks.length → Vals zs us → Vals (pm zs) (pm us)) (hx : Passes CX X E)
    (hkw : PK X kws tk) (hl : ∀ zs H Q E, sp (pm zs) H Q E → zs.length = ks.length) (hall : (backToKw pos (keywordEach kws X.env)).all (·.1.isSome) = true := by rfl) (hks : (backToKw pos (keywordEach kws X.env)).filterMap (·.1) = ks := by rfl)
    (hdb : (x == ("__debug__" : Str)) = false := by decide) (hpl : ((backTo pos (starEach [] X.env)).any (·.1) || (backToKw pos (keywordEach kws X.env)).any (·.1.isNone)) = false := by rfl) :
    PE X (.Call (.Name x p) [] kws pos) (tCallKs pm sp E tk) := by
  refine ⟨fun pins s σ H Q I h => ?_⟩
  refine wpAny_Call_Name_kw (ld_glob I hg hm ?_ hdb)
  refine PySem.W.callWith_KW0 (h₀ := X.base) I.ok.mod.kin hk hall ?_ hpl
  refine thn (hkw.run pos pins s σ H _ I h) fun ws s2 ⟨zs, H2, I2, rz, q2⟩ => ⟨I2.kIn, ?_⟩
  rw [hks]
  have hz := hl _ _ _ _ q2
  refine wpAny_call (codeAny_mono (F.run X.A X.stack s2 H2 ⟨[], ks.zip ws⟩ (pm ws) (pm zs) Q E hr I2.env0 (hb s2 ws (rz.length.symm.trans hz)) (hpm zs ws hz rz) q2) fun r s' hq => ?_)
  cases r with
  | error e => exact hx pins σ H2 s2 e s' I2 hq
  | ok fl =>
    cases fl with
    | ret u => exact I2.after hq
    | next => exact False.elim hq
    | brk => exact False.elim hq
    | cont => exact False.elim hq
end
end Ev

/-! ## Sets of texts, whose members can be walked -/
namespace Ev
open PySem PySem.Spec PyProof.Rows L2
def keyS (e : Int × Value) : Str := match e.2 with
  | .str x _ => x
  | _ => ""
def goodS (w : World) (e : Int × Value) : Prop := ∃ x tk, e = (hashStr w x, Value.str x tk)
/-- what is left when k comes in -/
def addN (ks : List Str) (k : Str) : List Str := if k ∈ ks then ks else ks ++ [k]
theorem mem_addN {ks : List Str} {k x : Str} : x ∈ addN ks k ↔ x ∈ ks ∨ x = k := by
  unfold addN
  split
  · exact ⟨.inl, fun z => z.elim id fun e => by rw [e]; assumption⟩
  · rw [List.mem_append, List.mem_singleton]
theorem addN_nodup {ks : List Str} {k : Str} (h : ks.Nodup) : (addN ks k).Nodup := by
  unfold addN
  split
  · exact h
  · rename_i n
    rw [List.nodup_append]
    refine ⟨h, by simp, fun x hx y hy e => ?_⟩
    rw [List.mem_singleton.mp hy] at e
    rw [e] at hx
    exact n hx
theorem addN_len {ks : List Str} {k : Str} : (addN ks k).length ≤ ks.length + 1 := by
  unfold addN
  split
  · exact Nat.le_succ _
  · rw [List.length_append]
    exact Nat.le_refl _
/-- the set of the texts ks at a -/
def SetS (w : World) (h : Heap) (a : Addr) (ks : List Str) : Prop := ∃ (o : Obj) (es : Array (Int × Value)) (ep : Nat) (t : SetTable), h.get? a = some o ∧ o.ExactSet ∧ o.data = .set es ep t ∧ (∀ e ∈ es.toList, goodS w e) ∧
  (es.toList.map keyS).Perm ks ∧ ks.Nodup ∧ es.size < scanBound ∧ t.fits es.size = true ∧ Ris t.place.toList ∧ (w.params.followText "set-order" = true ∨ t.led = true)
section
variable {P : Program} {w : World} {A : Around} {E : Value → Shared → Prop} {s : Shared} {h h' : Heap} {a : Addr} {ks : List Str}
theorem SetS.at (R : SetS w h a ks) (k : ∀ o, h.get? a = some o → h'.get? a = some o) : SetS w h' a ks := by
  obtain ⟨o, es, ep, t, ho, r⟩ := R
  exact ⟨o, es, ep, t, k o ho, r⟩
theorem goodS_elems {l : List (Int × Value)} (g : ∀ e ∈ l, goodS w e) : ElemsOf (PySem.strKind P w) l := fun e he => by
  obtain ⟨x, tk, rfl⟩ := g e he
  refine ⟨⟨x, ?_, rfl⟩, rfl⟩
  show Value.isStrOf x (.str x tk) = true
  simp [Value.isStrOf]
theorem goodS_is {e : Int × Value} (g : goodS w e) (x : Str) : (PySem.strKind P w).is x e.2 = true ↔ keyS e = x := by
  obtain ⟨y, tk, rfl⟩ := g
  show Value.isStrOf x (.str y tk) = true ↔ y = x
  simp [Value.isStrOf]
theorem SetS.kind (R : SetS w h a ks) : h.SetOf (PySem.strKind P w) a (fun k => decide (k ∈ ks)) ks.length := by
  obtain ⟨o, es, ep, t, ho, hx, hd, g, pm, nd, hb, hf, _⟩ := R
  refine ⟨o, es, ep, t, ho, hx, hd, goodS_elems g, fun k => ?_, hb, hf, ?_⟩
  · rw [decide_eq_true_iff, ← pm.mem_iff, List.mem_map]
    constructor
    · rintro ⟨e, he, q⟩
      exact ⟨e, he, (goodS_is (g e he) k).2 q⟩
    · rintro ⟨e, he, q⟩
      exact ⟨e, he, (goodS_is (g e he) k).1 q⟩
  · have z := pm.length_eq
    rw [List.length_map, Array.length_toList] at z
    exact z
theorem setS_new (w : World) (h : Heap) : SetS w (h.push { cls := .type "set", dict := none, data := .set #[] 0 (.fresh 0 0 (!w.params.followText "set-order")) }) h.objs.size [] := by
  refine ⟨_, #[], 0, _, Heap.get?_push_size _ rfl, ⟨rfl, rfl, rfl⟩, rfl, fun e he => ?_, .nil, .nil, by decide, by rfl, .nil, ?_⟩
  · cases he
  · by_cases z : w.params.followText "set-order" = true
    · exact .inl z
    · refine .inr ?_
      show (!w.params.followText "set-order") = true
      rw [Bool.eq_false_iff.mpr z]
      rfl
/-- the entries es1 in the table t1 are written, and laid anew where the table is full -/
theorem lay_S {g : Bool → Sem Unit} (hg : ∀ (b : Bool) (s1 : Shared) (Q' : Unit → Shared → Prop), Q' () s1 → wpAny (model P w) A (g b) Q' E s1) {o : Obj} {es es1 : Array (Int × Value)} {ep : Nat} {t t1 : SetTable}
    (ho : s.heap.get? a = some o) (hx : o.ExactSet) (hd : o.data = .set es ep t) (g1 : ∀ e ∈ es1.toList, goodS w e) (pm : (es1.toList.map keyS).Perm ks) (nd : ks.Nodup) (hb : es1.size < scanBound) (hf : t1.fits es1.size = true)
    (hr : Ris t1.place.toList) (hl : w.params.followText "set-order" = true ∨ t1.led = true) {was : Bool} {R : Option Bool → Shared → Prop} (k : ∀ h', Heap.SameBut a s.heap h' → SetS w h' a ks → R (some true) { s with heap := h' }) :
    wpAny (model P w) A (do
        storeSet a es1 t1
        if (!was && t1.tooFull) = true then do
            g (relayAll t1 es1 (SetTable.grown es1.size)).2.2
            storeSet a (relayAll t1 es1 (SetTable.grown es1.size)).1 (relayAll t1 es1 (SetTable.grown es1.size)).2.1
            pure (some true)
          else pure (some true)) R E s := by
  have put : ∀ {hh : Heap} {oo : Obj} {e0 e1 : Array (Int × Value)} {n : Nat} {t0 t2 : SetTable}, hh.get? a = some oo → oo.data = .set e0 n t0 → (hh.update a (Obj.putSet e1 t2)).get? a = some { oo with data := .set e1 (n + 1) t2 } := by
    intro hh oo e0 e1 n t0 t2 x y
    have z := Heap.get?_update_self (Obj.putSet e1 t2) x (by rw [putSet_of e1 t2 y]; rfl)
    rw [putSet_of e1 t2 y] at z
    exact z
  have o1 := put (e1 := es1) (t2 := t1) ho hd
  have b1 := Heap.SameBut.update s.heap a (Obj.putSet es1 t1)
  refine wpAny_bind (wpAny_storeSet_of ho hd ?_ (fits_of_scanBound hb))
  by_cases full : (!was && t1.tooFull) = true
  · rw [if_pos full]
    have q1 := relayAll_perm t1 es1 (SetTable.grown es1.size)
    have q2 := relayAll_fits t1 es1 (SetTable.grown es1.size)
    have q3 := relayAll_ris t1 es1 (SetTable.grown es1.size)
    have q4 := relayAll_led t1 es1 (SetTable.grown es1.size)
    revert q1 q2 q3 q4
    generalize relayAll t1 es1 (SetTable.grown es1.size) = Z
    obtain ⟨e2, t2, gv⟩ := Z
    intro q1 q2 q3 q4
    have sz : e2.size = es1.size := by
      have z := q1.length_eq
      rwa [Array.length_toList, Array.length_toList] at z
    refine wpAny_bind (hg _ _ _ (wpAny_bind (wpAny_storeSet_of o1 rfl (wpAny_pure (k _ (b1.trans (Heap.SameBut.update _ a _)) ?_)) (fits_of_scanBound (by rw [sz]; exact hb)))))
    refine ⟨_, e2, _, t2, put o1 rfl, hx, rfl, fun e he => g1 e (q1.mem_iff.mp he), (q1.map keyS).trans pm, nd, by rw [sz]; exact hb, q2, q3, ?_⟩
    rcases hl with z | z
    · exact .inl z
    · exact .inr (q4.trans z)
  · rw [if_neg full]
    exact wpAny_pure (k _ b1 ⟨_, es1, _, t1, o1, hx, rfl, g1, pm, nd, hb, hf, hr, hl⟩)
theorem lay_in {k : Str} {tk : Tok} {Q : Bool → Shared → Prop} (R : SetS w s.heap a ks) (room : ks.length + 1 < scanBound)
    (q : ∀ h', Heap.SameBut a s.heap h' → SetS w h' a (addN ks k) → ∀ b, Q b { s with heap := h' }) : wpAny (model P w) A (setAddHashed a (.str k tk) ((PySem.strKind P w).hash k)) Q E s := by
  obtain ⟨o, es, ep, t, ho, hx, hd, g, pm, nd, hb, hf, hr, hl⟩ := R
  have hel : ElemsOf (PySem.strKind P w) es.toList := goodS_elems g
  have me : (PySem.strKind P w).is k (.str k tk) = true := by
    show Value.isStrOf k (.str k tk) = true
    simp [Value.isStrOf]
  have sc : (Value.str k tk).scannable = true := rfl
  have quiet : ∀ (b : Bool) (s1 : Shared) (Q' : Unit → Shared → Prop), Q' () s1 → wpAny (model P w) A (match b with | true => rule "set.scan.the-table-gave-way" | false => pure ()) Q' E s1 := fun b s1 Q' z => by
    cases b
    · exact wpAny_pure z
    · exact wpAny_rule z
  unfold setAddHashed setAddHashedIn
  refine wpAny_holding (wpAny_bind (wpAny_setState_of ho hd hf ?_))
  dsimp only
  rw [byScan_of sc hb hel]
  simp only [↓reduceIte]
  unfold setAddByScan
  refine wpAny_bind (wpAny_bind (wpAny_rule (wpAny_bind (wpAny_setScan_of me ho hd hf hel ?_))))
  cases hi : List.findIdx? (fun e => (PySem.strKind P w).is k e.2) es.toList with
  | some j =>
    dsimp only
    obtain ⟨hj, pj, _⟩ := List.findIdx?_eq_some_iff_getElem.mp hi
    have inn : k ∈ ks := by
      refine pm.mem_iff.mp (List.mem_map.mpr ⟨es.toList[j], List.getElem_mem hj, ?_⟩)
      exact (goodS_is (P := P) (g _ (List.getElem_mem hj)) k).1 pj
    have e : addN ks k = ks := if_pos inn
    rw [e] at q
    exact wpAny_pure (wpAny_pure (q s.heap (Heap.SameBut.refl a s.heap) ⟨o, es, ep, t, ho, hx, hd, g, pm, nd, hb, hf, hr, hl⟩ _))
  | none =>
    dsimp only
    have out : k ∉ ks := fun z => by
      obtain ⟨e, he, ek⟩ := List.mem_map.mp (pm.mem_iff.mpr z)
      have c := List.findIdx?_eq_none_iff.mp hi e he
      rw [(goodS_is (P := P) (g e he) k).2 ek] at c
      cases c
    have e : addN ks k = ks ++ [k] := if_neg out
    have nd1 : (ks ++ [k]).Nodup := by
      rw [← e]
      exact addN_nodup nd
    have q1 := layNew_perm t es ((PySem.strKind P w).hash k) (.str k tk)
    have q2 := layNew_fits t es ((PySem.strKind P w).hash k) (.str k tk)
    have q3 := layNew_ris t es ((PySem.strKind P w).hash k) (.str k tk) hr
    have q4 := layNew_led t es ((PySem.strKind P w).hash k) (.str k tk)
    revert q1 q2 q3 q4
    generalize layNew t es ((PySem.strKind P w).hash k) (.str k tk) = Z
    obtain ⟨es1, t1, was, gave⟩ := Z
    intro q1 q2 q3 q4
    dsimp only at q1 q2 q3 q4 ⊢
    rw [Array.toList_push] at q1
    have g1 : ∀ x ∈ es1.toList, goodS w x := fun x hx => by
      rcases List.mem_append.mp (q1.mem_iff.mp hx) with z | z
      · exact g x z
      · rw [List.mem_singleton.mp z]
        exact ⟨k, tk, rfl⟩
    have pm1 : (es1.toList.map keyS).Perm (ks ++ [k]) := by
      have z := q1.map keyS
      rw [List.map_append] at z
      exact z.trans (List.Perm.append_right _ pm)
    have sz : es1.size < scanBound := by
      have z := pm1.length_eq
      rw [List.length_map, Array.length_toList, List.length_append] at z
      rw [z]
      exact room
    have l1 : w.params.followText "set-order" = true ∨ t1.led = true := by
      rcases hl with z | z
      · exact .inl z
      · exact .inr (q4.trans z)
    rw [e] at q
    refine wpAny_bind (quiet _ _ _ ?_)
    split
    · refine wpAny_bind ?_
      rw [hashByValue_scannable 8 sc]
      refine wpAny_pure ?_
      refine lay_S ?_ ho hx hd g1 pm1 nd1 sz ?_ ?_ ?_ fun h' sb r => ?_
      · intro b s1 Q' z
        cases b <;> first | exact wpAny_pure z | exact wpAny_rule z
      · first | exact q2 | (split <;> first | exact q2 | exact SetTable.fits_plain_off q2)
      · first | exact q3 | (split <;> exact q3)
      · first | exact l1 | (split <;> exact l1)
      · exact wpAny_pure (q h' sb r _)
    · refine wpAny_bind (wpAny_pure ?_)
      simp only [↓reduceIte]
      refine lay_S ?_ ho hx hd g1 pm1 nd1 sz q2 q3 l1 fun h' sb r => ?_
      · intro b s1 Q' z
        cases b <;> first | exact wpAny_pure z | exact wpAny_rule z
      · exact wpAny_pure (q h' sb r _)
/-- a text comes into a set -/
theorem add_S {k : Str} {tk : Tok} {Q : Value → Shared → Prop} (R : SetS w s.heap a ks) (room : ks.length + 1 < scanBound)
    (q : ∀ h', Heap.SameBut a s.heap h' → SetS w h' a (addN ks k) → Q .none { s with heap := h', toks := s.toks + 1 }) : wpAny (model P w) A (call (.builtin "set.add") [.ref a, .str k tk]) Q E s := by
  have me : (PySem.strKind P w).is k (.str k tk) = true := by
    show Value.isStrOf k (.str k tk) = true
    simp [Value.isStrOf]
  refine wpAny_call_entry F.slot_set_add (R.kind (P := P)).typeIs F.entry_set_add ?_ (F.args_set_add_2 _ _)
  unfold Builtin.«set.add» Builtin.Frozenset.oneOther
  simp only [List.isEmpty_nil, bind_assoc]
  unfold Builtin.Frozenset.addrOf setAdd
  refine wpAny_bind (wpAny_pure ?_)
  try dsimp only
  refine wpAny_bind (wpAny_pure ?_)
  try dsimp only
  refine wpAny_bind (wpAny_holding (wpAny_bind ((PySem.strKind P w).pyHash me ?_)))
  refine lay_in (s := { s with toks := s.toks + 1 }) R room fun h' sb r b => ?_
  show wpAny _ _ (ret Value.none) _ _ _
  exact wpAny_pure ⟨_, rfl, q h' sb r⟩
end
end Ev

/-! ## {text for .. in ..}, sorted of a set of texts -/
namespace Ev
open PySem PySem.Spec PyProof.Rows L2
def SetSO (w : World) (a : Addr) (ks : List Str) : HO := .ext fun h => SetS w h a ks
theorem setSO_ok {w : World} {P : Program} {H : Hp} {h : Heap} {a : Addr} {ks : List Str} (R : SetS w h a ks) : ObjOk P w H h a (SetSO w a ks) := by
  refine ⟨R, ?_, fun h1 h2 p k => p.at k⟩
  obtain ⟨o, _, _, _, ho, _⟩ := R
  exact ⟨o, ho⟩
section
variable {X : Cx}
theorem setSO_at {pins : List (Addr × Obj)} {σ : L2.St} {H : Hp} {s : Shared} {a : Addr} {ks : List Str} (I : Inv X pins σ H s) (ha : H a = some (SetSO X.w a ks)) : SetS X.w s.heap a ks := (I.hok a _ ha).1
theorem addSO {pins : List (Addr × Obj)} {σ : L2.St} {H : Hp} {s : Shared} {E : Value → Shared → Prop} {a : Addr} {ks : List Str} {k : Str} {tk : Tok} {Q : Value → Shared → Prop} (I : Inv X pins σ H s) (ha : H a = some (SetSO X.w a ks)) (room : ks.length + 1 < scanBound)
    (q : ∀ s', Inv X pins σ (upd H a (SetSO X.w a (addN ks k))) s' → Q .none s') : wpAny (model X.prog X.w) X.A (call (.builtin "set.add") [.ref a, .str k tk]) Q E s := by
  refine add_S (setSO_at I ha) room fun h' sb R => q _ ?_
  have he : ∃ u, h'.get? a = some u := by
    obtain ⟨o, _, _, _, ho, _⟩ := R
    exact ⟨o, ho⟩
  exact I.write (e := a) (t' := s.toks + 1) (by rw [ha]; trivial) (.inl rfl) (fun b u hb hu => (sb.2 b hb).trans hu) he (setSO_ok R)
/-- a set comprehension whose elements are texts -/
def tScS (w : World) (wi : TI) (g : TG) (tt : TT) (te : TE) (vs : List Nat) : TE := fun σ H Q => wi σ H fun J H1 => ∀ D, H1 D = none → ∃ W : Nat → Nat → Hp → Prop, (∃ m, W 0 m (upd H1 D (SetSO w D []))) ∧ ∀ i m H, W i m H →
  (J.stop i H ∧ Q (.ref D) H) ∨ (J.go i H ∧ ∃ Nx : Hp → Prop, (∀ H', Nx H' → ∃ m', m' < m ∧ W (i + 1) m' H') ∧ ∀ x H', J.yld i H x H' → g x (wipe σ vs) H' fun σ2 H2 => wipe σ2 vs = wipe σ vs ∧ tt σ2 H2 fun b H3 =>
    if b = true then te σ2 H3 fun y H4 => ∃ (c : Str) (ks : List Str), y = .str c ∧ H4 D = some (SetSO w D ks) ∧ ks.length + 1 < scanBound ∧ Nx (upd H4 D (SetSO w D (addN ks c))) else Nx H3)
theorem pe_scS {elt tg iter : Expr} {ifs : List Expr} {scope : Scope} {own : List (Str × Nat)} {pos : Pos} {wi : TI} {g : TG} {tt : TT} {te : TE} (hc : X.calm = true) (hN : X.N.Nodup) (hi : PI X tg iter wi) (ok : BlkOk X.N X.env.scope scope own)
    (hg : ∀ (s : Shared) (H : Hp) (C : Addr) (cl : List (Str × Addr)) (fp : List Addr), PG (X.blk s H scope (compEnvC scope cl C X.env) fp) tg g) (ht : ∀ (s : Shared) (H : Hp) (C : Addr) (cl : List (Str × Addr)) (fp : List Addr), PTs (X.blk s H scope (compEnvC scope cl C X.env) fp) ifs tt)
    (he : ∀ (s : Shared) (H : Hp) (C : Addr) (cl : List (Str × Addr)) (fp : List Addr), PE (X.blk s H scope (compEnvC scope cl C X.env) fp) elt te) (hs : ∀ x, foldedSetIterable iter X.env x = pure x := by intro _; rfl) :
    PE X (.SetComp elt [⟨tg, iter, ifs, 0⟩] scope pos) (tScS X.w wi g tt te (own.map (·.2))) := by
  refine ⟨fun pins s σ H Q I h => ?_⟩
  rw [PpSet.eval_SetComp]
  have fr : ∀ y ∈ scope.names, y.2 = .free → ∃ c, X.env.cells.lookup y.1 = some c := fun y hy e => (ok.free y hy e).elim (fun k => I.ok.has _ (.inl k)) fun k => I.ok.has _ (.inr k)
  refine wpAny_comprehension_free (use := none) rfl hs (closure_ok fr) ok.kind (fun y hy e => by rw [ok.uniq y hy, e]) (thn (hi.run pins s σ H _ I h) fun xv s1 hx => thn hx fun itv s2 h2 => ?_)
  obtain ⟨it, fp, tn, J, H2, rfl, I2, T, st2, f2, q⟩ := h2
  refine PpSet.newSet_ok (newEnv_comp ?_)
  -- the set, new at D, and the block's own context
  obtain ⟨D, hD⟩ : ∃ D, s2.heap.objs.size = D := ⟨_, rfl⟩
  obtain ⟨s3, hs3⟩ : ∃ s3 : Shared, { s2 with heap := s2.heap.push { cls := .type "set", dict := none, data := .set #[] 0 (.fresh 0 0 (!X.w.params.followText "set-order")) } } = s3 := ⟨_, rfl⟩
  have h3 : s3.heap = s2.heap.push { cls := .type "set", dict := none, data := .set #[] 0 (.fresh 0 0 (!X.w.params.followText "set-order")) } := by rw [← hs3]
  have old3 : ∀ b o, s2.heap.get? b = some o → s3.heap.get? b = some o := fun b o e => by
    rw [h3]
    exact Heap.get?_push_of_some _ e
  obtain ⟨W, ⟨m0, w0⟩, turn⟩ := q D (I2.hok.fresh (Nat.le_of_eq hD))
  obtain ⟨H3, hH3⟩ : ∃ H3 : Hp, upd H2 D (SetSO X.w D []) = H3 := ⟨_, rfl⟩
  rw [hH3] at w0
  have I3 : Inv X pins σ H3 s3 := by
    rw [← hs3, ← hH3, ← hD]
    exact I2.laid (t' := s2.toks) (fun b o e => Heap.get?_push_of_some _ e) (Nat.le_refl _) (setSO_ok (setS_new X.w s2.heap))
  have f3 : ∀ b ∈ fp, FpOk X pins H3 b ∧ b < s3.heap.objs.size := fun b hb => by
    obtain ⟨o, eo, _⟩ := T.obj _ _ st2 b hb
    have lt2 := Heap.lt_size eo
    have ne : b ≠ D := by
      rw [← hD]
      exact Nat.ne_of_lt lt2
    refine ⟨⟨?_, (f2 b hb).2⟩, Heap.lt_size (old3 b o eo)⟩
    rw [← hH3, upd_ne ne]
    exact (f2 b hb).1
  have I4 := block_start I3 ok hN f3
  have pg := hg s3 H3 s3.heap.objs.size (cellsFrom (s3.heap.objs.size + 1) scope.names (cloFrom X.env.cells scope.names [])) fp
  have pt := ht s3 H3 s3.heap.objs.size (cellsFrom (s3.heap.objs.size + 1) scope.names (cloFrom X.env.cells scope.names [])) fp
  have pe := he s3 H3 s3.heap.objs.size (cellsFrom (s3.heap.objs.size + 1) scope.names (cloFrom X.env.cells scope.names [])) fp
  rw [hs3]
  show codeAny _ _ (.compStart (.SetComp elt [⟨tg, iter, ifs, 0⟩] scope pos) 0 (.ref it) (.ref s2.heap.objs.size) (compEnvC scope (cellsFrom (s3.heap.objs.size + 1) scope.names (cloFrom X.env.cells scope.names [])) s3.heap.objs.size X.env)) (compPost (model X.prog X.w) X.A X.xe none _ (.ref s2.heap.objs.size) s3.heap.objs.size) { s3 with heap := pushCells (s3.heap.push { cls := .type "dict", data := .dict #[] }) scope.names }
  rw [hD]
  obtain ⟨ce, hce⟩ : ∃ ce, compEnvC scope (cellsFrom (s3.heap.objs.size + 1) scope.names (cloFrom X.env.cells scope.names [])) s3.heap.objs.size X.env = ce := ⟨_, rfl⟩
  have cL : ce.locals = s3.heap.objs.size := by
    rw [← hce]
    rfl
  obtain ⟨s4, hs4⟩ : ∃ s4 : Shared, { s3 with heap := pushCells (s3.heap.push { cls := .type "dict", data := .dict #[] }) scope.names } = s4 := ⟨_, rfl⟩
  rw [hce] at I4 pg pt pe ⊢
  rw [hs4] at I4 ⊢
  have st4 : tn 0 s4.heap := T.keep _ _ _ st2 fun b _ o e => by
    rw [← hs4]
    exact pushCells_keeps _ _ _ _ (Heap.get?_push_of_some _ (old3 b o e))
  let Y := X.blk s3 H3 scope ce fp
  have out : ∀ {σ' : L2.St} {H' : Hp} {s' : Shared}, Inv Y [] σ' H' s' → (∀ b ∈ fp, H' b = none) → ∀ b ∈ fp, FpOk Y [] H' b := fun {σ' H' s'} I' hn b hb =>
    ⟨hn b hb, (I'.ok.exf b hb).1, I'.ok.exfs b hb, .inl hb, fun x c e => (I'.ok.exf b hb).2 x c e, fun p hp => absurd (show p ∈ ([] : List (Addr × Obj)) ++ [] from hp) (by simp)⟩
  -- what holds between two turns
  let Mid : Nat → Shared → Prop := fun n s' => ∃ i H', Inv Y [] (wipe σ (own.map (·.2))) H' s' ∧ tn i s'.heap ∧ (∀ b ∈ fp, H' b = none) ∧ W i n H'
  have loop : codeAny (model X.prog X.w) X.A (.compLoop (.SetComp elt [⟨tg, iter, ifs, 0⟩] scope pos) 0 (.ref it) (.ref D) ce) (compPost (model X.prog X.w) X.A X.xe none (EP X pins σ Q) (.ref D) s3.heap.objs.size) s4 := by
    refine PpSet.compLoopS_any Mid (fun n s5 ⟨i, H5, I5, st5, n5, w5⟩ => ?_) m0 ⟨0, H3, I4, st4, fun b hb => (f3 b hb).1.1, w0⟩
    rcases turn i n H5 w5 with ⟨stop, qq⟩ | ⟨go, Nx, hNx, step⟩
    · refine thnF (T.done Y rfl rfl rfl hc i [] s5 _ H5 (fun _ _ => False) I5 (out I5 n5) st5 stop) fun r s6 ⟨hr, I6⟩ => ?_
      subst hr
      have I7 : Inv X pins σ H5 s6 := I3.call' (ch := fp) I6.os I6.base I6.hok I6.bare fun b hb => ⟨(f3 b hb).1.2.2.2.1, (f3 b hb).1.2.1, (f3 b hb).1.2.2.2.2.1, (f3 b hb).1.2.2.2.2.2⟩
      have nC : H5 s3.heap.objs.size = none := by
        rw [← cL]
        exact I6.free
      obtain ⟨m, hn, _⟩ := I6.loc
      have hn : s6.heap.Ns ce.locals m := hn
      rw [cL] at hn
      obtain ⟨z0, z1, _, z3, z4, z5⟩ := I3.fpOk (Nat.le_refl _) nC
      exact ⟨m, hn, fun h'' sb => ⟨.ref D, H5, I7.turned (t' := s6.toks) (fun b o hb e => (sb.2 b hb).trans e) z0 z1 z3 z4 z5, rfl, qq⟩⟩
    · refine thnF (T.item Y rfl rfl rfl hc i [] s5 _ H5 (fun _ _ => False) I5 (out I5 n5) st5 go) fun r s6 ⟨u, hr, h6⟩ => ?_
      subst hr
      refine thnF h6 fun _ s7 ⟨x, H7, I7, r7, y7, st7, n7⟩ => ?_
      refine thnF (pg.run _ s7 _ H7 x u _ (I7.pinned (out I7 n7) (T.obj _ _ st7)) r7 (step x H7 y7)) fun _ s8 ⟨σ8, H8, I8, hw8, q8⟩ => ?_
      refine thnF (pt.run _ s8 σ8 H8 _ I8 q8) fun b s9 ⟨H9, I9, q9⟩ => ?_
      have next : ∀ {s' : Shared} {H' : Hp}, Inv Y ([] ++ pinsAt fp s7.heap) σ8 H' s' → Nx H' → ∃ m, m < n ∧ Mid m s' := fun {s' H'} I' nx => by
        obtain ⟨m', hm, w'⟩ := hNx H' nx
        have pin' : ∀ b ∈ fp, ∀ o, s7.heap.get? b = some o → s'.heap.get? b = some o ∧ H' b = none := fun b hb o e => by
          have z := I'.pin (b, o) (List.mem_append_right _ (List.mem_append_right _ (mem_pinsAt hb e)))
          exact ⟨z.1, z.2.1⟩
        have hl : (wipe σ (own.map (·.2))).length = σ8.length := by
          rw [← hw8, wipe_length]
        refine ⟨m', hm, i + 1, H', (I'.unpinned (pins := [])).weak hl (fun j v e => ?_), T.keep _ _ _ st7 fun b hb o e => (pin' b hb o e).1, fun b hb => ?_, w'⟩
        · rw [← hw8] at e
          exact (wipe_some e).1
        · obtain ⟨o, e, _⟩ := T.obj _ _ st7 b hb
          exact (pin' b hb o e).2
      dsimp only at q9
      by_cases hb : b = true
      · subst hb
        rw [if_pos rfl] at q9 ⊢
        refine thnF (pe.run _ s9 σ8 H9 _ I9 q9) fun z s10 ⟨yv, H10, I10, r10, c0, ks, ey, hD10, hz10, nx⟩ => ?_
        subst ey
        obtain ⟨tk, rfl⟩ := (show ∃ tk, z = Value.str c0 tk from r10)
        exact addSO (X := Y) I10 hD10 hz10 fun s11 I11 => next I11 nx
      · rw [if_neg hb] at q9 ⊢
        exact next I9 q9
  exact PpSet.codeAny_compStart_set loop (T.self X.A 0 _ _ _ st4 loop)
end
end Ev

/-! ## sorted(set of texts), set(list of texts) -/
namespace Ev
open PySem PySem.Spec PyProof.Rows L2
section
variable {P : Program} {w : World} {A : Around} {E : Value → Shared → Prop} {s : Shared} {a : Addr} {ks : List Str}
theorem strs_map {w : World} : ∀ {vs : List Value}, (∀ v ∈ vs, ∃ x tk, v = Value.str x tk) → StrsAre vs (vs.map fun v => keyS (0, v))
  | [], _ => .nil
  | v :: vs, h => by
    obtain ⟨x, tk, rfl⟩ := h v (List.mem_cons_self ..)
    exact .cons x tk (strs_map (w := w) fun u hu => h u (List.mem_cons_of_mem _ hu))
theorem sorted_S {Q : Value → Shared → Prop} (R : SetS w s.heap a ks) (hh : A.handled = none) (few : ks.length < 64)
    (q : ∀ s' p (out : Array Value) (c : Nat) (ys : List Str), (∀ b o, s.heap.get? b = some o → s'.heap.get? b = some o) → s'.gens = s.gens → s'.os = s.os → s.heap.objs.size ≤ p →
      s'.heap.get? p = some (seqObj "list" out c) → StrsAre out.toList ys → ys.Perm ks → sortedS ys = true → Q (.ref p) s') : wpAny (model P w) A (call (.builtin "sorted") [.ref a]) Q E s := by
  obtain ⟨o, es, ep, t, ho, hx, hd, g, pm, nd, hb, hf, hr, hl⟩ := R
  refine Calls.call_function_entry kind_sorted plain_sorted entry_sorted (args_sorted1 _) ?_
  unfold Builtin.«sorted»
  refine wpAny_bind (m := checkCount "sorted" 1 1 _) (wpAny_pure ?_)
  refine wpAny_bind (collect_set (A := A.in1) hh ⟨o, ho, hx.1, hd⟩ hf hb hr hl fun s1 vs k1 hz g1 o1 pv => ?_)
  have all : ∀ v ∈ vs, ∃ x tk, v = Value.str x tk := fun v hv => by
    obtain ⟨e, he, rfl⟩ := List.mem_map.mp (pv.mem_iff.mp hv)
    obtain ⟨x, tk, rfl⟩ := g e he
    exact ⟨x, tk, rfl⟩
  have hS := strs_map (w := w) all
  have pk : (vs.map fun v => keyS (0, v)).Perm ks := by
    refine (pv.map fun v => keyS (0, v)).trans ?_
    rw [List.map_map]
    exact pm
  have hvl : vs.length = ks.length := by
    have z := pk.length_eq
    rw [List.length_map] at z
    exact z
  refine wpAny_bind (wpAny_newList ?_ (by rw [hvl, sizeLine_eq]; omega))
  have hoL : (s1.heap.push (seqObj "list" vs.toArray 0)).get? s1.heap.objs.size = some (seqObj "list" vs.toArray 0) := Heap.get?_push_size _ rfl
  refine wpAny_bind (wpAny_holding (wpAny_call_entry slot_list_sort ⟨_, hoL, rfl⟩ entry_list_sort
    (list_sort_treeK strKind_oneLt hoL hS.keysOf (fun v₁ v₂ rest e => keyKind_strs (by rw [← e]; exact hS)) (by rw [hvl]; exact few) fun st' hp hs => ⟨_, rfl, ?_⟩) (args_list_sort _)))
  obtain ⟨ys, y1, y2, y3⟩ := sorted_out_str hS hp hs
  obtain ⟨c, hc⟩ := sortedHeap_at (vs := vs) (out := (arrOf st').map (·.2)) hoL
  refine wpAny_pure ⟨_, rfl, q _ s1.heap.objs.size _ c ys (fun b u e => ?_) g1 o1 hz hc y1 (y2.trans pk) y3⟩
  have z := k1 b u e
  have lt := Heap.lt_size z
  show (sortedHeap (s1.heap.push (seqObj "list" vs.toArray 0)) s1.heap.objs.size vs ((arrOf st').map (·.2))).get? b = some u
  rw [sortedHeap_old (Nat.ne_of_lt lt) (by rw [size_push']; exact Nat.lt_succ_of_lt lt)]
  exact Heap.get?_push_of_some _ z
/-- the members, in the order in which they came -/
def uniq : List Str → List Str → List Str
  | acc, [] => acc
  | acc, x :: xs => uniq (addN acc x) xs
theorem uniq_snoc : ∀ (xs acc : List Str) (x : Str), uniq acc (xs ++ [x]) = addN (uniq acc xs) x
  | [], _, _ => rfl
  | y :: xs, acc, x => uniq_snoc xs (addN acc y) x
theorem uniq_len : ∀ (xs acc : List Str), (uniq acc xs).length ≤ acc.length + xs.length
  | [], _ => Nat.le_refl _
  | x :: xs, acc => by
    have h := uniq_len xs (addN acc x)
    have h2 := addN_len (ks := acc) (k := x)
    show (uniq (addN acc x) xs).length ≤ acc.length + (xs.length + 1)
    omega
theorem uniq_mem : ∀ (xs acc : List Str) (z : Str), z ∈ uniq acc xs ↔ z ∈ acc ∨ z ∈ xs
  | [], acc, z => by
    rw [show uniq acc [] = acc from rfl]
    simp
  | x :: xs, acc, z => by
    show z ∈ uniq (addN acc x) xs ↔ _
    rw [uniq_mem xs, mem_addN, List.mem_cons, or_assoc]
theorem uniq_nodup : ∀ (xs acc : List Str), acc.Nodup → (uniq acc xs).Nodup
  | [], _, h => h
  | x :: xs, acc, h => uniq_nodup xs (addN acc x) (addN_nodup h)
/-- the loop of set.update, over texts -/
theorem update_S {I : Addr} {fp wr : List Addr} {G : Array GenState → Array GenState → Prop} {n : Nat} {Pv : Nat → Value → Prop} {St : Nat → Shared → Prop} {R : Result → Shared → Prop} (W : WalksS P w A.in1 I fp wr G n Pv St) (D : Addr) (hDf : D ∉ fp)
    (zs : List Str) (hn : n = zs.length) (hv : ∀ i v, Pv i v → ∃ x tk, zs[i]? = some x ∧ v = .str x tk) (few : zs.length + 1 < scanBound) :
    ∀ (k i : Nat) (s : Shared), n - i = k → i ≤ n → St i s → SetS w s.heap D (uniq [] (zs.take i)) → (∀ s', Moved (D :: wr) G s s' → SetS w s'.heap D (uniq [] zs) → R (.ok (.ret .none)) s') →
      codeAny (model P w) A (.builtin "set.update.loop" ⟨[.ref D, .ref I], []⟩) R s := by
  have hDw : D ∉ wr := fun z => hDf (W.sub _ z)
  have sub : ∀ b ∈ wr, b ∈ D :: wr := fun b hb => List.mem_cons_of_mem _ hb
  intro k
  induction k with
  | zero =>
    intro i s hk hi hst hS q
    have hin : i = zs.length := by omega
    rw [hin, List.take_length] at hS
    have hin' : i = n := by omega
    subst hin'
    refine codeAny_builtin F.entry_set_update_loop ?_
    rw [Around.under_plainId F.plain_set_update_loop _]
    show wpAny _ A.in1 (pyNext (.ref I) >>= _) _ _ s
    refine wpAny_bind (W.done s _ _ hst fun s' hm => ?_)
    show wpAny _ A.in1 (ret Value.none) _ _ s'
    exact wpAny_pure (q s' (hm.mono sub) (hS.at fun o e => hm.heap D o hDw e))
  | succ k ih =>
    intro i s hk hi hst hS q
    have hlt : i < n := by omega
    refine codeAny_builtin F.entry_set_update_loop ?_
    rw [Around.under_plainId F.plain_set_update_loop _]
    show wpAny _ A.in1 (pyNext (.ref I) >>= _) _ _ s
    refine wpAny_bind (W.item i s _ _ hlt hst fun v s' hP hst' hm => ?_)
    obtain ⟨x, tk, hx, rfl⟩ := hv i v hP
    have hS' : SetS w s'.heap D (uniq [] (zs.take i)) := hS.at fun o e => hm.heap D o hDw e
    show wpAny _ A.in1 (holding [Value.str x tk] (setAdd D (.str x tk)) >>= _) _ _ s'
    refine wpAny_bind (wpAny_holding ?_)
    unfold setAdd
    have me : (PySem.strKind P w).is x (.str x tk) = true := by
      show Value.isStrOf x (.str x tk) = true
      simp [Value.isStrOf]
    refine wpAny_holding (wpAny_bind ((PySem.strKind P w).pyHash me ?_))
    have room : (uniq [] (zs.take i)).length + 1 < scanBound := by
      have z := uniq_len (zs.take i) []
      rw [List.length_take] at z
      have z0 : ([] : List Str).length = 0 := rfl
      omega
    refine lay_in (s := { s' with toks := s'.toks + 1 }) hS' room fun h' sb R2 b => ?_
    rw [← uniq_snoc, show zs.take i ++ [x] = zs.take (i + 1) by rw [List.take_add_one, hx]; rfl] at R2
    refine wpAny_pure ⟨plainId_quiet F.plain_set_update_loop _, ih (i + 1) _ (by omega) hlt (W.frame _ s' _ _ hst' (Nat.le_add_right _ _) fun b hb o e => ?_) R2 fun s'' hm'' hS'' => ?_⟩
    · rw [sb.2 b (fun z : b = D => hDf (by rw [← z]; exact hb))]
      exact e
    · refine q s'' (Moved.trans W.gtrans ((hm.mono sub).then_heap (Nat.le_add_right _ _) fun b o hb e => ?_) hm'') hS''
      rw [sb.2 b (fun z : b = D => hb (by rw [z]; exact List.mem_cons_self))]
      exact e
end
section
variable {X : Cx}
/-- sorted(set of texts) -/
def rSortSS (w : World) : List V → Hp → VK → Prop := fun vs H Q => ∃ (a : Addr) (ks : List Str), vs = [V.ref a] ∧ H a = some (SetSO w a ks) ∧ ks.length < 64 ∧ ∀ (ys : List Str) (p : Addr), ys.Perm ks → sortedS ys = true → H p = none → Q (.ref p) (upd H p (.lst (ys.map V.str)))
theorem cr_sortSS (hc : X.calm = true) : CallR X (.builtin "sorted") (rSortSS X.w) := by
  intro pins s σ H vs us Q I r h
  obtain ⟨a, ks, rfl, ha, few, q⟩ := h
  rw [Vals.ref1 r]
  refine sorted_S (setSO_at I ha) (I.ok.hd hc) few fun s' p out c ys k g o hp hg hi pm hs => ?_
  have hn : H p = none := I.hok.fresh hp
  have hlen : (ys.map V.str).length ≤ sizeLine := by
    have z := pm.length_eq
    rw [List.length_map, sizeLine_eq]
    omega
  have J : Inv X pins σ (upd H p (.lst (ys.map V.str))) { s with heap := s'.heap, gens := s'.gens, drawn := s'.drawn, toks := s'.toks } :=
    I.call (ch := []) (Un.laid k hp hn) (I.hok.laid k hp ⟨hlen, out.toList, c, vals_of_strs hi, hg⟩) (by rw [g]; exact I.bare) (fun _ z => nomatch z)
  have e : s' = { s with heap := s'.heap, gens := s'.gens, drawn := s'.drawn, toks := s'.toks } := by
    cases s'
    cases s
    cases o
    rfl
  rw [e]
  exact ⟨.ref p, _, J, rfl, q ys p pm hs hn⟩
end
end Ev

/-! ## set(list of texts) -/
namespace Ev
open PySem PySem.Spec PyProof.Rows L2
section
variable {P : Program} {w : World} {A : Around} {E : Value → Shared → Prop} {s : Shared}
theorem strs_get : ∀ {vs : List Value} {zs : List Str} {i : Nat} {v : Value}, StrsAre vs zs → vs[i]? = some v → ∃ x tk, zs[i]? = some x ∧ v = .str x tk
  | _, _, _, _, .nil, e => by cases e
  | _, _, 0, _, .cons x tk _, e => by
    cases e
    exact ⟨x, tk, rfl, rfl⟩
  | _, _, i + 1, _, .cons _ _ h, e => strs_get (i := i) h e
/-- a new empty set behind the heap -/
abbrev emp (w : World) (h : Heap) : Heap := h.push { cls := .type "set", dict := none, data := .set #[] 0 (.fresh 0 0 (!w.params.followText "set-order")) }
theorem set_S {l : Addr} {items : Array Value} {zs : List Str} {Q : Value → Shared → Prop} (hh : A.handled = none) (hl : s.heap.IsList l items) (hit : StrsAre items.toList zs) (few : zs.length + 1 < scanBound)
    (q : ∀ (h' : Heap) (tk : Nat), SetS w h' s.heap.objs.size (uniq [] zs) → (∀ b o, s.heap.get? b = some o → h'.get? b = some o) → Q (.ref s.heap.objs.size) { s with heap := h', toks := tk }) :
    wpAny (model P w) A (call (.type "set") [.ref l]) Q E s := by
  have hz : items.size = zs.length := by
    have z := hit.length
    rw [Array.length_toList] at z
    exact z
  obtain ⟨c, tl, hmro⟩ := F.called_set.mro
  have f1 := F.called_set.made
  have f2 := F.called_set.sub
  have f3 := F.called_set.notType
  have f4 := F.called_set.canCreate
  have f5 := F.typeCall_set_1 (.ref l)
  refine wpAny_call (codeAny_of_tree ?_)
  show wpAny _ _ (callAny (.type "set") _) _ _ _
  refine wpAny_pure ⟨Code.quiet_builtin _ (by decide +kernel), codeAny_builtin F.entry_type_call ?_⟩
  rw [Around.under_plain (weight_type_call_type "set" [.ref l] []) rfl]
  repeat (any_goals (first | assumption | wp_step))
  refine codeAny_mono (code_set_led1 (.ref l) (E := E) (Q₁ := fun v s1 => v = .ref s.heap.objs.size ∧ s1 = { s with heap := emp w s.heap }) ⟨rfl, rfl⟩) fun r s1 hr => ?_
  match r, hr with
  | .error e, hr => exact hr
  | .ok (.ret v), hr =>
    obtain ⟨rfl, rfl⟩ := hr
    have hD : (emp w s.heap).get? s.heap.objs.size = some { cls := .type "set", dict := none, data := .set #[] 0 (.fresh 0 0 (!w.params.followText "set-order")) } := Heap.get?_push_size _ rfl
    have hT : Shared.TypeIs { s with heap := emp w s.heap } (.ref s.heap.objs.size) "set" := ⟨_, hD, rfl⟩
    have f6 := F.called_set.init.lookup
    have f7 := F.called_set.init.bind (.ref s.heap.objs.size)
    repeat (any_goals (first | assumption | wp_step))
    refine codeAny_mono (codeAny_call_builtin (R := wants (fun r s2 => r = .none ∧ ∃ h' tk, s2 = { s with heap := h', toks := tk } ∧ SetS w h' s.heap.objs.size (uniq [] zs) ∧ ∀ b o, s.heap.get? b = some o → h'.get? b = some o) E)
      F.called_set.init.plain F.entry_set_init (check_set_init_1 hT ?_)) fun r2 s2 hr2 => ?_
    · obtain ⟨⟨oc, od, odt, osl⟩, ho, hc, nl, hd⟩ := hl
      simp only at hc hd
      subst hc hd
      have ho1 : (emp w s.heap).get? l = some { cls := .type "list", dict := od, data := .seq items nl, slots := osl } := Heap.get?_push_of_some _ ho
      have l1 : (emp w s.heap).IsList l items := ⟨_, ho1, rfl, nl, rfl⟩
      have f8 := F.sub_list_set
      have f9 := F.sub_list_frozenset
      have f10 : (Value.type "list" == Value.type "dict") = false := by decide
      unfold Builtin.«set.__init__» noKeywords Builtin.Frozenset.updateFrom
      generalize hPI : pyIter = PI
      wp_walk
      subst hPI
      refine wpAny_pyIter_list l1 (wpAny_bind (wpAny_runValue ?_))
      have lt : l < s.heap.objs.size := Heap.lt_size ho
      have h3 : A.in1.in1.in1.handled = none := by simp [hh]
      have sz : (emp w s.heap).objs.size = s.heap.objs.size + 1 := Heap.size_push ..
      have neI : l ≠ (emp w s.heap).objs.size := by
        rw [sz]
        exact Nat.ne_of_lt (Nat.lt_succ_of_lt lt)
      have nf : s.heap.objs.size ∉ [(emp w s.heap).objs.size, l] := by
        rw [sz, List.mem_cons, List.mem_singleton, not_or]
        exact ⟨Nat.ne_of_lt (Nat.lt_succ_self _), Nat.ne_of_gt lt⟩
      have hv : ∀ (i : Nat) (v : Value), items[i]? = some v → ∃ x tk, zs[i]? = some x ∧ v = .str x tk := fun i v e => by
        have z : items.toList[i]? = some v := by
          rw [Array.getElem?_toList]
          exact e
        exact strs_get hit z
      refine update_S ((Walks.list h3 _ l neI items).toS) s.heap.objs.size nf zs hz hv few (items.size - 0) 0 _ (by omega) (Nat.zero_le _) ⟨⟨_, Heap.get?_push_size _ rfl, rfl, rfl⟩, l1.push _⟩
        ((setS_new w s.heap).at fun o e => Heap.get?_push_of_some _ e) fun s' hm hS' => ?_
      obtain ⟨h', g2, d', tk', os'⟩ := s'
      have eg : g2 = s.gens := hm.gens
      have ed : d' = s.drawn := hm.drawn
      have eo : os' = s.os := hm.os
      subst eg
      subst ed
      subst eo
      show wpAny _ _ _ _ _ _
      refine wpAny_pure ?_
      show wpAny _ _ (ret Value.none) _ _ _
      refine wpAny_pure ⟨rfl, h', tk', rfl, hS', fun b o e => ?_⟩
      have lb := Heap.lt_size e
      refine hm.heap b o (fun z => ?_) (Heap.get?_push_of_some _ (Heap.get?_push_of_some _ e))
      rcases List.mem_cons.mp z with z | z
      · rw [z] at lb
        exact Nat.lt_irrefl _ lb
      · have z := List.mem_singleton.mp z
        rw [z, sz] at lb
        exact Nat.not_lt_of_le (Nat.le_succ _) lb
    · match r2, hr2 with
      | .error e, hr2 => exact hr2
      | .ok (.ret v), hr2 =>
        obtain ⟨rfl, h', tk, rfl, hS', hk⟩ := hr2
        repeat (any_goals (first | assumption | wp_step))
        exact q _ _ hS' hk
      | .ok .next, hr2 => exact hr2.elim
      | .ok .brk, hr2 => exact hr2.elim
      | .ok .cont, hr2 => exact hr2.elim
  | .ok .next, hr => exact hr.elim
  | .ok .brk, hr => exact hr.elim
  | .ok .cont, hr => exact hr.elim
end
section
variable {X : Cx}
/-- set(list of texts) -/
def rSetS (K : PySem.W.Frag) (w : World) : List V → Hp → VK → Prop := fun xs H Q => ∃ (l : Addr) (zs : List Str), xs = [V.ref l] ∧ SqL K H l (zs.map V.str) ∧ zs.length < 4000 ∧ ∀ a, H a = none → Q (.ref a) (upd H a (SetSO w a (uniq [] zs)))
theorem cr_setS (hc : X.calm = true) : CallR X (.type "set") (rSetS X.K X.w) := by
  intro pins s σ H xs us Q I r h
  obtain ⟨l, zs, rfl, hl, few, q⟩ := h
  rw [Vals.ref1 r]
  obtain ⟨its, rv, pl, hz⟩ := I.list hl
  have hn : H s.heap.objs.size = none := I.hok.fresh (Nat.le_refl _)
  have hb : scanBound = 4096 := rfl
  refine set_S (P := X.prog) (w := X.w) (I.ok.hd hc) pl.isList (by simpa using rv.strs) (by omega) fun h' tk R k => ?_
  exact ⟨.ref s.heap.objs.size, upd H s.heap.objs.size (SetSO X.w s.heap.objs.size (uniq [] zs)), I.laid (t' := tk) k (Nat.le_refl _) (setSO_ok R), rfl, q _ hn⟩
end
end Ev

/-! ## Programs, pairs, and what comprehensions over them give -/
namespace Ev
open PySem PySem.Spec PyProof.Rows L2
/-- a statement that is never reached -/
theorem ps_dead {X : Cx} {st : Stmt} : PS X st (fun _ _ _ => False) := ⟨fun _ _ _ _ _ _ h => h.elim⟩
theorem pss_dead {X : Cx} {b : List Stmt} : PSs X b (fun _ _ _ => False) := ⟨fun _ _ _ _ _ _ h => h.elim⟩
inductive It where
  | line (x : Str) (t : Int)
  | loop (r : Int) (is : List It)
mutual
def It.d : It → PyData
  | .line x t => .tuple [.str "line", .str x, .int t]
  | .loop r is => .tuple [.str "loop", .int r, .tuple (Its.d is)]
def Its.d : List It → List PyData
  | [] => []
  | i :: is => It.d i :: Its.d is
end
theorem Its.d_map : ∀ is : List It, Its.d is = is.map It.d
  | [] => by rw [Its.d]; rfl
  | i :: is => by rw [Its.d, Its.d_map is]; rfl
/-- loops at most n deep, numbers from 0 below 2 ^ B -/
def Okp (B : Nat) : Nat → It → Prop
  | _, .line _ t => 0 ≤ t ∧ t < (2 ^ B : Nat)
  | 0, .loop _ _ => False
  | n + 1, .loop r is => 0 ≤ r ∧ r < (2 ^ B : Nat) ∧ ∀ i ∈ is, Okp B n i
theorem okp_line {B n : Nat} {x : Str} {t : Int} : Okp B n (.line x t) ↔ 0 ≤ t ∧ t < (2 ^ B : Nat) := by
  cases n <;> exact Iff.rfl
mutual
/-- the lines with their ticks, all rounds r times -/
def It.sp (r : Int) : It → List (Str × Int)
  | .line x t => [(x, r * t)]
  | .loop k is => Its.sp (r * k) is
def Its.sp (r : Int) : List It → List (Str × Int)
  | [] => []
  | i :: is => It.sp r i ++ Its.sp r is
end
theorem Its.sp_app (r : Int) : ∀ is js : List It, Its.sp r (is ++ js) = Its.sp r is ++ Its.sp r js
  | [], js => by
    rw [List.nil_append, Its.sp]
    rfl
  | i :: is, js => by
    rw [List.cons_append, Its.sp, Its.sp, Its.sp_app r is js, List.append_assoc]
theorem Its.sp_one (r : Int) (i : It) : Its.sp r [i] = It.sp r i := by
  rw [Its.sp, Its.sp, List.append_nil]
mutual
/-- how many lines there are -/
def It.nl : It → Nat
  | .line _ _ => 1
  | .loop _ is => Its.nl is
def Its.nl : List It → Nat
  | [] => 0
  | i :: is => It.nl i + Its.nl is
end
mutual
theorem It.sp_len (r : Int) : ∀ i : It, (It.sp r i).length = It.nl i
  | .line x t => by
    rw [It.sp, It.nl]
    rfl
  | .loop k is => by
    rw [It.sp, It.nl, Its.sp_len (r * k) is]
theorem Its.sp_len (r : Int) : ∀ is : List It, (Its.sp r is).length = Its.nl is
  | [] => by
    rw [Its.sp, Its.nl]
    rfl
  | i :: is => by
    rw [Its.sp, Its.nl, List.length_append, It.sp_len r i, Its.sp_len r is]
end
theorem Its.nl_app : ∀ is js : List It, Its.nl (is ++ js) = Its.nl is + Its.nl js
  | [], js => by
    rw [List.nil_append, Its.nl, Nat.zero_add]
  | i :: is, js => by
    rw [List.cons_append, Its.nl, Its.nl, Its.nl_app is js, Nat.add_assoc]
theorem Its.nl_mem : ∀ {is : List It} {i : It}, i ∈ is → It.nl i ≤ Its.nl is
  | j :: is, i, h => by
    rw [Its.nl]
    rcases List.mem_cons.mp h with rfl | h
    · exact Nat.le_add_right _ _
    · exact Nat.le_trans (Its.nl_mem h) (Nat.le_add_left _ _)
/-! ### pairs -/
def pairD (p : Str × Int) : PyData := .tuple [.str p.1, .int p.2]
/-- a list of pairs -/
def gPl (K : PySem.W.Frag) (ps : List (Str × Int)) : GP := ⟨fun H u => ∃ l us, u = .ref l ∧ H l = some (.lst us) ∧ DaAll K H us (ps.map pairD), fun s ⟨l, us, h1, h2, h3⟩ => ⟨l, us, h1, s _ _ h2, h3.mono s⟩⟩
section
variable {K : PySem.W.Frag} {H H' : Hp}
theorem da_app {us vs : List V} {ds es : List PyData} : DaAll K H us ds → DaAll K H vs es → DaAll K H (us ++ vs) (ds ++ es)
  | .nil, k => k
  | .cons h t, k => .cons h (da_app t k)
theorem daAll_len : ∀ {vs : List V} {ds : List PyData}, DaAll K H vs ds → vs.length = ds.length
  | _, _, .nil => rfl
  | _, _, .cons _ t => by
    rw [List.length_cons, List.length_cons, daAll_len t]
theorem daAll_at : ∀ {vs : List V} {ds : List PyData} {j : Nat} {x : V}, DaAll K H vs ds → vs[j]? = some x → ∃ d, ds[j]? = some d ∧ Da K H x d
  | _, _, _, _, .nil, e => by cases e
  | _, _, 0, _, .cons h _, e => by
    cases e
    exact ⟨_, rfl, h⟩
  | _, _, j + 1, _, .cons _ t, e => daAll_at (j := j) t e
mutual
/-- made of tuples alone -/
def tupD : PyData → Bool
  | .tuple ds => tupDs ds
  | .list _ => false
  | .dict _ => false
  | _ => true
def tupDs : List PyData → Bool
  | [] => true
  | d :: ds => tupD d && tupDs ds
end
/-- what is no list stays -/
def Kt (H H' : Hp) : Prop := ∀ b o, H b = some o → (∀ xs, o ≠ .lst xs) → H' b = some o
theorem Kt.of {H H' : Hp} (s : Same H H') : Kt H H' := fun b o e _ => s b o e
theorem Kt.put {H : Hp} {l : Addr} {xs : List V} {o : HO} (h : H l = some (.lst xs)) : Kt H (upd H l o) := fun b u e n => by
  have z : b ≠ l := fun z => by
    rw [z, h] at e
    cases e
    exact n xs rfl
  rw [upd_ne z]
  exact e
theorem Kt.trans {H1 H2 H3 : Hp} (a : Kt H1 H2) (b : Kt H2 H3) : Kt H1 H3 := fun x o e n => b x o (a x o e n) n
mutual
theorem Da.kt (k : Kt H H') : ∀ {v : V} {d : PyData}, tupD d = true → Da K H v d → Da K H' v d
  | _, _, _, .non => .non
  | _, _, _, .bl b => .bl b
  | _, _, _, .int i => .int i
  | _, _, _, .str x => .str x
  | _, _, n, .lst _ _ => by
    rw [tupD] at n
    cases n
  | _, _, n, .tup h t => by
    rw [tupD] at n
    refine .tup ?_ (DaAll.kt k n t)
    rcases h with (e | ⟨o, e⟩) | e
    · exact .inl (.inl (k _ _ e fun xs z => by cases z))
    · exact .inl (.inr ⟨o, k _ _ e fun xs z => by cases z⟩)
    · exact .inr e
  | _, _, n, .dic _ _ => by
    rw [tupD] at n
    cases n
theorem DaAll.kt (k : Kt H H') : ∀ {vs : List V} {ds : List PyData}, tupDs ds = true → DaAll K H vs ds → DaAll K H' vs ds
  | _, _, _, .nil => .nil
  | _, _, n, .cons h t => by
    rw [tupDs, Bool.and_eq_true] at n
    exact .cons (Da.kt k n.1 h) (DaAll.kt k n.2 t)
end
theorem tup_pairs : ∀ ps : List (Str × Int), tupDs (ps.map pairD) = true
  | [] => by rw [List.map_nil, tupDs]
  | p :: ps => by
    rw [List.map_cons, tupDs, tup_pairs ps, Bool.and_true]
    unfold pairD
    simp [tupD, tupDs]
theorem da_pair {x : V} {p : Str × Int} (h : Da K H x (pairD p)) : ∃ a, x = .ref a ∧ SqT K H a [.str p.1, .int p.2] := by
  unfold pairD at h
  cases h with
  | @tup a xs _ hs ha =>
  cases ha with
  | cons h1 ha =>
  cases ha with
  | cons h2 ha =>
  cases ha
  cases h1
  cases h2
  exact ⟨a, rfl, hs⟩
end
/-! ### comprehensions whose elements are plain values -/
section
variable {K : PySem.W.Frag} {H0 : Hp} {σ : L2.St} {te ti : TE} {tt : TT}
/-- over a list that an expression gives -/
theorem g_lcF {ds : List PyData} {f : Nat → Bool} {y : Nat → V} {g : TG} {vs : List Nat} (hi : ∀ (H : Hp) (Q : VK), Same H0 H → (∀ H' l us, Same H H' → SqL K H' l us → DaAll K H' us ds → Q (.ref l) H') → ti σ H Q) (hz : ds.length ≤ 1000000)
    (he : ∀ (j : Nat) (x : V) (d : PyData), ds[j]? = some d → ∀ (H : Hp) (R : VK) (N : Hp → Prop), Same H0 H → Da K H x d → (f j = true → ∀ H', Same H H' → R (y j) H') → (f j = false → ∀ H', Same H H' → N H') →
      g x (wipe σ vs) H fun σ2 H2 => wipe σ2 vs = wipe σ vs ∧ tt σ2 H2 fun b H3 => if b = true then te σ2 H3 R else N H3) :
    Gives H0 (tLc (iList K ti) g tt te vs) (gLst ((((List.range ds.length).filter f).map y).map gEq)) σ := fun H Q s q => by
  refine hi H _ s fun H1 l us s1 hl ha => ⟨l, rfl, ⟨us, hl⟩, fun D nD => ?_⟩
  have sl := sizeLine_eq
  have hlen := daAll_len ha
  refine lc_list (K := K) (a := l) (xs := us) (fun k H' => Same H1 H' ∧ H' D = some (.lst (((List.range k).filter f).map y))) ⟨same_put nD, upd_same⟩ (fun k H' _ ⟨s', _⟩ => s'.seq hl) ?_ ?_
  · rintro k x H' hk ⟨s', eD⟩
    obtain ⟨d, hd, hx⟩ := daAll_at ha hk
    have hkl : k < ds.length := (List.getElem?_eq_some_iff.mp hd).1
    have hll : (((List.range k).filter f).map y).length < sizeLine := by
      rw [List.length_map]
      have z := List.length_filter_le f (List.range k)
      rw [List.length_range] at z
      omega
    refine cast ?_ (he k x d hd H' (fun y' H4 => ∃ acc, H4 D = some (.lst acc) ∧ acc.length < sizeLine ∧ Same H1 (upd H4 D (.lst (acc ++ [y']))) ∧ upd H4 D (.lst (acc ++ [y'])) D = some (.lst (((List.range (k + 1)).filter f).map y)))
      (fun H4 => Same H1 H4 ∧ H4 D = some (.lst (((List.range (k + 1)).filter f).map y))) (s.trans (s1.trans s')) (hx.mono s') (fun e H4 s4 => ⟨_, s4 _ _ eD, hll, ?_, ?_⟩) (fun e H4 s4 => ⟨s'.trans s4, ?_⟩))
    · rfl
    · intro b o e
      rw [upd_ne (ne_of_none e nD)]
      exact s4 _ _ (s' _ _ e)
    · rw [upd_same, List.range_succ, List.filter_append, List.map_append]
      simp [e]
    · rw [List.range_succ, List.filter_append]
      simp [e]
      exact s4 _ _ eD
  · rintro H' ⟨s', eD⟩
    rw [hlen] at eD
    exact q H' _ (s1.trans s') ⟨D, _, rfl, eD, allEq⟩
theorem range_map {α β : Type} (l : List α) (f : α → β) (d : β) : (List.range l.length).map (fun j => ((l[j]?).map f).getD d) = l.map f := by
  apply List.ext_getElem
  · rw [List.length_map, List.length_range, List.length_map]
  · intro i h1 h2
    rw [List.getElem_map, List.getElem_range, List.getElem_map]
    rw [List.length_map] at h2
    rw [List.getElem?_eq_getElem h2]
    rfl
/-- sum of a list of numbers -/
theorem g_sum {ns : List Int} (h : Gives H0 te (gLst ((ns.map V.int).map gEq)) σ) : Gives H0 (tCB (rSum K) (tCons te tNil)) (gEq (.int ns.sum)) σ := fun H Q s q =>
  h H _ s fun H1 u s1 ⟨p, us, e, hp, ha⟩ => by
    have eu := all_eq ha
    subst eu
    subst e
    exact ⟨p, ns, rfl, .inl (.inl hp), q H1 _ s1 rfl⟩
end
end Ev

/-! ## Texts in order -/
namespace Ev
open PySem PySem.Spec PyProof.Rows
theorem lt_irr : ∀ a : List Nat, ltCps a a = false
  | [] => rfl
  | x :: a => by
    show (decide (x < x) || (x == x && ltCps a a)) = false
    rw [lt_irr a]
    simp
theorem lt_tri : ∀ a b : List Nat, ltCps a b = false → ltCps b a = false → a = b
  | [], [], _, _ => rfl
  | [], _ :: _, h, _ => by cases h
  | _ :: _, [], _, h => by cases h
  | x :: a, y :: b, h1, h2 => by
    have h1 : (decide (x < y) || (x == y && ltCps a b)) = false := h1
    have h2 : (decide (y < x) || (y == x && ltCps b a)) = false := h2
    rw [Bool.or_eq_false_iff, decide_eq_false_iff_not] at h1 h2
    have e : x = y := by omega
    subst e
    rw [beq_self_eq_true, Bool.true_and] at h1 h2
    rw [lt_tri a b h1.2 h2.2]
/-- not greater is transitive -/
theorem le_tr : ∀ a b c : List Nat, ltCps b a = false → ltCps c b = false → ltCps c a = false
  | [], [], c, _, h => h
  | [], _ :: _, [], _, h => by cases h
  | [], _ :: _, _ :: _, _, _ => rfl
  | _ :: _, [], _, h, _ => by cases h
  | _ :: _, _ :: _, [], _, h => by cases h
  | x :: a, y :: b, z :: c, h1, h2 => by
    have h1 : (decide (y < x) || (y == x && ltCps b a)) = false := h1
    have h2 : (decide (z < y) || (z == y && ltCps c b)) = false := h2
    show (decide (z < x) || (z == x && ltCps c a)) = false
    rw [Bool.or_eq_false_iff, decide_eq_false_iff_not] at h1 h2 ⊢
    refine ⟨by omega, ?_⟩
    by_cases e : z = x
    · subst e
      have e2 : y = z := by omega
      subst e2
      rw [beq_self_eq_true, Bool.true_and] at h1 h2 ⊢
      exact le_tr a b c h1.2 h2.2
    · have : (z == x) = false := by simpa using e
      rw [this, Bool.false_and]
def LeS (a b : Str) : Prop := ltCps b.cps.toList a.cps.toList = false
theorem LeS.rfl' (a : Str) : LeS a a := lt_irr _
theorem LeS.tr {a b c : Str} (h : LeS a b) (k : LeS b c) : LeS a c := le_tr _ _ _ h k
theorem LeS.anti {a b : Str} (h : LeS a b) (k : LeS b a) : a = b := by
  have e := lt_tri _ _ k h
  obtain ⟨x⟩ := a
  obtain ⟨y⟩ := b
  have e : x.toList = y.toList := e
  rw [Array.toList_inj.mp e]
theorem rising_pw : ∀ (r : List Str) (p : Str), risingS p r = true → (p :: r).Pairwise LeS
  | [], _, _ => List.pairwise_singleton _ _
  | x :: r, p, h => by
    have h : (!ltCps x.cps.toList p.cps.toList && risingS x r) = true := h
    rw [Bool.and_eq_true] at h
    have ih := rising_pw r x h.2
    have px : LeS p x := by
      show ltCps x.cps.toList p.cps.toList = false
      have := h.1
      revert this
      cases ltCps x.cps.toList p.cps.toList <;> simp
    refine List.pairwise_cons.mpr ⟨fun y hy => ?_, ih⟩
    rcases List.mem_cons.mp hy with rfl | hy
    · exact px
    · exact px.tr ((List.pairwise_cons.mp ih).1 y hy)
theorem sorted_pw : ∀ {l : List Str}, sortedS l = true → l.Pairwise LeS
  | [], _ => .nil
  | x :: r, h => rising_pw r x h
/-- two rows in order with the same members are one -/
theorem pw_same : ∀ {l m : List Str}, l.Pairwise LeS → m.Pairwise LeS → l.Perm m → l = m
  | [], m, _, _, p => p.nil_eq
  | x :: l, [], _, _, p => by
    have := p.length_eq
    cases this
  | x :: l, y :: m, h, k, p => by
    obtain ⟨h1, h2⟩ := List.pairwise_cons.mp h
    obtain ⟨k1, k2⟩ := List.pairwise_cons.mp k
    have e : x = y := by
      have xy : LeS x y := by
        rcases List.mem_cons.mp (p.mem_iff.mpr (List.mem_cons_self ..)) with e | e
        · rw [e]
          exact LeS.rfl' _
        · exact h1 y e
      have yx : LeS y x := by
        rcases List.mem_cons.mp (p.mem_iff.mp (List.mem_cons_self ..)) with e | e
        · rw [e]
          exact LeS.rfl' _
        · exact k1 x e
      exact xy.anti yx
    subst e
    rw [pw_same h2 k2 p.cons_inv]
theorem sorted_same {l m : List Str} (h : sortedS l = true) (k : sortedS m = true) (p : l.Perm m) : l = m := pw_same (sorted_pw h) (sorted_pw k) p
theorem lt_two : ∀ a b : List Nat, ltCps a b = true → ltCps b a = true → False
  | [], [], h, _ => by cases h
  | [], _ :: _, _, h => by cases h
  | _ :: _, [], h, _ => by cases h
  | x :: a, y :: b, h1, h2 => by
    have h1 : (decide (x < y) || (x == y && ltCps a b)) = true := h1
    have h2 : (decide (y < x) || (y == x && ltCps b a)) = true := h2
    rw [Bool.or_eq_true, decide_eq_true_iff, Bool.and_eq_true, beq_iff_eq] at h1 h2
    rcases h1 with h1 | h1
    · rcases h2 with h2 | h2
      · omega
      · omega
    · rcases h2 with h2 | h2
      · omega
      · exact lt_two a b h1.2 h2.2
def insS (x : Str) : List Str → List Str
  | [] => [x]
  | y :: r => if ltCps y.cps.toList x.cps.toList = true then y :: insS x r else x :: y :: r
theorem ins_perm (x : Str) : ∀ l : List Str, (insS x l).Perm (x :: l)
  | [] => .refl _
  | y :: r => by
    unfold insS
    split
    · exact ((ins_perm x r).cons y).trans (List.Perm.swap x y r)
    · exact .refl _
theorem ins_pw (x : Str) : ∀ l : List Str, l.Pairwise LeS → (insS x l).Pairwise LeS
  | [], _ => List.pairwise_singleton _ _
  | y :: r, h => by
    obtain ⟨h1, h2⟩ := List.pairwise_cons.mp h
    unfold insS
    split
    · rename_i c
      refine List.pairwise_cons.mpr ⟨fun z hz => ?_, ins_pw x r h2⟩
      rcases List.mem_cons.mp ((ins_perm x r).mem_iff.mp hz) with rfl | hz
      · show ltCps z.cps.toList y.cps.toList = false
        by_cases e : ltCps z.cps.toList y.cps.toList = true
        · exact (lt_two _ _ c e).elim
        · exact Bool.eq_false_iff.mpr e
      · exact h1 z hz
    · rename_i c
      have xy : LeS x y := Bool.eq_false_iff.mpr c
      refine List.pairwise_cons.mpr ⟨fun z hz => ?_, h⟩
      rcases List.mem_cons.mp hz with rfl | hz
      · exact xy
      · exact xy.tr (h1 z hz)
def srtS : List Str → List Str
  | [] => []
  | x :: l => insS x (srtS l)
theorem srt_perm : ∀ l : List Str, (srtS l).Perm l
  | [] => .refl _
  | x :: l => (ins_perm x _).trans ((srt_perm l).cons x)
theorem srt_pw : ∀ l : List Str, (srtS l).Pairwise LeS
  | [] => .nil
  | x :: l => ins_pw x _ (srt_pw l)
theorem srt_is {l ys : List Str} (p : ys.Perm l) (h : sortedS ys = true) : ys = srtS l := pw_same (sorted_pw h) (srt_pw l) (p.trans (srt_perm l).symm)
/-- the same members, in order -/
theorem srt_eq {l m : List Str} (h : l.Nodup) (k : m.Nodup) (e : ∀ x, x ∈ l ↔ x ∈ m) : srtS l = srtS m :=
  pw_same (srt_pw l) (srt_pw m) ((srt_perm l).trans (((List.perm_ext_iff_of_nodup h k).mpr e).trans (srt_perm m).symm))
end Ev

/-! ## Items, taken apart -/
namespace Ev
open PySem PySem.Spec PyProof.Rows L2
theorem dec_str (x : Str) : decide (V.str x = V.str x) = true := decide_eq_true rfl
theorem dec_ll : decide (V.str "loop" = V.str "line") = false := decide_eq_false fun h => absurd (V.str.inj h) (by decide)
theorem s_ret2 {r1 r2 : List V → Hp → VK → Prop} {te : TE} {D : Ends} {σ : L2.St} {H : Hp} (h : te σ H fun x H1 => r2 [x] H1 fun y H2 => r1 [y] H2 D.rt) : tRet (tCB r1 (tCons (tCB r2 (tCons te tNil)) tNil)) D σ H := h
theorem abs_lt {t : Int} {B : Nat} (h0 : 0 ≤ t) (h1 : t < (2 ^ B : Nat)) : t.natAbs < 2 ^ B := by omega
/-- an item, taken apart -/
theorem da_line {K : PySem.W.Frag} {H : Hp} {v : V} {x : Str} {t : Int} (h : Da K H v (It.d (.line x t))) : ∃ b, v = .ref b ∧ SqT K H b [.str "line", .str x, .int t] := by
  rw [It.d] at h
  cases h with
  | @tup b xs _ hs ha =>
  cases ha with
  | cons h1 ha =>
  cases ha with
  | cons h2 ha =>
  cases ha with
  | cons h3 ha =>
  cases ha
  cases h1
  cases h2
  cases h3
  exact ⟨b, rfl, hs⟩
theorem da_loop {K : PySem.W.Frag} {H : Hp} {v : V} {r : Int} {is : List It} (h : Da K H v (It.d (.loop r is))) : ∃ b w, v = .ref b ∧ SqT K H b [.str "loop", .int r, w] ∧ Da K H w (.tuple (is.map It.d)) := by
  rw [It.d, Its.d_map] at h
  cases h with
  | @tup b xs _ hs ha =>
  cases ha with
  | cons h1 ha =>
  cases ha with
  | cons h2 ha =>
  cases ha with
  | @cons w _ _ _ h3 ha =>
  cases ha
  cases h1
  cases h2
  exact ⟨b, w, rfl, hs, h3⟩
theorem da_prog {K : PySem.W.Frag} {H : Hp} {v : V} {ds : List PyData} (h : Da K H v (.tuple ds)) : ∃ a xs, v = .ref a ∧ SqT K H a xs ∧ DaAll K H xs ds := by
  cases h with
  | tup hs ha => exact ⟨_, _, rfl, hs, ha⟩
theorem sp_take {r : Int} {is : List It} {i : Nat} {it : It} (h : is[i]? = some it) : Its.sp r (is.take (i + 1)) = Its.sp r (is.take i) ++ It.sp r it := by
  rw [List.take_add_one, h, Its.sp_app]
  show _ ++ Its.sp r [it] = _
  rw [Its.sp_one]
theorem nl_take {is : List It} {i : Nat} {it : It} (h : is[i]? = some it) : Its.nl (is.take i) + It.nl it ≤ Its.nl is := by
  have e : is = is.take i ++ is.drop i := (List.take_append_drop i is).symm
  obtain ⟨hi, hx⟩ := List.getElem?_eq_some_iff.mp h
  rw [List.drop_eq_getElem_cons hi, hx] at e
  have z := congrArg Its.nl e
  rw [Its.nl_app, Its.nl] at z
  omega
section
variable {P : Program} {w : World} {K : PySem.W.Frag} {mg : Str → Option Value} {base : Heap}
theorem no_fn {CX : CXT} {k : Nat} {f : Addr} {fd : FuncData} {ps : List Str} : FnOk P w K mg base CX k f fd ps (fun _ _ _ _ => False) :=
  ⟨fun _ _ _ _ h => h.elim, fun _ _ _ _ _ _ _ _ _ _ _ _ _ h => h.elim⟩
/-- what a program must be, to be asked about -/
structure Prg (K : PySem.W.Frag) (B dep : Nat) (H : Hp) (x : V) (is : List It) : Prop where
  da : Da K H x (.tuple (is.map It.d))
  ok : ∀ i ∈ is, Okp B dep i
  few : Its.nl is ≤ 100000
theorem Prg.same {B dep : Nat} {H H' : Hp} {x : V} {is : List It} (h : Prg K B dep H x is) (s : Same H H') : Prg K B dep H' x is := ⟨h.da.mono s, h.ok, h.few⟩
/-- bounds for numbers -/
def Room2 (B dep : Nat) : Prop := 0 < B ∧ 64 + (dep + 1) * B ≤ 900000
def lenI (is : List It) : Int := ((Its.sp 1 is).map (·.2)).sum
end
def linesI (is : List It) : List Str := srtS (uniq [] ((Its.sp 1 is).map (·.1)))
end Ev

/-! ## How long a text of data is; whiles; items as tuples -/
namespace Ev
open PySem PySem.Spec PyProof.Rows L2
/-- a while by an invariant with a number that falls -/
theorem while_w {c : TT} {tb : TS} {D : Ends} {σ : L2.St} {H : Hp} (W : Nat → L2.St → Hp → Prop) (h0 : ∃ m, W m σ H)
    (hs : ∀ m σ H, W m σ H → c σ H fun b H1 => if b = true then tb { D with nx := fun σ' H' => ∃ m', m' < m ∧ W m' σ' H', ct := fun σ' H' => ∃ m', m' < m ∧ W m' σ' H', bk := D.nx } σ H1 else D.nx σ H1)
    (mono : ∀ σ H Q Q', (∀ b H1, Q b H1 → Q' b H1) → c σ H Q → c σ H Q') : tWhile c tb D σ H := by
  refine ⟨W, h0, fun m σ' H' w => mono σ' H' _ _ (fun b H1 h => ?_) (hs m σ' H' w)⟩
  by_cases e : b = true
  · rw [if_pos e] at h ⊢
    exact ⟨_, fun σ2 H2 n => n, h⟩
  · rw [if_neg e] at h ⊢
    exact h
mutual
def It.sz : It → Nat
  | .line _ _ => 1
  | .loop _ is => 1 + Its.sz is
def Its.sz : List It → Nat
  | [] => 0
  | i :: is => It.sz i + Its.sz is
end
theorem sz_mem : ∀ {is : List It} {i : It}, i ∈ is → It.sz i ≤ Its.sz is
  | j :: is, i, h => by
    rw [Its.sz]
    rcases List.mem_cons.mp h with rfl | h
    · exact Nat.le_add_right _ _
    · exact Nat.le_trans (sz_mem h) (Nat.le_add_left _ _)
theorem drop_one {is : List It} {i : Nat} {it : It} (h : is[i]? = some it) : (is.drop i).take 1 = [it] := by
  obtain ⟨hi, hx⟩ := List.getElem?_eq_some_iff.mp h
  rw [List.drop_eq_getElem_cons hi, hx]
  rfl
theorem atI_of {xs : List V} {i : Nat} {v : V} (h : xs[i]? = some v) : atI xs (i : Nat) = some v := atI_nat h
section
variable {K : PySem.W.Frag}
/-- a part of a program -/
theorem Prg.part {B dep : Nat} {H : Hp} {u x : V} {is js : List It} (hp : Prg K B dep H x is) (hu : Da K H u (.tuple (js.map It.d))) (hm : ∀ i ∈ js, i ∈ is) (hn : Its.nl js ≤ Its.nl is) : Prg K B dep H u js :=
  ⟨hu, fun i hi => hp.ok i (hm i hi), Nat.le_trans hn hp.few⟩
theorem nl_take_le (is : List It) (n : Nat) : Its.nl (is.take n) ≤ Its.nl is := by
  have z := congrArg Its.nl (List.take_append_drop n is)
  rw [Its.nl_app] at z
  omega
theorem nl_drop_le (is : List It) (n : Nat) : Its.nl (is.drop n) ≤ Its.nl is := by
  have z := congrArg Its.nl (List.take_append_drop n is)
  rw [Its.nl_app] at z
  omega
theorem map_take {α β : Type} (f : α → β) (l : List α) (n : Nat) : (l.map f).take n = (l.take n).map f := (List.map_take ..).symm
end
structure Sz (e w : Nat) (d : PyData) : Prop where
  sh : d.showable = true
  ls : d.leavesShort 1000 = true
  dp : d.depth ≤ e
  wt : d.weight ≤ w
theorem Sz.up {e e' w w' : Nat} {d : PyData} (h : Sz e w d) (he : e ≤ e') (hw : w ≤ w') : Sz e' w' d := ⟨h.sh, h.ls, Nat.le_trans h.dp he, Nat.le_trans h.wt hw⟩
theorem Sz.fits {e w : Nat} {d : PyData} (h : Sz e w d) (he : e ≤ 64) (hw : w ≤ 16000) : d.showable = true ∧ d.depth ≤ 64 ∧ d.shown.length ≤ sizeLine := by
  refine ⟨h.sh, Nat.le_trans h.dp he, ?_⟩
  have z := PyData.shown_le 1000 (by decide) d h.ls
  have y := sizeLine_eq
  have h1 : (1000 + 2) * d.weight ≤ 1002 * 16000 := Nat.mul_le_mul_left _ (Nat.le_trans h.wt hw)
  omega
theorem sz_int {i : Int} {k : Nat} (h : i.natAbs < 2 ^ k) (h0 : 0 < k) (hk : k ≤ 900) : Sz 0 k (.int i) := by
  have hl := PySem.Flt.log2_lt_of h0 h
  refine ⟨?_, ?_, ?_, ?_⟩
  · rw [PyData.showable]
    exact decide_eq_true (by omega)
  · rw [PyData.leavesShort]
    refine decide_eq_true ?_
    have z := int_text_length_le h0 hl
    have e : (PyData.shown (.int i)).length = (toString i).length := by
      rw [PyData.shown, PySem.ofString_length]
    omega
  · rw [PyData.depth]
    exact Nat.le_refl _
  · rw [PyData.weight]
    split <;> omega
theorem sz_str {x : Str} {n : Nat} (h : x.cps.size ≤ n) (hc : (x.cps.toList.all fun c => decide (c < 16 ^ 8)) = true) : Sz 0 n (.str x) := by
  refine ⟨by rw [PyData.showable], ?_, ?_, ?_⟩
  · rw [PyData.leavesShort]
    exact hc
  · rw [PyData.depth]
    exact Nat.le_refl _
  · rw [PyData.weight]
    exact h
theorem sz_all {e w : Nat} : ∀ {ds : List PyData}, (∀ d ∈ ds, Sz e w d) → PyData.showableAll ds = true ∧ PyData.leavesShortAll 1000 ds = true ∧ PyData.depthAll ds ≤ e ∧ PyData.weightAll ds ≤ ds.length * (w + 1)
  | [], _ => by
    refine ⟨by rw [PyData.showableAll], by rw [PyData.leavesShortAll], ?_, ?_⟩
    · rw [PyData.depthAll]
      exact Nat.zero_le _
    · rw [PyData.weightAll]
      exact Nat.zero_le _
  | d :: ds, h => by
    obtain ⟨h1, h2, h3, h4⟩ := h d (List.mem_cons_self ..)
    obtain ⟨k1, k2, k3, k4⟩ := sz_all fun x hx => h x (List.mem_cons_of_mem _ hx)
    refine ⟨by rw [PyData.showableAll, h1, k1]; rfl, by rw [PyData.leavesShortAll, h2, k2]; rfl, ?_, ?_⟩
    · rw [PyData.depthAll]
      exact Nat.max_le.mpr ⟨h3, k3⟩
    · rw [PyData.weightAll, List.length_cons, Nat.succ_mul]
      omega
theorem sz_tup {e w : Nat} {ds : List PyData} (h : ∀ d ∈ ds, Sz e w d) : Sz (e + 1) (ds.length * (w + 1)) (.tuple ds) := by
  obtain ⟨k1, k2, k3, k4⟩ := sz_all h
  refine ⟨by rw [PyData.showable]; exact k1, by rw [PyData.leavesShort]; exact k2, ?_, by rw [PyData.weight]; exact k4⟩
  rw [PyData.depth]
  omega
theorem sz_lst {e w : Nat} {ds : List PyData} (h : ∀ d ∈ ds, Sz e w d) : Sz (e + 1) (ds.length * (w + 1)) (.list ds) := by
  obtain ⟨k1, k2, k3, k4⟩ := sz_all h
  refine ⟨by rw [PyData.showable]; exact k1, by rw [PyData.leavesShort]; exact k2, ?_, by rw [PyData.weight]; exact k4⟩
  rw [PyData.depth]
  omega
def nmB (x : Str) : Bool := (decide (x.cps.size ≤ 8) && x.cps.toList.all fun c => decide (c < 16 ^ 8)) && PyData.strOk x
theorem nm_sz {x : Str} (h : nmB x = true) : Sz 0 8 (.str x) := by
  unfold nmB at h
  rw [Bool.and_eq_true, Bool.and_eq_true] at h
  exact sz_str (of_decide_eq_true h.1.1) h.1.2
theorem nm_ok {x : Str} (h : nmB x = true) : PyData.strOk x = true := by
  unfold nmB at h
  rw [Bool.and_eq_true] at h
  exact h.2
mutual
/-- names and numbers are short -/
def It.nm : It → Prop
  | .line x t => nmB x = true ∧ t.natAbs < 2 ^ 128
  | .loop r is => r.natAbs < 2 ^ 128 ∧ Its.nm is
def Its.nm : List It → Prop
  | [] => True
  | i :: is => It.nm i ∧ Its.nm is
end
mutual
def It.ni : It → Nat
  | .line _ _ => 1
  | .loop _ is => 1 + Its.ni is
def Its.ni : List It → Nat
  | [] => 0
  | i :: is => It.ni i + Its.ni is
end
theorem lit_sz : Sz 0 8 (.str "line") ∧ Sz 0 8 (.str "loop") := ⟨nm_sz (by decide +kernel), nm_sz (by decide +kernel)⟩
mutual
theorem It.szd : ∀ (n : Nat) (B : Nat) (i : It), Okp B n i → It.nm i → (It.d i).showable = true ∧ (It.d i).leavesShort 1000 = true ∧ (It.d i).depth ≤ 2 * n + 1 ∧ (It.d i).weight + 1 ≤ 165 * It.ni i
  | n, B, .line x t, _, h => by
    rw [It.nm] at h
    rw [It.d, It.ni]
    have z := sz_tup (e := 0) (w := 128) (ds := [.str "line", .str x, .int t]) fun d hd => by
      rcases List.mem_cons.mp hd with rfl | hd
      · exact lit_sz.1.up (Nat.le_refl _) (by decide)
      rcases List.mem_cons.mp hd with rfl | hd
      · exact (nm_sz h.1).up (Nat.le_refl _) (by decide)
      rcases List.mem_cons.mp hd with rfl | hd
      · exact sz_int h.2 (by decide) (by decide)
      cases hd
    refine ⟨z.sh, z.ls, Nat.le_trans z.dp (by omega), ?_⟩
    rw [PyData.weight, PyData.weightAll, PyData.weightAll, PyData.weightAll, PyData.weightAll]
    have w1 := lit_sz.1.wt
    have w2 := (nm_sz h.1).wt
    have w3 := (sz_int (i := t) h.2 (by decide) (by decide)).wt
    omega
  | 0, B, .loop r is, h, _ => h.elim
  | n + 1, B, .loop r is, ho, h => by
    rw [It.nm] at h
    obtain ⟨_, _, hj⟩ : 0 ≤ r ∧ r < (2 ^ B : Nat) ∧ ∀ i ∈ is, Okp B n i := ho
    obtain ⟨k1, k2, k3, k4⟩ := Its.szd n B is hj h.2
    have z1 := lit_sz.2
    have z2 := sz_int (i := r) h.1 (by decide) (by decide)
    rw [It.d, Its.d_map, It.ni]
    refine ⟨?_, ?_, ?_, ?_⟩
    · rw [PyData.showable, PyData.showableAll, PyData.showableAll, PyData.showableAll, PyData.showableAll, z1.sh, z2.sh]
      rw [PyData.showable, k1]
      rfl
    · rw [PyData.leavesShort, PyData.leavesShortAll, PyData.leavesShortAll, PyData.leavesShortAll, PyData.leavesShortAll, z1.ls, z2.ls]
      rw [PyData.leavesShort, k2]
      rfl
    · rw [PyData.depth, PyData.depthAll, PyData.depthAll, PyData.depthAll, PyData.depthAll]
      have d1 := z1.dp
      have d2 := z2.dp
      have d3 : (PyData.tuple (is.map It.d)).depth ≤ 2 * n + 2 := by
        rw [PyData.depth]
        omega
      have : max (PyData.str "loop").depth (max (PyData.int r).depth (max (PyData.tuple (is.map It.d)).depth 0)) ≤ 2 * n + 2 := by
        refine Nat.max_le.mpr ⟨by omega, Nat.max_le.mpr ⟨by omega, Nat.max_le.mpr ⟨d3, by omega⟩⟩⟩
      omega
    · rw [PyData.weight, PyData.weightAll, PyData.weightAll, PyData.weightAll, PyData.weightAll]
      rw [show (PyData.tuple (is.map It.d)).weight = PyData.weightAll (is.map It.d) by rw [PyData.weight]]
      have w1 := z1.wt
      have w2 := z2.wt
      have h5 : PyData.weightAll (is.map It.d) ≤ 165 * Its.ni is := k4
      omega
theorem Its.szd : ∀ (n : Nat) (B : Nat) (is : List It), (∀ i ∈ is, Okp B n i) → Its.nm is → PyData.showableAll (is.map It.d) = true ∧ PyData.leavesShortAll 1000 (is.map It.d) = true ∧ PyData.depthAll (is.map It.d) ≤ 2 * n + 1 ∧ PyData.weightAll (is.map It.d) ≤ 165 * Its.ni is
  | n, B, [], _, _ => by
    refine ⟨by rw [List.map_nil, PyData.showableAll], by rw [List.map_nil, PyData.leavesShortAll], ?_, ?_⟩
    · rw [List.map_nil, PyData.depthAll]
      exact Nat.zero_le _
    · rw [List.map_nil, PyData.weightAll]
      exact Nat.zero_le _
  | n, B, i :: is, ho, h => by
    rw [Its.nm] at h
    obtain ⟨h1, h2, h3, h4⟩ := It.szd n B i (ho i (List.mem_cons_self ..)) h.1
    obtain ⟨k1, k2, k3, k4⟩ := Its.szd n B is (fun j hj => ho j (List.mem_cons_of_mem _ hj)) h.2
    refine ⟨by rw [List.map_cons, PyData.showableAll, h1, k1]; rfl, by rw [List.map_cons, PyData.leavesShortAll, h2, k2]; rfl, ?_, ?_⟩
    · rw [List.map_cons, PyData.depthAll]
      exact Nat.max_le.mpr ⟨h3, k3⟩
    · rw [List.map_cons, PyData.weightAll, Its.ni]
      omega
end
theorem nm_of : ∀ {is : List It}, (∀ i ∈ is, It.nm i) → Its.nm is
  | [], _ => by
    rw [Its.nm]
    trivial
  | i :: is, h => by
    rw [Its.nm]
    exact ⟨h i (List.mem_cons_self ..), nm_of fun j hj => h j (List.mem_cons_of_mem _ hj)⟩
theorem ni_mul {W : Nat} : ∀ {is : List It}, (∀ i ∈ is, It.ni i ≤ W) → Its.ni is ≤ is.length * W
  | [], _ => by
    rw [Its.ni]
    exact Nat.zero_le _
  | i :: is, h => by
    rw [Its.ni, List.length_cons, Nat.succ_mul]
    have a := h i (List.mem_cons_self ..)
    have b := ni_mul fun j hj => h j (List.mem_cons_of_mem _ hj)
    omega
mutual
theorem It.nl_ni : ∀ i : It, It.nl i ≤ It.ni i
  | .line _ _ => by
    rw [It.nl, It.ni]
    exact Nat.le_refl _
  | .loop _ is => by
    rw [It.nl, It.ni]
    exact Nat.le_trans (Its.nl_ni is) (Nat.le_add_left _ _)
theorem Its.nl_ni : ∀ is : List It, Its.nl is ≤ Its.ni is
  | [] => by
    rw [Its.nl]
    exact Nat.zero_le _
  | i :: is => by
    rw [Its.nl, Its.ni]
    exact Nat.add_le_add (It.nl_ni i) (Its.nl_ni is)
end
mutual
theorem It.tupd : ∀ i : It, tupD (It.d i) = true
  | .line x t => by
    rw [It.d, tupD, tupDs, tupDs, tupDs, tupDs, tupD, tupD, tupD]
    rfl
    all_goals (intros; contradiction)
  | .loop r is => by
    rw [It.d, tupD, tupDs, tupDs, tupDs, tupDs, tupD, tupD, tupD, Its.tupd is]
    rfl
    all_goals (intros; contradiction)
theorem Its.tupd : ∀ is : List It, tupDs (Its.d is) = true
  | [] => by rw [Its.d, tupDs]
  | i :: is => by rw [Its.d, tupDs, It.tupd i, Its.tupd is]; rfl
end
theorem prog_tup (is : List It) : tupD (.tuple (is.map It.d)) = true := by
  rw [tupD, ← Its.d_map]
  exact Its.tupd is
theorem Bu.kt {p : Addr} {H H' : Hp} {xs : List V} (h : Bu p H H') (hp : H p = some (.lst xs)) : Kt H H' := fun b o e n => by
  refine h b o (fun z => ?_) e
  rw [z, hp] at e
  cases e
  exact n xs rfl
theorem Prg.kt {K : PySem.W.Frag} {B dep : Nat} {H H' : Hp} {x : V} {is : List It} (h : Prg K B dep H x is) (k : Kt H H') : Prg K B dep H' x is := ⟨h.da.kt k (prog_tup is), h.ok, h.few⟩
/-! ### the ticks, written out -/
mutual
def It.w : It → List Str
  | .line x t => List.replicate t.toNat x
  | .loop r is => (List.replicate r.toNat (Its.w is)).flatten
def Its.w : List It → List Str
  | [] => []
  | i :: is => It.w i ++ Its.w is
end
theorem w_app : ∀ is js : List It, Its.w (is ++ js) = Its.w is ++ Its.w js
  | [], js => by
    rw [List.nil_append, Its.w, List.nil_append]
  | i :: is, js => by
    rw [List.cons_append, Its.w, Its.w, w_app is js, List.append_assoc]
theorem w_one (i : It) : Its.w [i] = It.w i := by
  rw [Its.w, Its.w, List.append_nil]
mutual
/-- numbers from 0 -/
def It.nn : It → Prop
  | .line _ t => 0 ≤ t
  | .loop r is => 0 ≤ r ∧ Its.nn is
def Its.nn : List It → Prop
  | [] => True
  | i :: is => It.nn i ∧ Its.nn is
end
mutual
/-- numbers from 1, no empty loop -/
def It.ps : It → Prop
  | .line _ t => 1 ≤ t
  | .loop r is => 1 ≤ r ∧ is ≠ [] ∧ Its.ps is
def Its.ps : List It → Prop
  | [] => True
  | i :: is => It.ps i ∧ Its.ps is
end
mutual
theorem It.ps_nn : ∀ i : It, It.ps i → It.nn i
  | .line x t, h => by
    rw [It.ps] at h
    rw [It.nn]
    omega
  | .loop r is, h => by
    rw [It.ps] at h
    rw [It.nn]
    exact ⟨by omega, Its.ps_nn is h.2.2⟩
theorem Its.ps_nn : ∀ is : List It, Its.ps is → Its.nn is
  | [], _ => by
    rw [Its.nn]
    trivial
  | i :: is, h => by
    rw [Its.ps] at h
    rw [Its.nn]
    exact ⟨It.ps_nn i h.1, Its.ps_nn is h.2⟩
end
theorem ps_mem : ∀ {is : List It} {i : It}, Its.ps is → i ∈ is → It.ps i
  | j :: is, i, h, m => by
    rw [Its.ps] at h
    rcases List.mem_cons.mp m with rfl | m
    · exact h.1
    · exact ps_mem h.2 m
theorem ps_of : ∀ {is : List It}, (∀ i ∈ is, It.ps i) → Its.ps is
  | [], _ => by
    rw [Its.ps]
    trivial
  | i :: is, h => by
    rw [Its.ps]
    exact ⟨h i (List.mem_cons_self ..), ps_of fun j hj => h j (List.mem_cons_of_mem _ hj)⟩
theorem ps_take {is : List It} (h : Its.ps is) (n : Nat) : Its.ps (is.take n) := ps_of fun i hi => ps_mem h (List.mem_of_mem_take hi)
theorem ps_one {i : It} (h : It.ps i) : Its.ps [i] := ps_of fun j hj => by
  rw [List.mem_singleton.mp hj]
  exact h
theorem flat_count (x : Str) (l : List Str) : ∀ n : Nat, ((List.replicate n l).flatten.count x) = n * l.count x
  | 0 => by
    rw [List.replicate_zero, Nat.zero_mul]
    rfl
  | n + 1 => by
    rw [List.replicate_succ, List.flatten_cons, List.count_append, flat_count x l n, Nat.succ_mul]
    omega
theorem flat_len (l : List Str) : ∀ n : Nat, ((List.replicate n l).flatten.length) = n * l.length
  | 0 => by
    rw [List.replicate_zero, Nat.zero_mul]
    rfl
  | n + 1 => by
    rw [List.replicate_succ, List.flatten_cons, List.length_append, flat_len l n, Nat.succ_mul]
    omega
theorem mem_flat {x : Str} {l : List Str} {n : Nat} (h : 1 ≤ n) : x ∈ (List.replicate n l).flatten ↔ x ∈ l := by
  rw [List.mem_flatten]
  constructor
  · rintro ⟨m, h1, h2⟩
    rw [List.eq_of_mem_replicate h1] at h2
    exact h2
  · intro hx
    exact ⟨l, List.mem_replicate.mpr ⟨by omega, rfl⟩, hx⟩
mutual
theorem It.w_pos : ∀ i : It, It.ps i → 1 ≤ (It.w i).length
  | .line x t, h => by
    rw [It.ps] at h
    rw [It.w, List.length_replicate]
    omega
  | .loop r is, h => by
    rw [It.ps] at h
    rw [It.w, flat_len]
    have z := Its.w_pos is h.2.1 h.2.2
    have z2 : 1 * 1 ≤ r.toNat * (Its.w is).length := Nat.mul_le_mul (by omega) z
    omega
theorem Its.w_pos : ∀ is : List It, is ≠ [] → Its.ps is → 1 ≤ (Its.w is).length
  | [], n, _ => absurd rfl n
  | i :: is, _, h => by
    rw [Its.ps] at h
    rw [Its.w, List.length_append]
    have z := It.w_pos i h.1
    omega
end
/-- the ticks up to one within a loop -/
theorem flat_take {l : List Str} (hl : 1 ≤ l.length) : ∀ (n s : Nat), s < n * l.length → (List.replicate n l).flatten.take s = (List.replicate (s / l.length) l).flatten ++ l.take (s % l.length)
  | 0, s, h => by
    rw [Nat.zero_mul] at h
    omega
  | n + 1, s, h => by
    rw [List.replicate_succ, List.flatten_cons, List.take_append]
    by_cases c : s < l.length
    · rw [Nat.div_eq_of_lt c, Nat.mod_eq_of_lt c, Nat.sub_eq_zero_of_le (Nat.le_of_lt c)]
      simp
    · have e : s = (s - l.length) + l.length := by omega
      rw [Nat.succ_mul] at h
      have ih := flat_take hl n (s - l.length) (by omega)
      rw [List.take_of_length_le (by omega), ih]
      have d1 : s / l.length = (s - l.length) / l.length + 1 := by
        conv => lhs; rw [e]
        rw [Nat.add_div_right _ (by omega)]
      have d2 : s % l.length = (s - l.length) % l.length := by
        conv => lhs; rw [e]
        rw [Nat.add_mod_right]
      rw [d1, d2, List.replicate_succ, List.flatten_cons, List.append_assoc]
theorem flat_get {l : List Str} (hl : 1 ≤ l.length) : ∀ (n s : Nat), s < n * l.length → (List.replicate n l).flatten[s]? = l[s % l.length]?
  | 0, s, h => by
    rw [Nat.zero_mul] at h
    omega
  | n + 1, s, h => by
    rw [List.replicate_succ, List.flatten_cons]
    by_cases c : s < l.length
    · rw [List.getElem?_append_left c, Nat.mod_eq_of_lt c]
    · rw [Nat.succ_mul] at h
      rw [List.getElem?_append_right (by omega), flat_get hl n (s - l.length) (by omega)]
      congr 1
      exact (Nat.mod_eq_sub_mod (by omega)).symm
end Ev

/-! ## The numbers of a pot -/
namespace Ev
open PySem PySem.Spec PyProof.Rows L2
/-- the numbers of a pot out of which at most n draws came by reckoning -/
def PotL (n : Nat) (xs : List V) : Prop := ∃ x y c : Int, xs = [.int x, .int y, .int c] ∧ 0 ≤ x ∧ 0 ≤ y ∧ y < 2305843009213693921 ∧ 0 ≤ c ∧ c ≤ n
theorem own_nn (z m : Int) (b : Bool) (h : 0 < m) : 0 ≤ z % m * (if b = true then 1 else 0) := by
  refine Int.mul_nonneg (Int.emod_nonneg _ (by omega)) ?_
  cases b <;> decide
theorem flag_in (b : Bool) : -(2 ^ 64) < (if b = true then 1 else 0 : Int) ∧ (if b = true then 1 else 0 : Int) < 2 ^ 64 := by
  cases b <;> decide
theorem seq_nn {d : Int} {n : Nat} (h0 : 0 ≤ d) (h1 : d < n) : seqIndex? d n = some d.toNat := by
  unfold seqIndex?
  simp only []
  first
    | (rw [if_neg (by omega), if_pos (by omega)])
    | (split <;> simp_all <;> omega)
    | omega
/-- what len of a list or a tuple asks -/
def rLenK (K : PySem.W.Frag) : List V → Hp → VK → Prop := fun xs H Q => ∃ p ys, xs = [V.ref p] ∧ (SqL K H p ys ∨ SqT K H p ys) ∧ Q (.int (ys.length : Nat)) H
/-- what is tracked in H' and was not in H -/
def newer (H H' : Hp) : Hp := fun b => if H b = none then H' b else none
theorem newer_at {H H' : Hp} {b : Addr} (h : H b = none) : newer H H' b = H' b := if_pos h
theorem newer_le {A B A' B' : Hp} (h1 : ∀ b, A b = none → A' b = none) (h2 : ∀ b o, A b = none → B b = some o → B' b = some o) : Same (newer A B) (newer A' B') := fun b o e => by
  by_cases hb : A b = none
  · rw [newer_at hb] at e
    rw [newer_at (h1 b hb)]
    exact h2 b o hb e
  · have z : newer A B b = none := if_neg hb
    rw [z] at e
    cases e
theorem newer_sub {H H' : Hp} (h : ∀ b o, H b = none → H' b = some o → H' b = some o) : Same (newer H H') H' := fun b o e => by
  by_cases hb : H b = none
  · rw [newer_at hb] at e
    exact e
  · have z : newer H H' b = none := if_neg hb
    rw [z] at e
    cases e
theorem daAll_append {K : PySem.W.Frag} {H : Hp} {v : V} {d : PyData} (h : Da K H v d) : ∀ {vs : List V} {ds : List PyData}, DaAll K H vs ds → DaAll K H (vs ++ [v]) (ds ++ [d])
  | _, _, .nil => .cons h .nil
  | _, _, .cons a t => .cons a (daAll_append h t)
/-- tracked things stay tracked -/
theorem Bu.dom {p : Addr} {H H' : Hp} {o : HO} (h : Bu p H H') (hp : H' p = some o) (b : Addr) (e : H' b = none) : H b = none := by
  cases q : H b with
  | none => rfl
  | some u =>
    by_cases z : b = p
    · rw [z, hp] at e
      cases e
    · rw [h b u z q] at e
      cases e
theorem dom1 {p l : Addr} {H H' : Hp} {o1 o2 o3 : HO} (h : Bu p H H') (hp : H' p = some o1) (hl : H' l = some o2) {t : Addr} (e : H' t = none) : upd H l o3 t = none := by
  have ntl : t ≠ l := fun z => by
    rw [z, hl] at e
    cases e
  rw [upd_ne ntl]
  exact h.dom hp t e
theorem log_le {m : Int} (h1 : 1 ≤ m) (h2 : m ≤ 10 ^ 18) : m.natAbs.log2 < 9000 :=
  Nat.lt_of_lt_of_le (PySem.Flt.log2_lt_of (show 0 < 64 by decide) (show m.natAbs < 2 ^ 64 by omega)) (by decide)
theorem PotL.up {n m : Nat} {xs : List V} (h : PotL n xs) (k : n ≤ m) : PotL m xs := by
  obtain ⟨x, y, c, h1, h2, h3, h4, h5, h6⟩ := h
  exact ⟨x, y, c, h1, h2, h3, h4, h5, by omega⟩
theorem bu_seq {K : PySem.W.Frag} {p q : Addr} {H H' : Hp} {zs : List V} (n : q ≠ p) (h : Bu p H H') (s : SqL K H q zs) : SqL K H' q zs := by
  rcases s with (e | ⟨o, e⟩) | e
  · exact .inl (.inl (h _ _ n e))
  · exact .inl (.inr ⟨o, h _ _ n e⟩)
  · exact .inr e
end Ev

/-! ## isinstance of any datum; slices of tuples -/
namespace Ev
open PySem PySem.Spec PyProof.Rows L2
def tyD : PyData → String
  | .none => "NoneType"
  | .bool _ => "bool"
  | .int _ => "int"
  | .str _ => "str"
  | .list _ => "list"
  | .tuple _ => "tuple"
  | .dict _ => "dict"
theorem Da.ty {K : PySem.W.Frag} {H : Hp} {x : V} {d : PyData} (h : Da K H x d) : TyX K H x (.type (tyD d)) := by
  cases h with
  | non => exact .base .non
  | bl b => exact .base (.bl b)
  | int i => exact .base (.int i)
  | str x => exact .base (.str x)
  | lst hs ha =>
    rcases hs with (e | ⟨o, e⟩) | ⟨o, its, n, e, hc, _⟩
    · exact .base (.lst e)
    · exact .base (.frz e)
    · exact .kList e hc
  | tup hs ha =>
    rcases hs with (e | ⟨o, e⟩) | ⟨o, its, n, e, hc, _⟩
    · exact .base (.tup e)
    · exact .fTuple e
    · exact .kTuple e hc
  | dic e hk => exact .base (.dK e)
def isD (T : String) (d : PyData) : Bool := (kitB (tyD d) T).getD false
def OkT (T : String) : Prop := T = "int" ∨ T = "bool" ∨ T = "tuple" ∨ T = "str"
theorem kit_D {T : String} (hT : OkT T) (d : PyData) : kitB (tyD d) T = some (isD T d) := by
  rcases hT with rfl | rfl | rfl | rfl <;> cases d <;> kernel_rfl
theorem isD_int (d : PyData) : isD "int" d = (match d with | .int _ => true | .bool _ => true | _ => false) := by
  cases d <;> kernel_rfl
theorem isD_bool (d : PyData) : isD "bool" d = (match d with | .bool _ => true | _ => false) := by
  cases d <;> kernel_rfl
theorem isD_tuple (d : PyData) : isD "tuple" d = (match d with | .tuple _ => true | _ => false) := by
  cases d <;> kernel_rfl
theorem isD_str (d : PyData) : isD "str" d = (match d with | .str _ => true | _ => false) := by
  cases d <;> kernel_rfl
def tIsT (K : PySem.W.Frag) (T : String) (i : Nat) : TE := fun σ H Q => ∃ (x : V) (d : PyData), σ[i]? = some (some x) ∧ Da K H x d ∧ Q (.bl (isD T d)) H
section
variable {X : Cx} {x y : Str} {i : Nat} {p1 p2 q1 q2 : Pos}
theorem pe_isT {T : String} (hT : OkT T) (m : X.mg "isinstance" = none) (hv : ∀ pos, PE X (.Name y pos) (tVar i)) (hx : ∀ pos, PE X (.Name x pos) (tC (.ty T))) (hg : Gl X "isinstance" := by rfl) :
    PE X (.Call (.Name "isinstance" p1) [.Name y q1, .Name x q2] [] p2) (tIsT X.K T i) := by
  refine PE.imp (pe_callB call_isi hg m (by decide +kernel) (pa_cons (hv q1) (pa_cons (hx q2) pa_nil))) ?_
  rintro σ H Q ⟨x, d, h1, h2, h3⟩
  exact ⟨x, h1, x, .ty T, .type (tyD d), .type T, isD T d, rfl, .ty T, h2.ty, kit_ty (kit_D hT d), h3⟩
end
section
variable {K : PySem.W.Frag} {H0 : Hp} {σ : L2.St} {i : Nat} {x : V} {d : PyData} {T : String} {b c : Bool} {tt uu : TT} {t rest : TS} {D : Ends}
theorem t_isT (h : σ[i]? = some (some x)) (hd : Da K H0 x d) : GivesT H0 (tB (tIsT K T i)) (isD T d) σ := fun H Q s q => ⟨x, d, h, hd.mono s, _, rfl, q H Same.rfl'⟩
end
def intD (lo hi : Int) : PyData → Bool
  | .int i => decide (lo ≤ i) && decide (i ≤ hi)
  | _ => false
theorem ty_of {X : Cx} {x : Str} {T : String} {pos : Pos} (hg : Gl X x) (hm : X.mg x = none) (hb : bootBuiltins x = some (.type T)) (hn : x ≠ "__name__" := by decide) (hd : (x == ("__debug__" : Str)) = false := by decide) :
    PE X (.Name x pos) (tC (.ty T)) := pe_bltn (v := .ty T) hg hm hb (show RelV (.ty T) (.type T) from rfl) hn hd
def cutD (ds : List PyData) (lo hi : Option Int) : List PyData := (ds.drop (HT.sIx ds.length 0 lo)).take (HT.sIx ds.length ds.length hi - HT.sIx ds.length 0 lo)
theorem cut_to (ds : List PyData) (i : Nat) : cutD ds none (some (i : Nat)) = ds.take i := by
  unfold cutD
  rw [HT.sIx_none, HT.sIx_nat, List.drop_zero, Nat.sub_zero]
  by_cases h : i ≤ ds.length
  · rw [Nat.min_eq_left h]
  · rw [Nat.min_eq_right (by omega), List.take_of_length_le (by omega), List.take_of_length_le (by omega)]
theorem cut_mid (ds : List PyData) (i j : Nat) : cutD ds (some (i : Nat)) (some (j : Nat)) = (ds.drop i).take (j - i) := by
  unfold cutD
  rw [HT.sIx_nat, HT.sIx_nat]
  by_cases h : i ≤ ds.length
  · rw [Nat.min_eq_left h]
    by_cases k : j ≤ ds.length
    · rw [Nat.min_eq_left k]
    · rw [Nat.min_eq_right (by omega), List.take_of_length_le (by rw [List.length_drop]; omega), List.take_of_length_le (by rw [List.length_drop]; omega)]
  · have e : min i ds.length = ds.length := Nat.min_eq_right (by omega)
    rw [e, List.drop_of_length_le (Nat.le_refl _), List.drop_of_length_le (show ds.length ≤ i by omega), List.take_nil, List.take_nil]
theorem daAll_take {K : PySem.W.Frag} {H : Hp} : ∀ {vs : List V} {ds : List PyData} (n : Nat), DaAll K H vs ds → DaAll K H (vs.take n) (ds.take n)
  | _, _, 0, _ => .nil
  | _, _, _ + 1, .nil => .nil
  | _, _, n + 1, .cons a t => .cons a (daAll_take n t)
theorem daAll_drop {K : PySem.W.Frag} {H : Hp} : ∀ {vs : List V} {ds : List PyData} (n : Nat), DaAll K H vs ds → DaAll K H (vs.drop n) (ds.drop n)
  | _, _, 0, h => h
  | _, _, _ + 1, .nil => .nil
  | _, _, n + 1, .cons _ t => daAll_drop n t
/-- a slice of a tuple -/
theorem sl_val {K : PySem.W.Frag} {H : Hp} {x : V} {ds : List PyData} {lo hi : Option Int} {Q : VK} (hd : Da K H x (.tuple ds)) (q : ∀ H' u, Same H H' → Da K H' u (.tuple (cutD ds lo hi)) → Q u H') : rSlA K x lo hi H Q := by
  cases hd with
  | @tup a xs _ hs ha =>
  have hl := daAll_len ha
  refine ⟨a, xs, rfl, hs, fun e => ?_, fun e r nr => ?_⟩
  · refine q _ _ Same.rfl' ?_
    have z : cutD ds lo hi = ds := by
      unfold cutD
      rw [← hl, e.1, e.2, hl, List.drop_zero, Nat.sub_zero, List.take_length]
    rw [z]
    exact .tup hs ha
  · refine q _ _ (same_put nr) (.tup (xs := cutV xs lo hi) (.inl (.inl upd_same)) ?_)
    have z := (daAll_take (HT.sIx xs.length xs.length hi - HT.sIx xs.length 0 lo) (daAll_drop (HT.sIx xs.length 0 lo) ha)).mono (same_put (o := .tup (cutV xs lo hi)) nr)
    unfold cutV cutD
    rw [← hl]
    exact z
theorem cut_from (ds : List PyData) (i : Nat) : cutD ds (some (i : Nat)) none = ds.drop i := by
  unfold cutD
  rw [HT.sIx_none, HT.sIx_nat]
  by_cases h : i ≤ ds.length
  · rw [Nat.min_eq_left h, List.take_of_length_le (by rw [List.length_drop]; exact Nat.le_refl _)]
  · rw [Nat.min_eq_right (by omega), List.drop_of_length_le (Nat.le_refl _), List.drop_of_length_le (by omega), List.take_nil]
end Ev

/-! ## Defs by name: what stands there, and what it promises -/
namespace Ev
open PySem PySem.Spec PyProof.Rows L2
/-- a def of the module -/
structure Def (K : PySem.W.Frag) (mg : Str → Option Value) (x : Str) (st : Stmt) (ps : List Str) : Prop where
  ex : ∃ (f : Addr) (fd : FuncData), Fun K x x st f fd ∧ Binds K fd ps [] ∧ mg x = some (.ref f)
/-- a def that keeps a promise, ready to be called -/
structure Cal (P : Program) (w : World) (K : PySem.W.Frag) (mg : Str → Option Value) (base : Heap) (k : Nat) (x : Str) (ps : List Str) (sp : Sp) : Prop where
  ex : ∃ (f : Addr) (fd : FuncData), FnG P w K mg base CX0 k f fd ps sp ∧ Binds K fd ps [] ∧ mg x = some (.ref f) ∧ PySem.W.keepIn K (.ref f) = true
section
variable {P : Program} {w : World} {K : PySem.W.Frag} {mg : Str → Option Value} {base : Heap} {x : Str} {st : Stmt} {ps N : List Str} {sp : Sp} {k j : Nat}
theorem Cal.up (C : Cal P w K mg base j x ps sp) (h : j ≤ k) : Cal P w K mg base k x ps sp := by
  obtain ⟨f, fd, F, b, m, v⟩ := C.ex
  exact ⟨f, fd, F.up h, b, m, v⟩
theorem Cal.of {f : Addr} {fd : FuncData} (F : FnOk P w K mg base CX0 k f fd ps sp) (b : Binds K fd ps []) (m : mg x = some (.ref f)) (v : PySem.W.keepIn K (.ref f) = true) : Cal P w K mg base k x ps sp :=
  ⟨f, fd, .of F, b, m, v⟩
theorem Def.ok (D : Def K mg x st ps) (S : FnScope N ps (defScope st)) (len : ∀ vs H Q E, sp vs H Q E → vs.length = ps.length)
    (hbody : ∀ (f : Addr) (cdv : Value) (A : Around) (outer : List Env) (s : Shared) (H : Hp) (vs : List V) (Q : VK) (E : XK),
      Room k (A.deeper (envOfC x (defScope st) s.heap.objs.size f cdv)) → A.guards = some [] → sp vs H Q E →
      ∃ t, PSs (cxOf CX0 P w K mg base N x (defScope st) f cdv A outer s H E).nox (defBody st) t ∧
        t { nx := fun _ H' => Q .non H', rt := Q } (start N vs) H) : Cal P w K mg base (k + 1) x ps sp := by
  obtain ⟨f, fd, F, b, m⟩ := D.ex
  exact ⟨f, fd, okG F S len (hbody f), b, m, F.kp⟩
theorem no_cal (D : Def K mg x st ps) : Cal P w K mg base k x ps (fun _ _ _ _ => False) := by
  obtain ⟨f, fd, F, b, m⟩ := D.ex
  exact ⟨f, fd, .of no_fn, b, m, F.kp⟩
end
section
variable {X : Cx} {k : Nat} {ps : List Str} {sp : Sp} {x : Str} {p pos : Pos} {e : Expr} {es : List Expr} {t : TA}
theorem pcall (C : Cal X.prog X.w X.K X.mg X.base k x ps sp) (hr : Room k X.A) (gd : X.A.guards = some []) (hg : Gl X x) (ha : PA X (e :: es) t)
    (hdb : (x == ("__debug__" : Str)) = false := by decide) (he : starEach (e :: es) X.env = (false, eval e X.env) :: starEach es X.env := by rfl)
    (hpl : (backTo pos (starEach es X.env)).any (·.1) = false := by rfl) : PE X (.Call (.Name x p) (e :: es) [] pos) (tCall sp [] E0 t) := by
  obtain ⟨f, fd, F, hb, hm, hk⟩ := C.ex
  exact pe_callG F hr gd hg hm hk hb .nil pass0 ha hdb he hpl
theorem pcall0 (C : Cal X.prog X.w X.K X.mg X.base k x ps sp) (hr : Room k X.A) (gd : X.A.guards = some []) (hg : Gl X x)
    (hdb : (x == ("__debug__" : Str)) = false := by decide) : PE X (.Call (.Name x p) [] [] pos) (tCall sp [] E0 tNil) := by
  obtain ⟨f, fd, F, hb, hm, hk⟩ := C.ex
  exact pe_callG0 F hr gd hg hm hk hb .nil pass0 hdb
end
theorem hu70 {A : Around} {k : Nat} (hr : Room k A) : A.units + 70 < cLine := by
  have := hr.un
  omega
/-- built-in names that the module leaves alone -/
def nbs : List Str := ["len", "abs", "int", "bool", "isinstance", "range", "max", "min", "sum", "repr", "divmod", "tuple", "sorted", "set", "enumerate", "zip", "list", "dict", "any", "all", "str", "reversed"]
def NB (mg : Str → Option Value) : Prop := ∀ x ∈ nbs, mg x = none
theorem NB.at {mg : Str → Option Value} (h : NB mg) {x : Str} (hx : nbs.contains x = true := by decide +kernel) : mg x = none := h x (List.contains_iff_mem.mp hx)
/-! ### is_whole, is_integer_within -/
def spWh (K : PySem.W.Frag) : Sp := fun vs H Q _ => ∃ (x : V) (d : PyData), vs = [x] ∧ Da K H x d ∧ Q (.bl (isD "int" d && !isD "bool" d)) H
def spIn (K : PySem.W.Frag) : Sp := fun vs H Q _ => ∃ (x : V) (d : PyData) (lo hi : Int), vs = [x, .int lo, .int hi] ∧ Da K H x d ∧ ∀ H', Same H H' → Q (.bl (intD lo hi d)) H'
/-! ### tuple * 0, tuple * 1 -/
theorem tuple_mul1 (l : Addr) (items : Array Value) (n : Nat) (dd : Option Addr) (sl : Array (Option Value)) (x : Int) (u : Tok) (c0 : (decide (x < -(2 ^ 63)) || decide (x ≥ 2 ^ 63)) = false) (c1 : (items.isEmpty || x == 1) = true) :
    Meets (Builtin.«tuple.__mul__» ⟨[.ref l, .int x u], []⟩) (fun _ R s => s.heap.get? l = some { cls := .type "tuple", dict := dd, data := .seq items n, slots := sl } ∧
      R (.ok (.ret (Value.ref l))) s) :=
  .of_wp fun prog w A R s h => by
    obtain ⟨hp, g, d, tk, os⟩ := s
    obtain ⟨hl, h⟩ := h
    have f1 := AutoSeq1.idx_int
    wp_walk using wpAny_loadPart' hl
    repeat (first
      | (refine wpAny_ite_false (decide_eq_false (by rw [c0]; exact Bool.false_ne_true)) ?_; wp_walk using wpAny_loadPart' hl)
      | (refine wpAny_ite_true (decide_eq_true c1) ?_; wp_walk using wpAny_loadPart' hl))
    exact ⟨_, rfl, h⟩
theorem tuple_mul0 (l : Addr) (items : Array Value) (n : Nat) (dd : Option Addr) (sl : Array (Option Value)) (x : Int) (u : Tok) (c0 : (decide (x < -(2 ^ 63)) || decide (x ≥ 2 ^ 63)) = false) (c1 : (items.isEmpty || x == 1) = false)
    (c2 : (decide (x ≤ 0) || items.isEmpty) = true) :
    Meets (Builtin.«tuple.__mul__» ⟨[.ref l, .int x u], []⟩) (fun _ R s => s.heap.get? l = some { cls := .type "tuple", dict := dd, data := .seq items n, slots := sl } ∧
      R (.ok (.ret (Value.ref s.heap.objs.size))) { s with heap := s.heap.push { cls := Value.type "tuple", data := Data.seq #[] }, toks := s.toks }) :=
  .of_wp fun prog w A R s h => by
    obtain ⟨hp, g, d, tk, os⟩ := s
    obtain ⟨hl, h⟩ := h
    have f1 := AutoSeq1.idx_int
    wp_walk using wpAny_loadPart' hl
    repeat (first
      | (refine wpAny_ite_false (decide_eq_false (by rw [c0]; exact Bool.false_ne_true)) ?_; wp_walk using wpAny_loadPart' hl)
      | (refine wpAny_ite_false (decide_eq_false (by rw [c1]; exact Bool.false_ne_true)) ?_; wp_walk using wpAny_loadPart' hl)
      | (refine wpAny_ite_true (decide_eq_true c2) ?_; wp_walk using wpAny_loadPart' hl))
    exact ⟨_, rfl, h⟩
def rRepT01 (K : PySem.W.Frag) : R2 := fun x y H Q => ∃ l xs k, x = .ref l ∧ y = .int k ∧ SqT K H l xs ∧ xs ≠ [] ∧ ((k = 1 ∧ Q (.ref l) H) ∨ (k = 0 ∧ ∀ p, H p = none → Q (.ref p) (upd H p (.tup []))))
theorem op_repT01 {X : Cx} : OpR X (binaryOp .Mult) (rRepT01 X.K) := by
  intro pins s σ H x y v u Q I rx ry h
  obtain ⟨l, xs, k, rfl, rfl, hT, hne, h⟩ := h
  cases rx
  obtain ⟨t, rfl⟩ := ry
  obtain ⟨its, r, ⟨⟨cls, dd, data, sl⟩, ho, hc, n, hd⟩, hs⟩ := I.tuple hT
  simp only at hc hd
  subst hc hd
  have hle : its.length = xs.length := r.length.symm
  have hi : its.toArray.isEmpty = false := by
    cases its with
    | nil => exact absurd (List.eq_nil_of_length_eq_zero hle.symm) hne
    | cons a b => rfl
  rcases h with ⟨rfl, q⟩ | ⟨rfl, q⟩
  · refine wpAny_binaryOp_repeat_ref (T := "tuple") (U := "int") (by decide) ⟨_, ho, rfl⟩ (fun s' => typeIs_int s' 1 t) noFill_tuple_mul F.fills_int_mul F.slot_int_rmul repeat_tuple F.slot_int_index.lookup
      (call_meets F.slot_int_rmul (typeIs_int s 1 t) F.entry_int_rmul (F.args_int_rmul_2 _ _) (int_rmul_tuple 1 t l its.toArray n dd sl)
        ⟨ho, rfl, ⟨_, ho, rfl⟩, call_meets F.slot_tuple_mul ⟨_, ho, rfl⟩ F.entry_tuple_mul (F.args_tuple_mul_2 _ _) (tuple_mul1 l its.toArray n dd sl 1 t (by decide) (by rw [hi]; rfl)) ⟨ho, ?_⟩⟩)
    exact ⟨.ref l, H, I, rfl, q⟩
  · refine wpAny_binaryOp_repeat_ref (T := "tuple") (U := "int") (by decide) ⟨_, ho, rfl⟩ (fun s' => typeIs_int s' 0 t) noFill_tuple_mul F.fills_int_mul F.slot_int_rmul repeat_tuple F.slot_int_index.lookup
      (call_meets F.slot_int_rmul (typeIs_int s 0 t) F.entry_int_rmul (F.args_int_rmul_2 _ _) (int_rmul_tuple 0 t l its.toArray n dd sl)
        ⟨ho, rfl, ⟨_, ho, rfl⟩, call_meets F.slot_tuple_mul ⟨_, ho, rfl⟩ F.entry_tuple_mul (F.args_tuple_mul_2 _ _) (tuple_mul0 l its.toArray n dd sl 0 t (by decide) (by rw [hi]; rfl) (by simp)) ⟨ho, ?_⟩⟩)
    refine ⟨.ref s.heap.objs.size, _, I.laid (t' := s.toks) (o := .tup []) (fun b ob q => Heap.get?_push_of_some _ q) (Nat.le_refl _) ?_, rfl, q _ (I.hok.fresh (Nat.le_refl _))⟩
    exact ⟨Nat.zero_le _, [], .nil, IsTup.new _ _⟩
/-! ### pots -/
/-- at p stands a pot out of which at most n draws came by reckoning -/
def PotA (p : Addr) (n : Nat) (H : Hp) : Prop := ∃ xs, H p = some (.lst xs) ∧ PotL n xs
theorem PotA.up {p : Addr} {n m : Nat} {H : Hp} (h : PotA p n H) (k : n ≤ m) : PotA p m H := by
  obtain ⟨xs, e, q⟩ := h
  exact ⟨xs, e, q.up k⟩
theorem PotA.same {p : Addr} {n : Nat} {H H' : Hp} (h : PotA p n H) (s : Same H H') : PotA p n H' := by
  obtain ⟨xs, e, q⟩ := h
  exact ⟨xs, s _ _ e, q⟩
theorem PotA.new {p q : Addr} {n : Nat} {H : Hp} {o : HO} (h : PotA p n H) (nq : H q = none) : PotA p n (upd H q o) := h.same (same_put nq)
theorem PotA.ne {p q : Addr} {n : Nat} {H : Hp} (h : PotA p n H) (nq : H q = none) : p ≠ q := by
  obtain ⟨xs, e, _⟩ := h
  exact ne_of_none e nq
theorem PotA.put {p l : Addr} {n : Nat} {H : Hp} {o : HO} (h : PotA p n H) (ne : p ≠ l) : PotA p n (upd H l o) := by
  obtain ⟨xs, e, q⟩ := h
  exact ⟨xs, by rw [upd_ne ne]; exact e, q⟩
theorem PotA.kt {p : Addr} {n : Nat} {H H' : Hp} (h : PotA p n H) (b : Bu p H H') : Kt H H' := by
  obtain ⟨xs, e, _⟩ := h
  exact b.kt e
/-- tuples stay, while a pot is drawn from -/
theorem Da.bu {K : PySem.W.Frag} {p : Addr} {n : Nat} {H H' : Hp} {u : V} {d : PyData} (hd : Da K H u d) (ht : tupD d = true) (h : PotA p n H) (b : Bu p H H') : Da K H' u d := hd.kt (h.kt b) ht
theorem Bu.same {p : Addr} {H H1 H2 : Hp} (b : Bu p H H1) (s : Same H1 H2) : Bu p H H2 := b.trans (.of s)
def spDraw : Sp := fun vs H Q _ => ∃ (p : Addr) (m : Int) (n : Nat), vs = [.ref p, .int m] ∧ PotA p n H ∧ n < 10000000 ∧ 0 < m ∧ m.natAbs.log2 < 9000 ∧ ∀ H' d, Bu p H H' → PotA p (n + 1) H' → 0 ≤ d → d < m → Q (.int d) H'
def spPick (K : PySem.W.Frag) : Sp := fun vs H Q _ => ∃ (p q : Addr) (zs : List V) (n : Nat), vs = [.ref p, .ref q] ∧ PotA p n H ∧ n < 10000000 ∧ p ≠ q ∧ SqL K H q zs ∧ zs ≠ [] ∧ zs.length ≤ 1000000 ∧
  ∀ H' v, Bu p H H' → PotA p (n + 1) H' → v ∈ zs → Q v H'
def spPotS (K : PySem.W.Frag) : Sp := fun vs H Q _ => ∃ (a : Addr) (ns : List Int) (k : Int), vs = [.ref a, .int k] ∧ SqL K H a (ns.map V.int) ∧ 0 ≤ k ∧ k ≤ 1000 ∧ ∀ H' p, H p = none → Same H H' → PotA p 0 H' → Q (.ref p) H'
theorem log_i {m : Int} {k : Nat} (h1 : 0 ≤ m) (h2 : m < (2 ^ k : Nat)) (h0 : 0 < k) (hk : k ≤ 9000) : m.natAbs.log2 < 9000 :=
  Nat.lt_of_lt_of_le (PySem.Flt.log2_lt_of h0 (show m.natAbs < 2 ^ k by omega)) hk
/-! ### tuples joined; comprehensions whose elements are plain values -/
section
variable {K : PySem.W.Frag} {H0 : Hp} {σ : L2.St} {te ti : TE}
theorem cat_val {H : Hp} {x y : V} {ds es : List PyData} {Q : VK} (hx : Da K H x (.tuple ds)) (hy : Da K H y (.tuple es)) (hl : ds.length + es.length ≤ sizeLine)
    (q : ∀ H' u, Same H H' → Da K H' u (.tuple (ds ++ es)) → Q u H') : rCatA K x y H Q := by
  cases hx with
  | @tup a xs _ hs ha =>
  cases hy with
  | @tup b ys _ ht hb =>
  have l1 := daAll_len ha
  have l2 := daAll_len hb
  refine ⟨a, b, xs, ys, rfl, rfl, hs, ht, by omega, fun e => ?_, fun _ e => ?_, fun _ _ p np => ?_⟩
  · subst e
    cases ha
    exact q H _ Same.rfl' (.tup ht hb)
  · subst e
    cases hb
    refine q H _ Same.rfl' ?_
    rw [List.append_nil]
    exact .tup hs ha
  · exact q _ _ (same_put np) (.tup (xs := xs ++ ys) (.inl (.inl upd_same)) ((da_app ha hb).mono (same_put np)))
theorem g_lcT1 {ds : List PyData} {ys : List V} {g : TG} {vs : List Nat} (hi : ∀ (H : Hp) (Q : VK), Same H0 H → (∀ H' l us, Same H H' → SqT K H' l us → DaAll K H' us ds → Q (.ref l) H') → ti σ H Q) (hz : ds.length ≤ 1000000) (hl : ys.length = ds.length)
    (he : ∀ (j : Nat) (x y : V) (d : PyData), ds[j]? = some d → ys[j]? = some y → ∀ (H : Hp) (R : VK), Same H0 H → Da K H x d → (∀ H', Same H H' → R y H') → g x (wipe σ vs) H fun σ2 H2 => wipe σ2 vs = wipe σ vs ∧ te σ2 H2 R) :
    Gives H0 (tLc (iTup K ti) g tYes te vs) (gLst (ys.map gEq)) σ := fun H Q s q => by
  refine hi H _ s fun H1 l us s1 hl1 ha => ⟨l, rfl, ⟨us, hl1⟩, fun D nD => ?_⟩
  have sl := sizeLine_eq
  have hlen := daAll_len ha
  refine lc_tup (K := K) (a := l) (xs := us) (fun k H' => Same H1 H' ∧ H' D = some (.lst (ys.take k))) ⟨same_put nD, upd_same⟩ (fun k H' _ ⟨s', _⟩ => seqT_mono s' hl1) ?_ ?_
  · rintro k x H' hk ⟨s', eD⟩
    obtain ⟨d, hd, hx⟩ := daAll_at ha hk
    have hkl : k < ds.length := (List.getElem?_eq_some_iff.mp hd).1
    have hk' : k < ys.length := by omega
    have hy := List.getElem?_eq_getElem hk'
    refine cast ?_ (he k x ys[k] d hd hy H' (fun y' H4 => ∃ acc, H4 D = some (.lst acc) ∧ acc.length < sizeLine ∧ Same H1 (upd H4 D (.lst (acc ++ [y']))) ∧ upd H4 D (.lst (acc ++ [y'])) D = some (.lst (ys.take (k + 1))))
      (s.trans (s1.trans s')) (hx.mono s') (fun H4 s4 => ⟨_, s4 _ _ eD, ?_, ?_, ?_⟩))
    · rfl
    · rw [List.length_take]
      omega
    · intro b o e
      rw [upd_ne (ne_of_none e nD)]
      exact s4 _ _ (s' _ _ e)
    · rw [upd_same, List.take_add_one, hy]
      rfl
  · rintro H' ⟨s', eD⟩
    rw [hlen, ← hl, List.take_length] at eD
    exact q H' _ (s1.trans s') ⟨D, _, rfl, eD, allEq⟩
theorem g_lcL1 {ds : List PyData} {ys : List V} {g : TG} {vs : List Nat} (hi : ∀ (H : Hp) (Q : VK), Same H0 H → (∀ H' l us, Same H H' → SqL K H' l us → DaAll K H' us ds → Q (.ref l) H') → ti σ H Q) (hz : ds.length ≤ 1000000) (hl : ys.length = ds.length)
    (he : ∀ (j : Nat) (x y : V) (d : PyData), ds[j]? = some d → ys[j]? = some y → ∀ (H : Hp) (R : VK), Same H0 H → Da K H x d → (∀ H', Same H H' → R y H') → g x (wipe σ vs) H fun σ2 H2 => wipe σ2 vs = wipe σ vs ∧ te σ2 H2 R) :
    Gives H0 (tLc (iList K ti) g tYes te vs) (gLst (ys.map gEq)) σ := fun H Q s q => by
  refine hi H _ s fun H1 l us s1 hl1 ha => ⟨l, rfl, ⟨us, hl1⟩, fun D nD => ?_⟩
  have sl := sizeLine_eq
  have hlen := daAll_len ha
  refine lc_list (K := K) (a := l) (xs := us) (fun k H' => Same H1 H' ∧ H' D = some (.lst (ys.take k))) ⟨same_put nD, upd_same⟩ (fun k H' _ ⟨s', _⟩ => s'.seq hl1) ?_ ?_
  · rintro k x H' hk ⟨s', eD⟩
    obtain ⟨d, hd, hx⟩ := daAll_at ha hk
    have hkl : k < ds.length := (List.getElem?_eq_some_iff.mp hd).1
    have hk' : k < ys.length := by omega
    have hy := List.getElem?_eq_getElem hk'
    refine cast ?_ (he k x ys[k] d hd hy H' (fun y' H4 => ∃ acc, H4 D = some (.lst acc) ∧ acc.length < sizeLine ∧ Same H1 (upd H4 D (.lst (acc ++ [y']))) ∧ upd H4 D (.lst (acc ++ [y'])) D = some (.lst (ys.take (k + 1))))
      (s.trans (s1.trans s')) (hx.mono s') (fun H4 s4 => ⟨_, s4 _ _ eD, ?_, ?_, ?_⟩))
    · rfl
    · rw [List.length_take]
      omega
    · intro b o e
      rw [upd_ne (ne_of_none e nD)]
      exact s4 _ _ (s' _ _ e)
    · rw [upd_same, List.take_add_one, hy]
      rfl
  · rintro H' ⟨s', eD⟩
    rw [hlen, ← hl, List.take_length] at eD
    exact q H' _ (s1.trans s') ⟨D, _, rfl, eD, allEq⟩
theorem hi_tup {i : Nat} {x : V} {ds : List PyData} (hv : σ[i]? = some (some x)) (hd : Da K H0 x (.tuple ds)) :
    ∀ (H : Hp) (Q : VK), Same H0 H → (∀ H' l us, Same H H' → SqT K H' l us → DaAll K H' us ds → Q (.ref l) H') → tVar i σ H Q := fun H Q s q => by
  have z := hd.mono s
  cases z with
  | @tup a xs _ hs ha => exact ⟨_, hv, q H a xs Same.rfl' hs ha⟩
theorem hi_lst {i : Nat} {x : V} {ds : List PyData} (hv : σ[i]? = some (some x)) (hd : Da K H0 x (.list ds)) :
    ∀ (H : Hp) (Q : VK), Same H0 H → (∀ H' l us, Same H H' → SqL K H' l us → DaAll K H' us ds → Q (.ref l) H') → tVar i σ H Q := fun H Q s q => by
  have z := hd.mono s
  cases z with
  | @lst a xs _ hs ha => exact ⟨_, hv, q H a xs Same.rfl' hs ha⟩
end
end Ev

/-! ## Lines and their sums -/
namespace Ev
open PySem PySem.Spec PyProof.Rows L2
/-- a list of data made of tuples -/
def gLd (K : PySem.W.Frag) (es : List PyData) : GP := ⟨fun H u => ∃ l us, u = .ref l ∧ H l = some (.lst us) ∧ DaAll K H us es, fun s ⟨l, us, h1, h2, h3⟩ => ⟨l, us, h1, s _ _ h2, h3.mono s⟩⟩
section
variable {K : PySem.W.Frag} {H0 : Hp} {σ : L2.St} {te ti : TE}
theorem tupDs_take : ∀ {es : List PyData} (n : Nat), tupDs es = true → tupDs (es.take n) = true
  | [], n, h => by
    rw [List.take_nil]
    exact h
  | e :: es, 0, _ => by
    rw [List.take_zero, tupDs]
  | e :: es, n + 1, h => by
    rw [tupDs, Bool.and_eq_true] at h
    rw [List.take_succ_cons, tupDs, h.1, tupDs_take n h.2]
    rfl
/-- one more element of a comprehension's list -/
theorem lcD_more {H1 H4 H' : Hp} {D : Addr} {us : List V} {u : V} {es : List PyData} {e : PyData} {k : Nat} (nD : H1 D = none) (s' : Same H1 H') (s4 : Same H' H4) (eD : H' D = some (.lst us)) (ha : DaAll K H' us (es.take k)) (ht : tupDs es = true) (hk : es[k]? = some e) (hu : Da K H4 u e) :
    Same H1 (upd H4 D (.lst (us ++ [u]))) ∧ ∃ us', upd H4 D (.lst (us ++ [u])) D = some (.lst us') ∧ DaAll K (upd H4 D (.lst (us ++ [u]))) us' (es.take (k + 1)) := by
  have kt : Kt H4 (upd H4 D (.lst (us ++ [u]))) := Kt.put (s4 _ _ eD)
  have te : tupD e = true := by
    have z := tupDs_take (k + 1) ht
    rw [List.take_add_one, hk] at z
    exact tup_last z
  refine ⟨fun b o x => ?_, us ++ [u], upd_same, ?_⟩
  · rw [upd_ne (ne_of_none x nD)]
    exact s4 _ _ (s' _ _ x)
  · rw [List.take_add_one, hk]
    exact da_app (DaAll.kt ((Kt.of s4).trans kt) (tupDs_take k ht) ha) (.cons (Da.kt kt te hu) .nil)
where tup_last : ∀ {es : List PyData} {e : PyData}, tupDs (es ++ [e]) = true → tupD e = true
  | [], e, h => by
    rw [List.nil_append, tupDs, Bool.and_eq_true] at h
    exact h.1
  | d :: es, e, h => by
    rw [List.cons_append, tupDs, Bool.and_eq_true] at h
    exact tup_last h.2
theorem g_lcDL {ds es : List PyData} {g : TG} {vs : List Nat} (hi : ∀ (H : Hp) (Q : VK), Same H0 H → (∀ H' l us, Same H H' → SqL K H' l us → DaAll K H' us ds → Q (.ref l) H') → ti σ H Q) (hz : ds.length ≤ 1000000) (ht : tupDs es = true) (hl : es.length = ds.length)
    (he : ∀ (j : Nat) (x : V) (d e : PyData), ds[j]? = some d → es[j]? = some e → ∀ (H : Hp) (R : VK), Same H0 H → Da K H x d → (∀ H' u, Same H H' → Da K H' u e → R u H') → g x (wipe σ vs) H fun σ2 H2 => wipe σ2 vs = wipe σ vs ∧ te σ2 H2 R) :
    Gives H0 (tLc (iList K ti) g tYes te vs) (gLd K es) σ := fun H Q s q => by
  refine hi H _ s fun H1 l us s1 hl1 ha => ⟨l, rfl, ⟨us, hl1⟩, fun D nD => ?_⟩
  have sl := sizeLine_eq
  have hlen := daAll_len ha
  refine lc_list (K := K) (a := l) (xs := us) (fun k H' => Same H1 H' ∧ ∃ ws, H' D = some (.lst ws) ∧ DaAll K H' ws (es.take k)) ⟨same_put nD, [], upd_same, .nil⟩ (fun k H' _ ⟨s', _⟩ => s'.seq hl1) ?_ ?_
  · rintro k x H' hk ⟨s', ws, eD, hw⟩
    obtain ⟨d, hd, hx⟩ := daAll_at ha hk
    have hke : k < es.length := by
      have := (List.getElem?_eq_some_iff.mp hd).1
      omega
    have hek := List.getElem?_eq_getElem hke
    have hwl := daAll_len hw
    rw [List.length_take] at hwl
    refine cast ?_ (he k x d es[k] hd hek H' (fun y H4 => ∃ acc, H4 D = some (.lst acc) ∧ acc.length < sizeLine ∧ Same H1 (upd H4 D (.lst (acc ++ [y]))) ∧ ∃ ws, upd H4 D (.lst (acc ++ [y])) D = some (.lst ws) ∧ DaAll K (upd H4 D (.lst (acc ++ [y]))) ws (es.take (k + 1)))
      (s.trans (s1.trans s')) (hx.mono s') fun H4 u s4 hu => ⟨ws, s4 _ _ eD, by omega, lcD_more nD s' s4 eD hw ht hek hu⟩)
    rfl
  · rintro H' ⟨s', ws, eD, hw⟩
    rw [hlen, ← hl, List.take_length] at hw
    exact q H' _ (s1.trans s') ⟨D, ws, rfl, eD, hw⟩
theorem g_lcDT {a : Addr} {xs : List V} {es : List PyData} {g : TG} {vs : List Nat} {i : Nat} (hv : σ[i]? = some (some (.ref a))) (hx : SqT K H0 a xs) (hz : xs.length ≤ 1000000) (ht : tupDs es = true) (hl : es.length = xs.length)
    (he : ∀ (j : Nat) (x : V) (e : PyData), xs[j]? = some x → es[j]? = some e → ∀ (H : Hp) (R : VK), Same H0 H → (∀ H' u, Same H H' → Da K H' u e → R u H') → g x (wipe σ vs) H fun σ2 H2 => wipe σ2 vs = wipe σ vs ∧ te σ2 H2 R) :
    Gives H0 (tLc (iTup K (tVar i)) g tYes te vs) (gLd K es) σ := fun H Q s q => by
  refine ⟨_, hv, a, rfl, ⟨xs, seqT_mono s hx⟩, fun D nD => ?_⟩
  have sl := sizeLine_eq
  refine lc_tup (K := K) (a := a) (xs := xs) (fun k H' => Same H H' ∧ ∃ ws, H' D = some (.lst ws) ∧ DaAll K H' ws (es.take k)) ⟨same_put nD, [], upd_same, .nil⟩ (fun k H' _ ⟨s', _⟩ => seqT_mono (s.trans s') hx) ?_ ?_
  · rintro k x H' hk ⟨s', ws, eD, hw⟩
    have hke : k < es.length := by
      have := (List.getElem?_eq_some_iff.mp hk).1
      omega
    have hek := List.getElem?_eq_getElem hke
    have hwl := daAll_len hw
    rw [List.length_take] at hwl
    refine cast ?_ (he k x es[k] hk hek H' (fun y H4 => ∃ acc, H4 D = some (.lst acc) ∧ acc.length < sizeLine ∧ Same H (upd H4 D (.lst (acc ++ [y]))) ∧ ∃ ws, upd H4 D (.lst (acc ++ [y])) D = some (.lst ws) ∧ DaAll K (upd H4 D (.lst (acc ++ [y]))) ws (es.take (k + 1)))
      (s.trans s') fun H4 u s4 hu => ⟨ws, s4 _ _ eD, by omega, lcD_more nD s' s4 eD hw ht hek hu⟩)
    rfl
  · rintro H' ⟨s', ws, eD, hw⟩
    rw [← hl, List.take_length] at hw
    exact q H' _ s' ⟨D, ws, rfl, eD, hw⟩
end
def cntD (names : List Str) (c : Str → Int) : List (Key × V) := names.map fun n => (.inr n, .int (c n))
theorem cnt_val {names : List Str} {c : Str → Int} {x : Str} (h : x ∈ names) : valV (cntD names c) (.inr x) = some (.int (c x)) := by
  induction names with
  | nil => cases h
  | cons n names ih =>
    by_cases e : n = x
    · subst e
      exact valV_pos rfl
    · rw [show cntD (n :: names) c = ((.inr n, .int (c n)) : Key × V) :: cntD names c from rfl, valV_neg (fun z => e (Sum.inr.inj z))]
      exact ih ((List.mem_cons.mp h).resolve_left fun z => e z.symm)
theorem cnt_any {names : List Str} {c : Str → Int} {x : Str} : ((cntD names c).any fun kv => decide (kv.1 = .inr x)) = decide (x ∈ names) := by
  induction names with
  | nil => rfl
  | cons n names ih =>
    rw [show cntD (n :: names) c = ((.inr n, .int (c n)) : Key × V) :: cntD names c from rfl, List.any_cons, ih]
    by_cases e : n = x
    · subst e
      simp
    · have h1 : decide ((Sum.inr n : Key) = Sum.inr x) = false := decide_eq_false fun z => e (Sum.inr.inj z)
      have h2 : ¬ x = n := fun z => e z.symm
      show (decide ((Sum.inr n : Key) = Sum.inr x) || decide (x ∈ names)) = _
      rw [h1, Bool.false_or]
      exact decide_eq_decide.mpr ⟨fun z => List.mem_cons_of_mem _ z, fun z => (List.mem_cons.mp z).resolve_left h2⟩
theorem cnt_put {names : List Str} {c : Str → Int} {x : Str} {v : Int} (h : x ∈ names) : putK (cntD names c) (.inr x) (.int v) = cntD names fun n => if n = x then v else c n := by
  unfold putK
  rw [cnt_any, decide_eq_true h, if_pos rfl]
  unfold cntD
  rw [List.map_map]
  refine List.map_congr_left fun n _ => ?_
  show (if (Sum.inr n : Key) = Sum.inr x then _ else _) = ((.inr n, .int (if n = x then v else c n)) : Key × V)
  by_cases e : n = x
  · subst e
    rw [if_pos rfl]
    simp
  · rw [if_neg fun z => e (Sum.inr.inj z), if_neg e]
theorem cnt_new {names : List Str} {c : Str → Int} {x : Str} {v : Int} (h : x ∉ names) : putK (cntD names c) (.inr x) (.int v) = cntD names c ++ [(.inr x, .int v)] := by
  unfold putK
  rw [cnt_any, decide_eq_false h, if_neg Bool.false_ne_true]
/-- the sum of the numbers with the name n -/
def sumN (ps : List (Str × Int)) (n : Str) : Int := ((ps.filter fun p => decide (p.1 = n)).map (·.2)).sum
theorem sumN_snoc (ps : List (Str × Int)) (p : Str × Int) (n : Str) : sumN (ps ++ [p]) n = if n = p.1 then sumN ps n + p.2 else sumN ps n := by
  unfold sumN
  rw [List.filter_append, List.map_append, List.sum_append]
  by_cases e : p.1 = n
  · rw [if_pos e.symm]
    simp [e]
  · rw [if_neg fun z => e z.symm]
    simp [e]
theorem sumN_app (ps qs : List (Str × Int)) (n : Str) : sumN (ps ++ qs) n = sumN ps n + sumN qs n := by
  unfold sumN
  rw [List.filter_append, List.map_append, List.sum_append]
def totD (is : List It) (c : Str → Int) : PyData := .tuple ((linesI is).map fun n => pairD (n, c n))
theorem uniq_nd (xs : List Str) : (uniq [] xs).Nodup := uniq_nodup xs [] .nil
theorem lines_nd (is : List It) : (linesI is).Nodup := (srt_perm _).nodup_iff.mpr (uniq_nd _)
theorem lines_mem {is : List It} {x : Str} : x ∈ linesI is ↔ x ∈ (Its.sp 1 is).map (·.1) := by
  unfold linesI
  rw [(srt_perm _).mem_iff, uniq_mem]
  simp
theorem lines_len {is : List It} : (linesI is).length ≤ Its.nl is := by
  unfold linesI
  rw [(srt_perm _).length_eq]
  have z := uniq_len ((Its.sp 1 is).map (·.1)) []
  rw [List.length_map, Its.sp_len] at z
  have z0 : ([] : List Str).length = 0 := rfl
  omega
theorem sumN_nil (n : Str) : sumN [] n = 0 := rfl
mutual
/-- a line's ticks, r times -/
theorem It.sp_count (n : Str) (r : Int) : ∀ i : It, It.nn i → sumN (It.sp r i) n = r * ((It.w i).count n : Nat)
  | .line x t, h => by
    rw [It.nn] at h
    rw [It.sp, It.w]
    unfold sumN
    by_cases e : x = n
    · subst e
      rw [List.count_replicate_self]
      simp
      rw [Int.max_eq_left h]
    · rw [List.count_replicate, if_neg (by simpa using e)]
      simp [e]
  | .loop k is, h => by
    rw [It.nn] at h
    rw [It.sp, It.w, Its.sp_count n (r * k) is h.2, flat_count, Int.natCast_mul, Int.toNat_of_nonneg h.1, Int.mul_assoc]
theorem Its.sp_count (n : Str) (r : Int) : ∀ is : List It, Its.nn is → sumN (Its.sp r is) n = r * ((Its.w is).count n : Nat)
  | [], _ => by
    rw [Its.sp, Its.w, sumN_nil]
    simp
  | i :: is, h => by
    rw [Its.nn] at h
    rw [Its.sp, Its.w, sumN_app, It.sp_count n r i h.1, Its.sp_count n r is h.2, List.count_append, Int.natCast_add, Int.mul_add]
end
mutual
theorem It.sp_sum (r : Int) : ∀ i : It, It.nn i → ((It.sp r i).map (·.2)).sum = r * ((It.w i).length : Nat)
  | .line x t, h => by
    rw [It.nn] at h
    rw [It.sp, It.w, List.length_replicate, Int.toNat_of_nonneg h]
    simp
  | .loop k is, h => by
    rw [It.nn] at h
    rw [It.sp, It.w, Its.sp_sum (r * k) is h.2, flat_len, Int.natCast_mul, Int.toNat_of_nonneg h.1, Int.mul_assoc]
theorem Its.sp_sum (r : Int) : ∀ is : List It, Its.nn is → ((Its.sp r is).map (·.2)).sum = r * ((Its.w is).length : Nat)
  | [], _ => by
    rw [Its.sp, Its.w]
    simp
  | i :: is, h => by
    rw [Its.nn] at h
    rw [Its.sp, Its.w, List.map_append, List.sum_append, It.sp_sum r i h.1, Its.sp_sum r is h.2, List.length_append, Int.natCast_add, Int.mul_add]
end
theorem len_w {is : List It} (h : Its.nn is) : lenI is = ((Its.w is).length : Nat) := by
  unfold lenI
  rw [Its.sp_sum 1 is h, Int.one_mul]
theorem len_one {i : It} (h : It.nn i) : lenI [i] = ((It.w i).length : Nat) := by
  rw [len_w (by rw [Its.nn, Its.nn]; exact ⟨h, trivial⟩), w_one]
mutual
theorem It.sp_mem (x : Str) (r : Int) : ∀ i : It, It.ps i → (x ∈ (It.sp r i).map (·.1) ↔ x ∈ It.w i)
  | .line z t, h => by
    rw [It.ps] at h
    rw [It.sp, It.w, List.mem_replicate]
    simp
    intro e
    omega
  | .loop k is, h => by
    rw [It.ps] at h
    rw [It.sp, It.w, Its.sp_mem x (r * k) is h.2.2, mem_flat (by omega)]
theorem Its.sp_mem (x : Str) (r : Int) : ∀ is : List It, Its.ps is → (x ∈ (Its.sp r is).map (·.1) ↔ x ∈ Its.w is)
  | [], _ => by
    rw [Its.sp, Its.w]
    simp
  | i :: is, h => by
    rw [Its.ps] at h
    rw [Its.sp, Its.w, List.map_append, List.mem_append, List.mem_append, It.sp_mem x r i h.1, Its.sp_mem x r is h.2]
end
theorem lines_w {is : List It} (h : Its.ps is) {x : Str} : x ∈ linesI is ↔ x ∈ Its.w is := by
  rw [lines_mem, Its.sp_mem x 1 is h]
theorem lines_eq {is : List It} (h : Its.ps is) : linesI is = srtS (uniq [] (Its.w is)) := by
  unfold linesI
  refine srt_eq (uniq_nd _) (uniq_nd _) fun x => ?_
  rw [uniq_mem, uniq_mem, Its.sp_mem x 1 is h]
end Ev

/-! ## The row -/
namespace Ev
open PySem
def topS (i : Nat) : Stmt := PySem.Challenge.pw_evensamples_k61_limits_of_texts.main.body.getD i (.Pass ⟨0, 0, 0, 0⟩)
end Ev

/-! ## A caught exception that is kept: it is taken into the ledger before the clause's suite runs -/
namespace Ev
open PySem PySem.Spec PyProof.Rows L2
/-- an exception, as the ledger knows it -/
def XcO (a : Addr) (cls : Value) (d : Option Addr) : HO := .ext fun h => ∃ oe vs, h.get? a = some oe ∧ Zc cls d oe ∧ oe.data = .fields vs
/-- the ledger may learn of a: nothing else speaks of it -/
structure Room1 (X : Cx) (pins : List (Addr × Obj)) (H : Hp) (a : Addr) : Prop where
  led : H a = none
  ent : X.s_0.heap.get? a = none
  loc : X.env.locals ≠ a
  cel : ∀ x c, X.env.cells.lookup x = some c → c ≠ a
  pin : ∀ p ∈ X.pn ++ pins, p.1 ≠ a
theorem Room1.other {X : Cx} {pins : List (Addr × Obj)} {H : Hp} {a b : Addr} {u : HO} (r : Room1 X pins H a) (h : H b = some u) : b ≠ a := ne_of_none h r.led |> fun z => z
theorem Room1.same {X : Cx} {pins : List (Addr × Obj)} {H : Hp} {a b : Addr} {u o : HO} (r : Room1 X pins H a) (h : H b = some u) : upd H a o b = some u := (upd_ne (r.other h)).trans h
theorem upd_none {H : Hp} {a b : Addr} {o : HO} (n : b ≠ a) (h : H b = none) : upd H a o b = none := (upd_ne n).trans h
theorem learn {X : Cx} {pins : List (Addr × Obj)} {σ : L2.St} {H : Hp} {s : Shared} {a : Addr} {o : HO} (r : Room1 X pins H a) (I : Inv X pins σ H s) (here : ObjOk X.prog X.w (upd H a o) s.heap a o) : Inv X pins σ (upd H a o) s where
  ok := I.ok
  os := I.os
  bare := I.bare
  base := {
    keep := I.base.keep
    slot := I.base.slot
    free := fun b ob e n x => upd_none (fun z => nomatch (z ▸ e).symm.trans r.ent) (I.base.free b ob e n x)
    there := I.base.there
    tups := fun b xs e => r.same (I.base.tups b xs e)
    frzs := fun b ob u e => r.same (I.base.frzs b ob u e)
    tbls := fun b ps e => (I.base.tbls b ps e).imp fun _ q => r.same q }
  loc := I.loc
  cell := I.cell
  free := upd_none r.loc I.free
  freeC := fun x c e => upd_none (r.cel x c e) (I.freeC x c e)
  pin := fun p hp => (I.pin p hp).imp id fun q => ⟨upd_none (r.pin p hp) q.1, q.2⟩
  hok := fun b u e => by
    by_cases hb : b = a
    · cases hb
      cases upd_same.symm.trans e
      exact here
    · exact (I.hok b u ((upd_ne hb).symm.trans e)).stay (fun _ _ _ q => q) (fun _ q => r.same q) fun _ _ q => r.same q
  len := I.len
/-- an exception has come down to the ground of X -/
structure Down (X : Cx) (pins : List (Addr × Obj)) (σ : L2.St) (H : Hp) (a : Addr) (cls : Value) (d : Option Addr) (B h : Heap) (s : Shared) : Prop where
  fly : HandSPX.FlyingZ B (X.env :: X.outer) a (Zc cls d) h
  room : Room1 X pins H a
  inv : ∀ h', HandSPX.FlyingZ B (X.env :: X.outer) a (Zc cls d) h' → h.UpToSlots h' → Inv X pins σ H { s with heap := h' }
  up : ∀ h', h.UpToSlots h' → HandSPX.HeldZ B (X.env :: X.outer) a (Zc cls d) X.env.locals h' → ∀ W : WX, W cls d σ H → XE X W (.ref a) { s with heap := h' }
theorem come_down {X : Cx} {pins : List (Addr × Obj)} {xe : Value → Shared → Prop} {W : WX} {u : Value} {s : Shared} {Q : Flow → Shared → Prop} {E : Value → Shared → Prop} {hds : List ExceptHandler} (ok : X.Ok) (hs : X.stack = X.env :: X.outer) (hf : X.env.frame = some X.env.locals) (hex : X.ex = [])
    (x : XE (X.tr (X.pn ++ pins) xe) W u s)
    (k : ∀ a σ H cls d B h, u = .ref a → W cls d σ H → Down X pins σ H a cls d B h s → wpAny (model X.prog X.w) X.A (handleBy (.ref a) X.env hds) Q E { s with heap := h }) :
    wpAny (model X.prog X.w) X.A (noteFrame u X.env) (fun _ s2 => wpAny (model X.prog X.w) X.A (setFlight u none) (fun _ s3 => wpAny (model X.prog X.w) X.A (handleBy u X.env hds) Q E s3) E s2) E s := by
  obtain ⟨a, B, sI, ps, σ, H, cls, d, rfl, It, ground, up, sky, na, os, ag, w⟩ := x
  have I : Inv X pins σ H sI := It.ofTry ok
  have sky : Sky B (X.env :: X.outer) a (Zc cls d) X.env.locals s.heap := hs ▸ sky
  have frames : X.A.frames = some (X.env :: X.outer) := ok.frames.trans (congrArg some hs)
  refine Sky.land Zc.steady frames hf sky fun h fl up1 => k a σ H cls d B h rfl w ?_
  have noFrame : a ∉ frs (X.env :: X.outer) := fun m => by
    obtain ⟨oe, vs, ge, _, de⟩ := fl.there
    obtain ⟨_, o, go, no⟩ := fl.2.2.1.mem m
    exact no vs (Option.some.inj (go.symm.trans ge) ▸ de)
  have gone : sI.heap.get? a = none := Option.eq_none_iff_forall_not_mem.mpr fun o e => nomatch (ground a o e (hs ▸ noFrame)).symm.trans fl.2.1
  have not : ∀ {b : Addr} {o : Obj}, sI.heap.get? b = some o → b ≠ a := fun e z => nomatch (z ▸ e).symm.trans gone
  refine ⟨fl, ⟨na, ?_, ?_, fun x c e => ?_, fun p hp => not (I.pin p hp).1⟩, fun h' fl' up' => I.landed ground fl'.1 ((up.trans up1).trans up') os ag, fun h' up' held W' w' => ?_⟩
  · refine Option.eq_none_iff_forall_not_mem.mpr fun o e => ?_
    obtain ⟨o', e'⟩ := I.base.there a o e (hex ▸ List.not_mem_nil)
    exact not e' rfl
  · intro z
    exact noFrame (List.mem_filterMap.mpr ⟨X.env, List.mem_cons_self .., hf.trans (congrArg some z)⟩)
  · obtain ⟨v, o, e', _⟩ := I.cell x c e
    exact not e'
  · exact ⟨a, B, sI, pins, σ, H, cls, d, rfl, I, ground, (up.trans up1).trans up', .inr (.inr (hs ▸ held)), na, os, ag, w'⟩
end Ev
namespace Ev
open PySem PySem.Spec PyProof.Rows L2
section
variable {X : Cx} {pins : List (Addr × Obj)} {σ : L2.St} {H : Hp} {s : Shared} {a : Addr}
/-- into a clause's suite and out of it, with the same pins -/
theorem go_in (I : Inv X pins σ H s) : Inv (X.suite a (X.pn ++ pins)) [] σ H s where
  ok := I.ok.suite _ _
  os := I.os
  bare := I.bare
  base := I.base
  loc := I.loc
  cell := I.cell
  free := I.free
  freeC := I.freeC
  pin := by
    intro p hp
    exact I.pin p (List.append_nil (X.pn ++ pins) ▸ hp)
  hok := I.hok
  len := I.len
theorem go_out {q : List (Addr × Obj)} (ok : X.Ok) (I : Inv (X.suite a (X.pn ++ pins)) q σ H s) : Inv X pins σ H s where
  ok := ok
  os := I.os
  bare := I.bare
  base := I.base
  loc := I.loc
  cell := I.cell
  free := I.free
  freeC := I.freeC
  pin := fun p hp => I.pin p (List.mem_append_left q hp)
  hok := I.hok
  len := I.len
end
/-- the clause's own ends: its name goes -/
def lessE (D : Ends) (i : Nat) : Ends := ⟨fun σ H => D.nx (σ.set i none) H, D.rt, fun σ H => D.bk (σ.set i none) H, fun σ H => D.ct (σ.set i none) H⟩
/-- what 'except x as n' wishes of an exception that it catches and that is kept -/
def wKept (K : PySem.W.Frag) (c : Value) (i : Nat) (ts : TS) (D : Ends) : WX := fun cls d σ H =>
  PySem.W.exmOne K cls c = some true ∧ ∀ a, H a = none → ts (lessE D i) (σ.set i (some (.ref a))) (upd H a (XcO a cls d))
section
variable {X : Cx} {x n : Str} {c : Value} {i : Nat} {body suite : List Stmt} {b₀ : Stmt} {np pos pos' : Pos} {tb : WX → TS} {ts : TS}
/-- the clause is looked at -/
theorem look_clause {pins : List (Addr × Obj)} {σ : L2.St} {H : Hp} {a : Addr} {cls : Value} {d : Option Addr} {B h : Heap} {s : Shared} {D : Ends} (ok : X.Ok) (hf : X.env.frame = some X.env.locals) (hN : X.N.Nodup) (hi : X.N[i]? = some n) (hln : X.env.kindOf n = some .local) (hc : Names X x c)
    (hsu : ∀ (a : Addr) (pn : List (Addr × Obj)), PSs (X.suite a pn) (b₀ :: suite) ts) (dn : Down X pins σ H a cls d B h s) (w : wKept X.K c i ts D cls d σ H) :
    wpAny (model X.prog X.w) X.A (handleBy (.ref a) X.env [.ExceptHandler (some (.Name x np)) (some n) (b₀ :: suite) pos']) (SP X pins D) X.xe { s with heap := h } := by
  have here : Inv X pins σ H { s with heap := h } := dn.inv h dn.fly (Heap.UpToSlots.refl h)
  obtain ⟨oe, vs, ge, ze, de⟩ := dn.fly.there
  have cls_is : PySem.W.Looks (model X.prog X.w) h (typeOf (.ref a)) cls := fun A Q E t k q => wpAny_typeOf_ref (k a oe ge) (ze.1.symm ▸ q)
  have name : ∀ {Q : Value → Shared → Prop} {E : Value → Shared → Prop}, Q c { s with heap := h } → wpAny (model X.prog X.w) (X.A.mark (some (.ref a))) (eval (.Name x np) X.env) Q E { s with heap := h } := fun q =>
    match hc with
    | ⟨g, nd, .inl m⟩ => ld_glob (X := X.suite a (X.pn ++ pins)) (go_in here) g m q nd
    | ⟨g, nd, .inr ⟨m, v, nn⟩⟩ => ld_blt (X := X.suite a (X.pn ++ pins)) (go_in here) g m v q nn nd
  refine wpAny_handleBy_cons (codeAny_handlers_test (name ?_)) nofun
  obtain ⟨hit, w⟩ := w
  · refine (PySem.W.exm_one (M := model X.prog X.w) here.kIn cls_is hit).here (codeAny_handlers_suite_as (HandSPX.lands_againZ dn.fly fun h' fl' up' => ?_))
    obtain ⟨oe', vs', ge', ze', de'⟩ := fl'.there
    have known : Inv X pins σ (upd H a (XcO a cls d)) { s with heap := h' } :=
      learn dn.room (dn.inv h' fl' up') ⟨⟨oe', vs', ge', ze', de'⟩, ⟨oe', ge'⟩, fun _ _ ⟨o, v, g, z, e⟩ k => ⟨o, v, k o g, z, e⟩⟩
    refine store_ok (X := X.suite a (X.pn ++ pins)) (v := .ref a) (go_in known) hN hi (.inl hln) rfl (fun s5 J5 => ?_) (.inr hln)
    have run := (hsu a (X.pn ++ pins)).run [] s5 _ _ (lessE D i) J5 (w a dn.room.led)
    refine wpAny_mono run (fun f s6 e6 => ?_) fun _ _ z => z.elim
    have out : ∀ {σ6 : L2.St} {H6 : Hp} {Q : Shared → Prop}, Inv (X.suite a (X.pn ++ pins)) [] σ6 H6 s6 → (∀ s7, Inv X pins (σ6.set i none) H6 s7 → Q s7) → wpAny (model X.prog X.w) X.A (do bindName X.env n .none; unbindBehindTheSuite X.env n pos') (fun _ => Q) X.xe s6 := fun J q => gone_ok (go_out ok J) hN hi hln q
    match f, e6 with
    | .next, ⟨_, _, J, q⟩ => exact out J fun _ J' => ⟨_, _, J', q⟩
    | .brk, ⟨_, _, J, q⟩ => exact out J fun _ J' => ⟨_, _, J', q⟩
    | .cont, ⟨_, _, J, q⟩ => exact out J fun _ J' => ⟨_, _, J', q⟩
    | .ret u, ⟨_, _, _, J, r, q⟩ => exact out J fun _ J' => ⟨_, _, _, J', r, q⟩
/-- try: body / except x as n: suite, the exception kept -/
theorem ps_try_kept (hs : X.stack = X.env :: X.outer) (hf : X.env.frame = some X.env.locals) (hex : X.ex = []) (hN : X.N.Nodup) (hi : X.N[i]? = some n) (hln : X.env.kindOf n = some .local) (hc : Names X x c)
    (hb : ∀ (W : WX) (pn : List (Addr × Obj)) (xe : Value → Shared → Prop), Takes (X.tr pn xe) W → PSs (X.tr pn xe) body (tb W)) (hsu : ∀ (a : Addr) (pn : List (Addr × Obj)), PSs (X.suite a pn) (b₀ :: suite) ts) :
    PS X (.Try body [.ExceptHandler (some (.Name x np)) (some n) (b₀ :: suite) pos'] [] [] pos) (fun D => tb (wKept X.K c i ts D) D) where
  run pins s σ H D I h := by
    have caught : Takes (X.tr (X.pn ++ pins) _) (wKept X.K c i ts D) := fun u s' air => come_down I.ok hs hf hex air fun a σ' H' cls d B g e w dn => by
      exact look_clause (pos' := pos') (np := np) I.ok hf hN hi hln hc hsu dn w
    refine wpAny_Try_except (wpAny_mono ((hb _ _ _ caught).run [] s σ H D (I.toTry _) h) (fun f s1 e1 => ?_) fun _ _ z => z)
    match f, e1 with
    | .next, ⟨_, _, J, q⟩ => exact wpAny_execs_nil ⟨_, _, J.ofTry I.ok, q⟩
    | .brk, ⟨_, _, J, q⟩ => exact ⟨_, _, J.ofTry I.ok, q⟩
    | .cont, ⟨_, _, J, q⟩ => exact ⟨_, _, J.ofTry I.ok, q⟩
    | .ret u, ⟨_, _, _, J, r, q⟩ => exact ⟨_, _, _, J.ofTry I.ok, r, q⟩
end
end Ev

/-! ## A kept exception: its class, its field -/
namespace Ev
open PySem PySem.Spec PyProof.Rows L2
/-- what is written of an error class -/
structure ErrC (K : PySem.W.Frag) (C : Addr) : Prop where
  ox : OexC K C
  ga : PySem.W.findIn K (.ref C) "__getattribute__" = some (some (.builtin "BaseException.__getattribute__"))
  gt : PySem.W.findIn K (.ref C) "__getattr__" = some none
  ac : PySem.W.findIn K (.ref C) "__class__" = some (some (.builtin "object.__class__"))
  gs : PySem.W.specialIn K (.builtin "object.__class__") "__get__" = some (some (.builtin "getset_descriptor.__get__"))
  tk : PySem.W.takesIn K (.builtin "object.__class__") = some true
  mo : PySem.W.mroIn K C (.type "object") = some true
  cl : (PySem.W.clsIn K C).isSome = true
  hd : PySem.W.hasDictIn K C = true
/-- a kept exception of class C, with these fields (no dict where there are none) -/
def Kept (H : Hp) (a C : Addr) (fs : Option (List (Str × V))) : Prop := ∃ d : Option Addr, H a = some (XcO a (.ref C) d) ∧ match d, fs with
  | some d, some fs => H d = some (.xd fs)
  | none, none => True
  | _, _ => False
section
variable {X : Cx} {pins : List (Addr × Obj)} {σ : L2.St} {H : Hp} {s : Shared} {a C : Addr} {fs : Option (List (Str × V))}
/-- where it stands -/
theorem Kept.inst (I : Inv X pins σ H s) (k : Kept H a C fs) : ∃ (o : Obj) (od : Option Obj), PySem.W.InstAt s.heap a o C od ∧ ∀ l, fs = some l → ∃ (d : Addr) (mA : Str → Option Value), o.dict = some d ∧ s.heap.Ns1 d mA ∧ ∀ f, RelO (l.lookup f) (mA f) := by
  obtain ⟨d, ea, m⟩ := k
  obtain ⟨⟨o, vs, ho, hz, hd⟩, _⟩ := I.hok a _ ea
  match d, fs, m with
  | none, none, _ => exact ⟨o, none, ⟨ho, hz.1, by unfold PySem.W.notCls; rw [hd], by rw [hz.2]; trivial⟩, nofun⟩
  | some d, some l, m =>
    obtain ⟨mA, ns, rel⟩ := I.hok d _ m
    obtain ⟨od, hod, _⟩ := lookIn_ns ns
    exact ⟨o, some od, ⟨ho, hz.1, by unfold PySem.W.notCls; rw [hd], by rw [hz.2]; exact hod⟩, fun l' e => by cases e; exact ⟨d, mA, hz.2, ns, rel⟩⟩
theorem Kept.kit (I : Inv X pins σ H s) (k : Kept H a C fs) (T : ErrC X.K C) : ∃ P : Heap → Prop, PySem.W.KitX X.K (.ref a) (.ref C) P ∧ P s.heap := by
  obtain ⟨o, od, at_, _⟩ := k.inst I
  exact ⟨_, PySem.W.kitx_exc (ox := o) (od := od) T.cl T.ga T.gt T.ox.exC T.ac T.gs T.tk T.mo, at_⟩
end
/-- isinstance(kept, c), isinstance(kept, (c, ..)) -/
def rIsK (K : PySem.W.Frag) : List V → Hp → VK → Prop := fun xs H Q => ∃ (a C : Addr) (fs : Option (List (Str × V))) (c : V) (u : Value) (b : Bool), xs = [.ref a, c] ∧ Kept H a C fs ∧ ErrC K C ∧ ClsV c u ∧ PySem.W.kitOne K (.ref C) u = some b ∧ Q (.bl b) H
def rIsKT (K : PySem.W.Frag) : List V → Hp → VK → Prop := fun xs H Q => ∃ (a C : Addr) (fs : Option (List (Str × V))) (t : Addr) (cs : List V) (us : List Value) (b : Bool), xs = [.ref a, .ref t] ∧ Kept H a C fs ∧ ErrC K C ∧ H t = some (.tup cs) ∧ Paired ClsV cs us ∧ PySem.W.kitAny K (.ref C) us = some b ∧ Q (.bl b) H
/-- kept.f -/
def tAtK (K : PySem.W.Frag) (f : Str) (te : TE) : TE := fun σ H Q => te σ H fun x H1 => ∃ (a C : Addr) (l : List (Str × V)) (v : V), x = .ref a ∧ Kept H1 a C (some l) ∧ ErrC K C ∧ PySem.W.findIn K (.ref C) f = some none ∧ l.lookup f = some v ∧ Q v H1
section
variable {X : Cx}
theorem call_isK : CallR X (.builtin "isinstance") (rIsK X.K) := by
  rintro pins s σ H _ us Q I rel ⟨a, C, fs, c, u, b, rfl, kept, T, isC, kit, q⟩
  obtain ⟨v1, v2, rfl, r1, r2⟩ := vals2 rel
  cases r1
  cases isC.eq r2
  obtain ⟨P, Z, p⟩ := kept.kit I T
  exact PySem.W.kia_one Z I.kIn p kit nofun fun tk => ⟨.bl b, H, I.tok tk, rfl, q⟩
theorem call_isKT : CallR X (.builtin "isinstance") (rIsKT X.K) := by
  rintro pins s σ H _ us Q I rel ⟨a, C, fs, t, cs, ws, b, rfl, kept, T, tup, isC, kit, q⟩
  obtain ⟨v1, v2, rfl, r1, r2⟩ := vals2 rel
  cases r1
  cases r2
  obtain ⟨P, Z, p⟩ := kept.kit I T
  obtain ⟨_, its, vals, ⟨oc, od, dt, sl⟩, g, e1, n, e2⟩ := I.hok t _ tup
  cases (show oc = Value.type "tuple" from e1)
  cases (show dt = Data.seq its.toArray n from e2)
  cases ClsV.all isC vals
  exact PySem.W.kia_tup Z I.kIn p g kit nofun fun tk => ⟨.bl b, H, I.tok tk, rfl, q⟩
theorem pe_atK {e : Expr} {te : TE} {f : Str} {pos : Pos} (he : PE X e te) (hb : attributeBase e f X.env (eval e X.env) = eval e X.env := by rfl) : PE X (.Attribute e f pos) (tAtK X.K f te) where
  run pins s σ H Q I h := by
    refine attr_of hb (thn (he.run pins s σ H _ I h) ?_)
    rintro u s1 ⟨x, H1, I1, rx, a, C, l, v, rfl, kept, T, no, lk, q⟩
    cases rx
    obtain ⟨d, ea, m⟩ := kept
    obtain ⟨⟨o, vs, ho, hz, hd⟩, _⟩ := I1.hok a _ ea
    match d, m with
    | some d, m =>
      obtain ⟨mA, ns, rel⟩ := I1.hok d _ m
      obtain ⟨od, hod, look⟩ := lookIn_ns ns
      obtain ⟨w, hw, rw'⟩ := RelO.some_of (v := v) (o := mA f) (lk ▸ rel f)
      have at_ : PySem.W.InstAt s1.heap a o C (some od) := ⟨ho, hz.1, by unfold PySem.W.notCls; rw [hd], by rw [hz.2]; exact hod⟩
      exact HandSPX.exc_get I1.kIn at_ T.ga T.gt T.ox.exC (PySem.W.findObj_own T.hd no rfl ((look f).trans (hw ▸ rfl))) (handed_of rw') ⟨v, H1, I1.tok _, rw', q⟩
end
end Ev

/-! ## Defs that may raise -/
namespace Ev
open PySem PySem.Spec PyProof.Rows L2
/-- a def that keeps a promise or raises, ready to be called -/
structure CalX (P : Program) (w : World) (K : PySem.W.Frag) (mg : Str → Option Value) (base : Heap) (k : Nat) (x : Str) (ps : List Str) (sp : Sp) : Prop where
  ex : ∃ (f : Addr) (fd : FuncData), FnG P w K mg base (L2.CX P w) k f fd ps sp ∧ Binds K fd ps [] ∧ mg x = some (.ref f) ∧ PySem.W.keepIn K (.ref f) = true
section
variable {P : Program} {w : World} {K : PySem.W.Frag} {mg : Str → Option Value} {base : Heap} {x : Str} {st : Stmt} {ps N : List Str} {sp : Sp} {k : Nat}
theorem Def.okX (D : Def K mg x st ps) (S : FnScope N ps (defScope st)) (len : ∀ vs H Q E, sp vs H Q E → vs.length = ps.length)
    (walk : ∀ (f : Addr) (cdv : Value) (A : Around) (outer : List Env) (s : Shared) (H : Hp) (vs : List V) (Q : VK) (E : XK), Room k (A.deeper (envOfC x (defScope st) s.heap.objs.size f cdv)) → A.guards = some [] → sp vs H Q E →
      ∃ t, PSs (cxOf (L2.CX P w) P w K mg base N x (defScope st) f cdv A outer s H E) (defBody st) t ∧ t { nx := fun _ H' => Q .non H', rt := Q } (start N vs) H) : CalX P w K mg base (k + 1) x ps sp := by
  obtain ⟨f, fd, F, b, m⟩ := D.ex
  obtain ⟨oc, od, kV, doc, pm, an, cdv, ct, osl, e, lk, hcd⟩ := id F.ex
  cases e
  exact ⟨f, _, fnG_of lk hcd S len fun A outer s H vs Q E hr gd h => walk f cdv A outer s H vs Q E hr gd h, b, m, F.kp⟩
end
section
variable {X : Cx} {k : Nat} {ps : List Str} {sp : Sp} {x : Str} {p pos : Pos} {e : Expr} {es : List Expr} {t : TA} {W : WX}
/-- f(e, ..), where W takes what f raises -/
theorem pcallX (C : CalX X.prog X.w X.K X.mg X.base k x ps sp) (hr : Room k X.A) (gd : X.A.guards = some []) (hg : Gl X x) (tk : Takes X W) (ha : PA X (e :: es) t)
    (hdb : (x == ("__debug__" : Str)) = false := by decide) (he : starEach (e :: es) X.env = (false, eval e X.env) :: starEach es X.env := by rfl) (hpl : (backTo pos (starEach es X.env)).any (·.1) = false := by rfl) :
    PE X (.Call (.Name x p) (e :: es) [] pos) (tCallS sp (WE W) t) where
  run pins s σ H Q I h := by
    obtain ⟨f, fd, F, hb, hm, hk⟩ := C.ex
    have args := ha.run pos pins s σ H _ I h
    refine wpAny_Call_Name_kw (ld_glob I hg hm (PySem.W.callWith_K (h₀ := X.base) I.ok.mod.kin hk (thn args ?_) he hpl) hdb)
    rintro us s1 ⟨vs, H1, I1, rel, q⟩
    have l : us.length = ps.length := (rel.length).symm.trans (F.many _ _ _ _ q)
    have bound := hb s1 us I1.kIn (by rw [List.append_nil]; exact l)
    rw [List.append_nil] at bound
    refine ⟨I1.kIn, wpAny_call (codeAny_mono (F.go X.A X.stack s1 H1 ⟨us, []⟩ us vs Q (WE W σ) hr gd I1.env0 bound rel q) fun res s2 out => ?_)⟩
    match res, out with
    | .error er, out => exact passAt tk σ pins H1 s1 er s2 I1 out
    | .ok (.ret v), out => exact I1.after out
end
end Ev

/-! ## raise C(v), C an error class with one field or none -/
namespace Ev
open PySem PySem.Spec PyProof.Rows L2
section
variable {X : Cx} {o e : Expr} {es : List Expr} {to te : TE} {ta : TA} {f x : Str} {p p' p1 p2 pos : Pos}
/-- S.__init__(self, ..) of an own class S that has none itself -/
theorem pe_seInit {pl : Sem Bool} {S : Addr} (hg : Gl X x) (hm : X.mg x = some (.ref S))
    (sg : PySem.W.specialIn X.K (.ref S) "__getattribute__" = some (some (.builtin "type.__getattribute__")))
    (rd : PySem.W.readsIn X.K S (.type "type") = true)
    (vV : PySem.W.findCls X.K (.ref S) (.type "type") "__init__" = some (.val (.builtin "ValueError.__init__")))
    (ha : PA X (e :: es) ta) (hdb : (x == ("__debug__" : Str)) = false := by decide)
    (hc : eval (.Call (.Attribute (.Name x p1) "__init__" p2) (e :: es) [] pos) X.env = (eval (.Name x p1) X.env >>= fun ov =>
      standAt p2.atName >>= fun _ => holding [ov] (getMethod ov "__init__" pl) >>= fun fx =>
      callWith pos fx.1 fx.2 (backTo pos (starEach (e :: es) X.env)) (backToKw pos (keywordEach [] X.env))) := by rfl)
    (he : starEach (e :: es) X.env = (false, eval e X.env) :: starEach es X.env := by rfl)
    (hpl : (backTo pos (starEach es X.env)).any (·.1) = false := by rfl) :
    PE X (.Call (.Attribute (.Name x p1) "__init__" p2) (e :: es) [] pos) (tVeI X.K ta) := by
  constructor
  intro pins s σ H Q I h
  refine PySem.W.methodCall_KW (ld_glob I hg hm ?_ hdb) hc
  refine PySem.W.method_cls I.kIn sg (PySem.W.cls_value (mc := .type "type") I.kIn rd vV (by decide +kernel) ?_)
  have z := ha.run pos pins _ σ H _ (I.tok (s.toks + 1)) h
  refine PyProof.Rows.callWith_method1 (first := []) (thn z ?_) he hpl
  rintro us s1 ⟨vs, H1, I1, r1, a, C, ws, ev, hl, T, ea, q⟩
  subst ev
  cases r1 with
  | @cons _ u0 _ ur ra rt =>
    obtain rfl : u0 = Value.ref a := ra
    have hlen : ur.length ≤ sizeLine := by
      have z := Paired.length rt
      have y := sizeLine_eq
      omega
    exact oinit_ok T I1 ea hlen fun s' J => ⟨.non, H1, J, rfl, q⟩

end
/-- the errors' common base -/
structure BaseT (K : PySem.W.Frag) (mg : Str → Option Value) (S : Addr) : Prop where
  g : mg "SampleError" = some (.ref S)
  sg : PySem.W.specialIn K (.ref S) "__getattribute__" = some (some (.builtin "type.__getattribute__"))
  rd : PySem.W.readsIn K S (.type "type") = true
  vV : PySem.W.findCls K (.ref S) (.type "type") "__init__" = some (.val (.builtin "ValueError.__init__"))
def spInit1 (C : Addr) (f : Str) : Sp := fun vs H Q _ => ∃ (a : Addr) (v : V), vs = [.ref a, v] ∧ H a = some (exo a C none) ∧ ∀ dx, H dx = none → dx ≠ a → Q .non (upd (upd H dx (exd dx [(f, v)])) a (exo a C (some dx)))
/-- an error class with the field f, ready to be raised -/
structure Err1 (P : Program) (w : World) (K : PySem.W.Frag) (mg : Str → Option Value) (base : Heap) (x : Str) (C : Addr) (f : Str) : Prop where
  g : mg x = some (.ref C)
  cls : ErrC K C
  fld : PySem.W.findIn K (.ref C) f = some none
  ini : ∃ (fI : Addr) (fd : FuncData), PySem.W.findIn K (.ref C) "__init__" = some (some (.ref fI)) ∧ PySem.W.typeIn K (.ref fI) = some (.type "function") ∧ FnOk P w K mg base CX0 1 fI fd ["self", f] (spInit1 C f) ∧ Binds K fd ["self", f] []
theorem field_only {H : Hp} {a d : Addr} {C : Addr} {f : Str} {v : V} (na : H a = none) (da : d ≠ a) : upd (del (upd (upd (upd H a (exo a C none)) d (exd d [(f, v)])) a (exo a C (some d))) a) d (.xd [(f, v)]) = upd H d (.xd [(f, v)]) := by
  funext b
  by_cases hd : b = d
  · subst hd
    rw [upd_same, upd_same]
  · rw [upd_ne hd, upd_ne hd]
    by_cases ha : b = a
    · subst ha
      exact del_same.trans na.symm
    · rw [del_ne ha, upd_ne ha, upd_ne hd, upd_ne ha]
section
variable {X : Cx} {x : Str} {C : Addr} {f : Str} {e : Expr} {te : TE} {W : WX} {p pos pos' : Pos}
/-- raise C(e): the exception's own dict d holds the field -/
theorem ps_raise1 (R : Err1 X.prog X.w X.K X.mg X.base x C f) (hc : X.calm = true) (hr : Room 2 X.A) (hg : Gl X x) (tk : Takes X W) (he : PE X e te) (hdb : (x == ("__debug__" : Str)) = false := by decide)
    (h1 : starEach [e] X.env = (false, eval e X.env) :: starEach [] X.env := by rfl) : PS X (.Raise (some (.Call (.Name x p) [e] [] pos)) none pos') (fun _ σ H => tMkO C (spInit1 C f) [] (tCons te tNil) σ H fun cls d H' => W cls d σ H') := by
  obtain ⟨fI, fd, iC, tI, F, b⟩ := R.ini
  exact ps_raise hc tk (pmk_oex (pos := pos) (p := p) R.cls.ox iC tI F hr b .nil pass0 hg R.g (pa_cons he pa_nil h1) hdb h1 rfl)
theorem raise1_go {H : Hp} {v : V} {Q : XK} (q : ∀ d, H d = none → Q (.ref C) (some d) (upd H d (.xd [(f, v)]))) : [v].length ≤ 1000 ∧ ∀ a, H a = none → spInit1 C f (.ref a :: ([v] ++ [])) (upd H a (exo a C none))
    (fun u H2 => u = .non ∧ ∃ (d : Addr) (fs : List (Str × V)), H2 a = some (exo a C (some d)) ∧ H2 d = some (exd d fs) ∧ H d = none ∧ Q (.ref C) (some d) (upd (del H2 a) d (.xd fs))) (fun _ _ _ => False) := by
  refine ⟨(by show 1 ≤ 1000; decide), fun a na => ⟨a, v, rfl, upd_same, fun d nd da => ⟨rfl, d, [(f, v)], upd_same, ?_, ?_, ?_⟩⟩⟩
  · rw [upd_ne da]
    exact upd_same
  · rw [upd_ne da] at nd
    exact nd
  · rw [field_only na da]
    rw [upd_ne da] at nd
    exact q d nd
end
end Ev

/-! ## raise C(), C an error class whose __init__ takes self alone -/
namespace Ev
open PySem PySem.Spec PyProof.Rows L2
def spInit0 (C : Addr) : Sp := fun vs H Q _ => ∃ a : Addr, vs = [.ref a] ∧ H a = some (exo a C none) ∧ Q .non H
/-- such a class, ready to be raised -/
structure Err0 (P : Program) (w : World) (K : PySem.W.Frag) (mg : Str → Option Value) (base : Heap) (x : Str) (C : Addr) : Prop where
  g : mg x = some (.ref C)
  cls : ErrC K C
  ini : ∃ (fI : Addr) (fd : FuncData), PySem.W.findIn K (.ref C) "__init__" = some (some (.ref fI)) ∧ PySem.W.typeIn K (.ref fI) = some (.type "function") ∧ FnOk P w K mg base CX0 1 fI fd ["self"] (spInit0 C) ∧ Binds K fd ["self"] []
section
variable {X : Cx} {x : Str} {C : Addr} {W : WX} {p pos pos' : Pos}
/-- C(): a new error, held as a value -/
theorem pe_err0 (R : Err0 X.prog X.w X.K X.mg X.base x C) (hr : Room 2 X.A) (hg : Gl X x) (hdb : (x == ("__debug__" : Str)) = false := by decide) :
    PE X (.Call (.Name x p) [] [] pos) (fun _ H Q => ∀ a, H a = none → Q (.ref a) (upd H a (exo a C none))) := by
  constructor
  intro pins s σ H Q I q
  obtain ⟨fI, fd, iC, tI, F1, hb⟩ := R.ini
  have T := R.cls.ox
  obtain ⟨nm, qn, N, bs, bm, sn, sub, ab, col, dd, k0, k1, k2, k3, k5, hC, hbm⟩ := T.cls
  refine wpAny_Call_Name_kw (ld_glob I hg R.g (PySem.W.callWith_K0 I.kIn T.kC ?_) hdb)
  obtain ⟨hp, g, dr, tk, os⟩ := s
  have hsz : hp.objs.size ≤ hp.objs.size + 1 := Nat.le_succ _
  have hn : H (hp.objs.size + 1) = none := I.hok.fresh hsz
  have there : ((hp.push (PySem.W.kdv_tup [])).push (PySem.HandSPX.excO C hp.objs.size)).get? (hp.objs.size + 1) = some (PySem.HandSPX.excO C hp.objs.size) := by heap_get
  have old : ∀ b o, hp.get? b = some o → ((hp.push (PySem.W.kdv_tup [])).push (PySem.HandSPX.excO C hp.objs.size)).get? b = some o := fun b o e => Heap.get?_push_of_some _ (Heap.get?_push_of_some _ e)
  have J : Inv X pins σ (upd H (hp.objs.size + 1) (exo (hp.objs.size + 1) C none)) ⟨_, g, dr, tk, os⟩ := I.laid (t' := tk) old hsz (exo_ok there)
  have bt := hb _ [Value.ref (hp.objs.size + 1)] J.kIn rfl
  have run := F1.run _ X.stack _ _ ⟨[Value.ref (hp.objs.size + 1)], []⟩ [Value.ref (hp.objs.size + 1)] [V.ref (hp.objs.size + 1)] (fun v H2 => v = .non ∧ Q (.ref (hp.objs.size + 1)) H2) E0 (hr.make C [] []) (J.env0.make C [] []) bt (.cons rfl .nil)
    ⟨_, rfl, upd_same, rfl, q _ hn⟩
  refine wpAny_call (PySem.HandSPX.call_own F.excBase_ValueError (fun Y => PySem.HandSPX.refsVE_contains Y bm hbm) (I.kIn _ _ hC) (PySem.W.looks_findIn I.kIn iC) (fun self => PySem.W.bind_fn I.kIn self tI) (Nat.zero_le _) (codeAny_mono run fun r s' z => ?_))
  match r, z with
  | .error er, z => exact pass0 pins σ _ _ er s' J z
  | .ok .next, z => exact False.elim z
  | .ok .brk, z => exact False.elim z
  | .ok .cont, z => exact False.elim z
  | .ok (.ret u), z =>
    obtain ⟨v, H2, J2, rv, ev, q2⟩ := (J.after z : EP X pins σ _ u s')
    subst ev
    obtain rfl : u = Value.none := rv
    exact ⟨rfl, .ref _, H2, J2, rfl, q2⟩
/-- raise C() -/
theorem ps_raise0 (R : Err0 X.prog X.w X.K X.mg X.base x C) (hc : X.calm = true) (hx : X.ex = []) (hr : Room 2 X.A) (hg : Gl X x) (tk : Takes X W) (hdb : (x == ("__debug__" : Str)) = false := by decide) :
    PS X (.Raise (some (.Call (.Name x p) [] [] pos)) none pos') (fun _ σ H => ∀ a, H a = none → Fr0 X.H_0 a ∧ W (.ref C) none σ H) := by
  refine ps_raise (t := fun σ H Q => ∀ a, H a = none → Fr0 X.H_0 a ∧ Q (.ref C) none H) hc tk fun pins s σ H Q I h => ?_
  refine wpAny_mono ((pe_err0 R hr hg hdb).run pins s σ H (fun v H1 => ∃ a, v = .ref a ∧ H a = none ∧ H1 = upd H a (exo a C none)) I fun a na => ⟨a, rfl, na, rfl⟩) (fun u s1 hu => ?_) fun _ _ z => z
  obtain ⟨v, H1, J, rv, a, rfl, na, rfl⟩ := hu
  obtain rfl : u = Value.ref a := rv
  obtain ⟨fr, q⟩ := h a na
  obtain ⟨t1, ho⟩ := exo_at J.hok (upd_same (H := H) (a := a) (o := exo a C none))
  obtain ⟨G, g1, g2, J'⟩ := J.untrack upd_same fr hx
  rw [delH_new na] at J'
  exact ⟨a, _, _, { s1 with heap := G }, H, .ref C, none, rfl, J', g1, g2, ho, ⟨rfl, rfl⟩, rfl, rfl, na, rfl, J.bare, raises_own R.cls.ox.exC R.cls.ox.tyC, q⟩
end
end Ev

/-! ## Methods of own classes -/
namespace Ev
open PySem PySem.Spec PyProof.Rows L2
/-- a method of a class, ready to be called -/
structure MCal (P : Program) (w : World) (K : PySem.W.Frag) (mg : Str → Option Value) (base : Heap) (k : Nat) (C : Addr) (m : Str) (ps : List Str) (sp : Sp) : Prop where
  ex : ∃ (f : Addr) (fd : FuncData), FnOk P w K mg base CX0 k f fd ps sp ∧ Binds K fd ps [] ∧ Meth K C m f
/-- a method as it is written -/
structure MDef (K : PySem.W.Frag) (C : Addr) (m q : Str) (st : Stmt) (ps : List Str) : Prop where
  ex : ∃ (f : Addr) (fd : FuncData), Fun K m q st f fd ∧ Binds K fd ps [] ∧ Meth K C m f
section
variable {P : Program} {w : World} {K : PySem.W.Frag} {mg : Str → Option Value} {base : Heap} {x q : Str} {st : Stmt} {ps N : List Str} {sp : Sp} {k j : Nat} {C : Addr}
theorem MCal.up (M : MCal P w K mg base j C x ps sp) (h : j ≤ k) : MCal P w K mg base k C x ps sp := by
  obtain ⟨f, fd, F, b, m⟩ := M.ex
  exact ⟨f, fd, ⟨F.len, fun A o s H args us vs Q E hr => F.run A o s H args us vs Q E (hr.mono h)⟩, b, m⟩
theorem MDef.ok (D : MDef K C x q st ps) (S : FnScope N ps (defScope st)) (len : ∀ vs H Q E, sp vs H Q E → vs.length = ps.length)
    (hbody : ∀ (f : Addr) (cdv : Value) (A : Around) (outer : List Env) (s : Shared) (H : Hp) (vs : List V) (Q : VK) (E : XK),
      Room k (A.deeper (envOfC q (defScope st) s.heap.objs.size f cdv)) → sp vs H Q E →
      ∃ t, PSs (cxOf CX0 P w K mg base N q (defScope st) f cdv A outer s H E).nox (defBody st) t ∧
        t { nx := fun _ H' => Q .non H', rt := Q } (start N vs) H) : MCal P w K mg base (k + 1) C x ps sp := by
  obtain ⟨f, fd, F, b, m⟩ := D.ex
  exact ⟨f, fd, F.ok S len (hbody f), b, m⟩
end
section
variable {X : Cx} {k : Nat} {C : Addr} {ps : List Str} {sp : Sp} {m : Str} {pos apos : Pos} {e o : Expr} {es : List Expr} {ta : TE} {t : TA}
theorem pmeth {pl : Sem Bool} (M : MCal X.prog X.w X.K X.mg X.base k C m ps sp) (c : Cls X.K C) (hr : Room k X.A) (ho : PE X o ta) (ha : PA X (e :: es) t)
    (h1 : starEach (e :: es) X.env = (false, eval e X.env) :: starEach es X.env := by rfl) (h2 : (backTo pos (starEach es X.env)).any (·.1) = false := by rfl)
    (h3 : eval (.Call (.Attribute o m apos) (e :: es) [] pos) X.env = (do
      let v ← eval o X.env
      standAt apos.atName
      let (f, first) ← holding [v] (getMethod v m pl)
      callWith pos f first (backTo pos (starEach (e :: es) X.env)) (backToKw pos (keywordEach [] X.env))) := by rfl) : PE X (.Call (.Attribute o m apos) (e :: es) [] pos) (tMeth C m sp [] E0 ta t) := by
  obtain ⟨f, fd, F, hb, hm⟩ := M.ex
  exact pe_meth (pl := pl) ho c hm F hr hb .nil pass0 ha h1 h2 h3
theorem pmeth0 {pl : Sem Bool} (M : MCal X.prog X.w X.K X.mg X.base k C m ps sp) (c : Cls X.K C) (hr : Room k X.A) (ho : PE X o ta)
    (h3 : eval (.Call (.Attribute o m apos) [] [] pos) X.env = (do
      let v ← eval o X.env
      standAt apos.atName
      let (f, first) ← holding [v] (getMethod v m pl)
      callWith pos f first (backTo pos (starEach [] X.env)) (backToKw pos (keywordEach [] X.env))) := by rfl) : PE X (.Call (.Attribute o m apos) [] [] pos) (tMeth C m sp [] E0 ta tNil) := by
  obtain ⟨f, fd, F, hb, hm⟩ := M.ex
  exact pe_meth0 (pl := pl) ho c hm F hr hb .nil pass0 h3
/-- a class whose __init__ keeps a promise -/
structure KCal (P : Program) (w : World) (K : PySem.W.Frag) (mg : Str → Option Value) (base : Heap) (k : Nat) (C : Addr) (x : Str) (ps : List Str) (sp : Sp) : Prop where
  ex : ∃ (f : Addr) (fd : FuncData), FnOk P w K mg base CX0 k f fd ps sp ∧ Binds K fd ps [] ∧ Mk K C f ∧ mg x = some (.ref C)
theorem pmake {x : Str} {p : Pos} (M : KCal X.prog X.w X.K X.mg X.base k C x ps sp) (hr : Room (k + 1) X.A) (hg : Gl X x) (ha : PA X (e :: es) t)
    (h0 : (x == ("__debug__" : Str)) = false := by decide) (h1 : starEach (e :: es) X.env = (false, eval e X.env) :: starEach es X.env := by rfl) (h2 : (backTo pos (starEach es X.env)).any (·.1) = false := by rfl) :
    PE X (.Call (.Name x p) (e :: es) [] pos) (tMake C sp [] E0 t) := by
  obtain ⟨f, fd, F, hb, mk, hm⟩ := M.ex
  exact pe_make mk F hr hg hm hb .nil pass0 ha h0 h1 h2
end
/-! ### tuples stay, while objects and lists change -/
def Kj (H H' : Hp) : Prop := ∀ b o, H b = some o → (∀ xs, o ≠ .lst xs) → (∀ C dx fs, o ≠ .ins C dx fs) → H' b = some o
section
variable {K : PySem.W.Frag} {H H' H'' : Hp}
theorem Kj.of (s : Same H H') : Kj H H' := fun b o e _ _ => s b o e
theorem Kj.kt (s : Kt H H') : Kj H H' := fun b o e n _ => s b o e n
theorem Kj.trans (a : Kj H H') (b : Kj H' H'') : Kj H H'' := fun x o e n m => b x o (a x o e n m) n m
theorem Kj.putL {l : Addr} {xs : List V} {o : HO} (h : H l = some (.lst xs)) : Kj H (upd H l o) := .kt (Kt.put h)
theorem Kj.putI {p C dx : Addr} {fs : List (Str × V)} {o : HO} (h : H p = some (.ins C dx fs)) : Kj H (upd H p o) := fun b u e _ m => by
  have z : b ≠ p := fun z => by
    rw [z, h] at e
    cases e
    exact m _ _ _ rfl
  rw [upd_ne z]
  exact e
mutual
theorem Da.kj (k : Kj H H') : ∀ {v : V} {d : PyData}, tupD d = true → Da K H v d → Da K H' v d
  | _, _, _, .non => .non
  | _, _, _, .bl b => .bl b
  | _, _, _, .int i => .int i
  | _, _, _, .str x => .str x
  | _, _, n, .lst _ _ => by
    rw [tupD] at n
    cases n
  | _, _, n, .tup h t => by
    rw [tupD] at n
    refine .tup ?_ (DaAll.kj k n t)
    rcases h with (e | ⟨o, e⟩) | e
    · exact .inl (.inl (k _ _ e (fun xs z => by cases z) (fun _ _ _ z => by cases z)))
    · exact .inl (.inr ⟨o, k _ _ e (fun xs z => by cases z) (fun _ _ _ z => by cases z)⟩)
    · exact .inr e
  | _, _, n, .dic _ _ => by
    rw [tupD] at n
    cases n
theorem DaAll.kj (k : Kj H H') : ∀ {vs : List V} {ds : List PyData}, tupDs ds = true → DaAll K H vs ds → DaAll K H' vs ds
  | _, _, _, .nil => .nil
  | _, _, n, .cons h t => by
    rw [tupDs, Bool.and_eq_true] at n
    exact .cons (Da.kj k n.1 h) (DaAll.kj k n.2 t)
end
end
theorem none_of' {H H' : Hp} {p : Addr} (s : Same H H') (n : H' p = none) : H p = none := by
  cases e : H p with
  | none => rfl
  | some o =>
    rw [s _ _ e] at n
    cases n
/-- all but two stand -/
def Bu2 (p e : Addr) (H H' : Hp) : Prop := ∀ b o, b ≠ p → b ≠ e → H b = some o → H' b = some o
theorem Bu2.refl {p e : Addr} {H : Hp} : Bu2 p e H H := fun _ _ _ _ h => h
theorem Bu2.trans {p e : Addr} {H H1 H2 : Hp} (a : Bu2 p e H H1) (b : Bu2 p e H1 H2) : Bu2 p e H H2 := fun x o n m h => b x o n m (a x o n m h)
theorem Bu2.of {p e : Addr} {H H' : Hp} (s : Same H H') : Bu2 p e H H' := fun b o _ _ h => s b o h
theorem Bu2.put1 {p e : Addr} {H : Hp} {o : HO} : Bu2 p e H (upd H p o) := fun b _ n _ h => by
  rw [upd_ne n]
  exact h
theorem Bu2.put2 {p e : Addr} {H : Hp} {o : HO} : Bu2 p e H (upd H e o) := fun b _ _ n h => by
  rw [upd_ne n]
  exact h
end Ev

/-! ## A law whose defs make lambdas: the tables of their code objects are known from the start -/
namespace Ev
open PySem PySem.Spec PyProof.Rows L2
open LamX (TabB)
/-- the script is read only: it stands whatever else changes -/
def Scr (K : PySem.W.Frag) (H : Hp) (a : Addr) (xs : List V) : Prop := (∃ o, H a = some (.frz o (.lst xs))) ∨ ∀ H', SqL K H' a xs
/-- what the ledger holds when a law begins: the script (if no written object is the script), empty tables -/
structure Begun (K : PySem.W.Frag) (a : Addr) (o : Obj) (xs : List V) (cs : List (Addr × Addr)) (H : Hp) : Prop where
  tab : ∀ p ∈ cs, H p.2 = some (.tbl #[])
  seq : Scr K H a xs
  all : ∀ b u, H b = some u → (∃ p ∈ cs, p.2 = b ∧ u = .tbl #[]) ∨ (b = a ∧ u = .frz o (.lst xs) ∧ K.lookup a = none)
theorem begun {K : PySem.W.Frag} {h : Heap} {a : Addr} {vs : List Value} {xs : List V} {cs : List (Addr × Addr)} (KX : K.In h) (ha : h.get? a = some { cls := .type "list", data := .seq vs.toArray })
    (hT : ∀ p ∈ cs, h.get? p.2 = some (PySem.W.tabObj #[])) (rv : Vals xs vs) (hl : xs.length ≤ sizeLine) : ∃ H, Begun K a { cls := .type "list", data := .seq vs.toArray } xs cs H := by
  have ne : ∀ p ∈ cs, p.2 ≠ a := fun p hp z => by
    have e := hT p hp
    rw [z, ha] at e
    cases e
  let T : Hp := fun b => if ∃ p ∈ cs, p.2 = b then some (.tbl #[]) else none
  have at1 : ∀ p ∈ cs, T p.2 = some (.tbl #[]) := fun p hp => if_pos ⟨p, hp, rfl⟩
  have inv1 : ∀ b u, T b = some u → ∃ p ∈ cs, p.2 = b ∧ u = .tbl #[] := fun b u e => by
    by_cases z : ∃ p ∈ cs, p.2 = b
    · have e2 : T b = some (.tbl #[]) := if_pos z
      obtain ⟨p, hp, hb⟩ := z
      exact ⟨p, hp, hb, Option.some.inj (e.symm.trans e2)⟩
    · exact nomatch (if_neg z : T b = none).symm.trans e
  cases hk : K.lookup a with
  | none =>
    refine ⟨upd T a (.frz { cls := .type "list", data := .seq vs.toArray } (.lst xs)), fun p hp => (upd_ne (ne p hp)).trans (at1 p hp), .inl ⟨_, upd_same⟩, fun b u e => ?_⟩
    by_cases z : b = a
    · subst z
      exact .inr ⟨rfl, Option.some.inj (e.symm.trans upd_same), hk⟩
    · exact .inl (inv1 b u ((upd_ne z).symm.trans e))
  | some ob =>
    have e := KX a ob hk
    rw [ha] at e
    cases e
    exact ⟨T, at1, .inr fun _ => .inr ⟨_, vs.toArray, _, hk, rfl, rfl, rfl, by rw [List.size_toArray, ← rv.length]; exact hl, by simpa using rv⟩, fun b u e => .inl (inv1 b u e)⟩
section
variable {P : Program} {w : World} {K : PySem.W.Frag} {mg mb : Str → Option Value} {h : Heap} {a : Addr} {vs : List Value} {xs : List V} {cs : List (Addr × Addr)} {H : Hp}
/-- what is neither the script nor a table is not in the ledger -/
theorem Begun.off (B : Begun K a { cls := .type "list", data := .seq vs.toArray } xs cs H) (ha : h.get? a = some { cls := .type "list", data := .seq vs.toArray }) (hT : ∀ p ∈ cs, h.get? p.2 = some (PySem.W.tabObj #[]))
    {b : Addr} {ob : Obj} (e : h.get? b = some ob) (n1 : ob.data ≠ .seq vs.toArray) (n2 : ob.data ≠ .fields #[]) : H b = none := by
  cases q : H b with
  | none => rfl
  | some u =>
    rcases B.all b u q with ⟨p, hp, rfl, _⟩ | ⟨rfl, _, _⟩
    · rw [hT p hp] at e
      cases e
      exact (n2 rfl).elim
    · rw [ha] at e
      cases e
      exact (n1 rfl).elim
theorem Begun.ns (B : Begun K a { cls := .type "list", data := .seq vs.toArray } xs cs H) (ha : h.get? a = some { cls := .type "list", data := .seq vs.toArray }) (hT : ∀ p ∈ cs, h.get? p.2 = some (PySem.W.tabObj #[]))
    {b : Addr} {m : Str → Option Value} : h.Ns b m → (hidT h H).Ns b m := fun ⟨ob, es, ep, e, d, r⟩ => ⟨ob, es, ep, hidT_get e (B.off ha hT e (by rw [d]; nofun) (by rw [d]; nofun)), d, r⟩
theorem Begun.kin (B : Begun K a { cls := .type "list", data := .seq vs.toArray } xs cs H) (KX : K.In h) (nT : ∀ p ∈ cs, K.lookup p.2 = none) : K.In (hidT h H) := fun b ob e => by
  refine hidT_get (KX b ob e) ?_
  cases q : H b with
  | none => rfl
  | some u =>
    rcases B.all b u q with ⟨p, hp, rfl, _⟩ | ⟨rfl, _, n⟩
    · exact nomatch (nT p hp).symm.trans e
    · exact nomatch n.symm.trans e
theorem Begun.hok (B : Begun K a { cls := .type "list", data := .seq vs.toArray } xs cs H) (ha : h.get? a = some { cls := .type "list", data := .seq vs.toArray }) (hT : ∀ p ∈ cs, h.get? p.2 = some (PySem.W.tabObj #[])) (rv : Vals xs vs) (hl : xs.length ≤ sizeLine) : HOk P w H h := fun b u e => by
  rcases B.all b u e with ⟨p, hp, rfl, rfl⟩ | ⟨rfl, rfl, _⟩
  · exact hT p hp
  · exact ⟨ha, hl, vs, _, rv, ha⟩
theorem Begun.tabB (B : Begun K a { cls := .type "list", data := .seq vs.toArray } xs cs H) (ha : h.get? a = some { cls := .type "list", data := .seq vs.toArray }) (hT : ∀ p ∈ cs, h.get? p.2 = some (PySem.W.tabObj #[])) (C : ∀ p ∈ cs, PySem.W.CodeHd h p.1 p.2) (hns : h.Ns mainGlobals mg)
    (hbm : ∃ bm ob, mg "__builtins__" = some (.ref bm) ∧ bm ≠ builtinsNs ∧ h.get? bm = some ob ∧ ob.cls = .type "module" ∧ ob.dict = some builtinsNs ∧ ob.data = .plain) {p : Addr × Addr} (hp : p ∈ cs) : TabB (hidT h H) mg p.1 p.2 where
  code := by
    obtain ⟨o, us, file, tf, flags, tg, inF, text, tt, e, r1, r2, r3, r⟩ := C p hp
    refine ⟨o, us, file, tf, flags, tg, inF, text, tt, hidT_get e (B.off ha hT e ?_ ?_), r1, r2, r3, r⟩
    · rw [r2]
      nofun
    · intro z
      rw [r2] at z
      cases z
      simp at r3
  bm := by
    obtain ⟨bm, ob, b1, b2, b3, b4, b5, b6⟩ := hbm
    refine ⟨bm, ob, b1, b2, fun z => ?_, fun z => ?_, hidT_get b3 (B.off ha hT b3 ?_ ?_), b4, b5, b6⟩
    · obtain ⟨o, es, ep, e, d, _⟩ := hns
      rw [z, e] at b3
      cases b3
      rw [d] at b6
      cases b6
    · rw [z, hT p hp] at b3
      cases b3
      cases b6
    · rw [b6]
      nofun
    · rw [b6]
      nofun
  gP := fun z => by
    obtain ⟨o, es, ep, e, d, _⟩ := hns
    rw [z, hT p hp] at e
    cases e
    cases d
/-- at the end all stands as it was, but for what the tables were told -/
theorem Begun.over {H' : Hp} {h' : Heap} (B : Begun K a { cls := .type "list", data := .seq vs.toArray } xs cs H) (ha : h.get? a = some { cls := .type "list", data := .seq vs.toArray }) (hT : ∀ p ∈ cs, h.get? p.2 = some (PySem.W.tabObj #[])) (C : ∀ p ∈ cs, PySem.W.CodeHd h p.1 p.2)
    (un : Un [] [] H H' h h') (ok : HOk P w H' h') : OldK h h' := by
  have one : ∀ b ob, h.get? b = some ob → asItWas h h' b ob ∧ ∃ o', h'.get? b = some o' := fun b ob e => by
    cases q : H b with
    | none =>
      have z := un.keep b ob e q (by simp) (by simp)
      exact ⟨.inl z, _, z⟩
    | some u =>
      rcases B.all b u q with ⟨p, hp, rfl, rfl⟩ | ⟨rfl, rfl, _⟩
      · obtain ⟨more, z⟩ := un.tbls _ _ q
        have z : h'.get? p.2 = some { cls := .none, data := .fields (#[] ++ more) } := ok _ _ z
        rw [hT p hp] at e
        cases e
        exact ⟨.inr (.inl ⟨((C p hp).tab (hT p hp)).isCodeTable, rfl, #[], more, rfl, z⟩), _, z⟩
      · obtain ⟨z, _⟩ := ok _ _ (un.frzs _ _ _ q)
        rw [ha] at e
        cases e
        exact ⟨.inl z, _, z⟩
  exact ⟨fun b ob e => (one b ob e).1, fun b ob e => (one b ob e).2⟩
end
/-- the law, called -/
theorem law_endT {P : Program} {w : World} {K : PySem.W.Frag} {mg mb : Str → Option Value} {CX : CXT} {k : Nat} {fa a : Addr} {fd : FuncData} {x : Str} {sp : Sp} {s₁ : Shared} {vs : List Value} {ns : List Int} {cs : List (Addr × Addr)}
    (KX : K.In s₁.heap) (hns : s₁.heap.Ns mainGlobals mg) (hb : s₁.heap.Ns builtinsNs mb) (hbb : ∀ x : Str, x ≠ "__name__" → mb x = bootBuiltins x) (hlim : s₁.heap.NoLimit) (hg : s₁.gens = #[])
    (hbm : ∃ bm ob, mg "__builtins__" = some (.ref bm) ∧ bm ≠ builtinsNs ∧ s₁.heap.get? bm = some ob ∧ ob.cls = .type "module" ∧ ob.dict = some builtinsNs ∧ ob.data = .plain)
    (hT : ∀ p ∈ cs, s₁.heap.get? p.2 = some (PySem.W.tabObj #[])) (nT : ∀ p ∈ cs, K.lookup p.2 = none) (C : ∀ p ∈ cs, PySem.W.CodeHd s₁.heap p.1 p.2)
    (ha : s₁.heap.get? a = some { cls := .type "list", data := .seq vs.toArray }) (hi : IntsAre vs ns) (hl : ns.length ≤ sizeLine) (hr : Room k callerA) (hsm : ∃ mm, s₁.heap.Ns sysModules mm)
    (F : ∀ base : Heap, K.In base → base.Ns mainGlobals mg → (∃ mm, base.Ns sysModules mm) → (∀ p ∈ cs, TabB base mg p.1 p.2) → FnG P w K mg base CX k fa fd [x] sp)
    (hbind : ∀ (s : Shared) (u : Value), BindsTo s fd ⟨[u], []⟩ [(x, u)])
    (hsp : ∀ H : Hp, (∀ p ∈ cs, H p.2 = some (.tbl #[])) → Scr K H a (ns.map V.int) → sp [.ref a] H (fun v _ => v = .bl true) fun _ _ _ => False)
    (hCX : ∀ H e s', CX [] H s₁ (fun _ _ _ => False) e s' → False) :
    codeAny (model P w) callerA (.call (.ref fa) ⟨[.ref a], []⟩) (fun r s' => r = .ok (.ret (.bool true)) ∧ OldK s₁.heap s'.heap ∧ s'.os = s₁.os ∧ AllBare s'.gens) s₁ := by
  have rv := vals_ints hi
  have hl' : (ns.map V.int).length ≤ sizeLine := by rw [List.length_map]; exact hl
  obtain ⟨H, B⟩ := begun KX ha hT rv hl'
  have kin := B.kin KX nT
  have seen : ∀ {b m}, s₁.heap.Ns b m → (hidT s₁.heap H).Ns b m := B.ns ha hT
  obtain ⟨mc, m1, m2⟩ := hlim
  obtain ⟨mm, hmm⟩ := hsm
  have e0 : Env0 P w K mg (hidT s₁.heap H) callerA [] s₁ H :=
    { frames := rfl, mod := ⟨kin, seen hns, ⟨mb, seen hb, hbb⟩, ⟨mc, seen m1, m2⟩⟩, bs := fun _ _ => of_hidT, bsz := Nat.le_of_eq (hidT_size _ _), funs := trivial, frf := nofun, hok := B.hok ha hT rv hl', bare := .of_eq hg }
  refine codeAny_mono ((F _ kin (seen hns) ⟨mm, seen hmm⟩ fun p hp => B.tabB ha hT C hns hbm hp).go callerA [] s₁ H ⟨[.ref a], []⟩ [.ref a] [.ref a] _ _ hr rfl e0 (hbind s₁ (.ref a)) (.cons rfl .nil) (hsp H B.tab B.seq)) fun r s' out => ?_
  match r, out with
  | .error e, out => exact (hCX H e s' out).elim
  | .ok (.ret u), ⟨v, H', os, bare, un, ok, rel, q⟩ =>
    have q : v = .bl true := q
    subst q
    cases (show u = Value.bool true from rel)
    exact ⟨rfl, B.over ha hT C un ok, os, bare⟩
/-- the code objects and tables of these defs -/
def TabF (h : Heap) (mg : Str → Option Value) (x : Str) (p : Addr × Addr) : Prop := ∃ (f : Addr) (o : Obj) (fd : FuncData), mg x = some (.ref f) ∧ h.get? f = some o ∧ o.data = .func fd ∧ fd.code = .ref p.1
theorem walkT (xs : List Str) {l : PySem.W.OpenLaw} {n k : Nat} {q : Program} {loose : List Str} {XP : (Str → Option Value) → Heap → Prop} {YP : World → Heap → Prop} {d : DefRec} {K : Params → PySem.W.Frag} {CX : CXT} {sp : PySem.W.Frag → List Addr → Sp} {x : Str}
    (hq : importsNone q = true) (hxs : (xs.all fun y => (recsOf q).any fun e => e.name == y) = true) (hK : ∀ w : World, PySem.W.noTabs (K w.params) = true) (hn : l.most = some n) (hn2 : n ≤ sizeLine) (hdf : d.params.defaults = []) (hr : Room k callerA) (hY : ∀ (w : World) (h : Heap), YP w h → (K w.params).In h)
    (F : ∀ (w : World) (mg : Str → Option Value) (fa : Addr) (h : Heap), (K w.params).In h → h.Ns mainGlobals mg → mg d.name = some (.ref fa) → ∀ cs : List (Addr × Addr), Paired (TabF h mg) xs cs →
      ∃ fd : FuncData, (∀ (s : Shared) (u : Value), BindsTo s fd ⟨[u], []⟩ [(x, u)]) ∧ ∀ base : Heap, (K w.params).In base → base.Ns mainGlobals mg → (∃ mm, base.Ns sysModules mm) → (∀ p ∈ cs, TabB base mg p.1 p.2) → FnG l.prog w (K w.params) mg base CX k fa fd [x] (sp (K w.params) (cs.map (·.2))))
    (hsp : ∀ (K : PySem.W.Frag) (H : Hp) (a : Addr) (ns : List Int) (ps : List Addr), ns.length ≤ n → (∀ P ∈ ps, H P = some (.tbl #[])) → Scr K H a (ns.map V.int) → sp K ps [.ref a] H (fun v _ => v = .bl true) fun _ _ _ => False)
    (hCX : ∀ (H : Hp) (s : Shared) (e : Value) (s' : Shared), CX [] H s (fun _ _ _ => False) e s' → False) : PySem.W.WalkO q loose XP YP l.row.toRowW d [] (fun f vs => PySem.call f vs) := by
  refine Att.attach_call hn hdf fun w s₀ s₁ mg mb fa o pm cd doc a vs ns G Y ho hd hcd hmg hobj hints hlen hg => ?_
  have KX := hY w _ Y
  obtain ⟨mm, hmm, _⟩ := (G.T.seer hq).mods
  obtain ⟨cs, hcs, tabs⟩ : ∃ cs, Paired (TabF s₁.heap mg) xs cs ∧ ∀ p ∈ cs, PySem.W.CodeHd s₁.heap p.1 p.2 ∧ s₁.heap.get? p.2 = some (PySem.W.tabObj #[]) := by
    have all := List.all_eq_true.mp hxs
    clear hxs F
    induction xs with
    | nil => exact ⟨[], .nil, nofun⟩
    | cons y ys ih =>
      obtain ⟨cs, c1, c2⟩ := ih fun z hz => all z (List.mem_cons_of_mem _ hz)
      obtain ⟨e, he, hy⟩ := List.any_eq_true.mp (all y (List.mem_cons_self ..))
      obtain ⟨f, ob, fd, c, P, h1, h2, h3, h4, h5, h6⟩ := G.T.tab e he
      rw [beq_iff_eq.mp hy] at h1
      refine ⟨(c, P) :: cs, .cons ⟨f, ob, fd, h1, h2, h3, h4⟩ c1, fun p hp => ?_⟩
      rcases List.mem_cons.mp hp with rfl | hp
      · exact ⟨.of h5 h6, h6.2⟩
      · exact c2 p hp
  have nT : ∀ p ∈ cs, (K w.params).lookup p.2 = none := fun p hp => by
    cases e : (K w.params).lookup p.2 with
    | none => rfl
    | some ob =>
      have z := KX _ _ e
      rw [(tabs p hp).2] at z
      cases z
      have y := List.all_eq_true.mp (hK w) _ (PySem.W.mem_of_lookupK e)
      exact absurd (show false = true from y) Bool.false_ne_true
  obtain ⟨fd, hb, hF⟩ := F w mg fa _ KX G.T.g hmg cs hcs
  refine law_endT KX G.T.g G.T.b G.T.builtins G.T.nolimit hg G.T.bmain (fun p hp => (tabs p hp).2) nT (fun p hp => (tabs p hp).1) hobj hints (Nat.le_trans hlen hn2) hr ⟨mm, hmm⟩ hF hb (fun H hH hS => hsp _ H a ns _ hlen (fun P hP => ?_) hS) fun H e s' => hCX H s₁ e s'
  obtain ⟨p, hp, rfl⟩ := List.mem_map.mp hP
  exact hH p hp
end Ev

/-! ## Methods that may raise; lambdas; what a table's growth leaves -/
namespace Ev
open PySem PySem.Spec PyProof.Rows L2
open LamX (CodeO TabS Tabs ExtN TabB LamS lamCx lamEnv GivesTo tLam)
/-! ### promises for any stack -/
/-- a def that keeps a promise whatever stands around it, ready to be called (CX: what it lets out) -/
structure CalN (CX : CXT) (P : Program) (w : World) (K : PySem.W.Frag) (mg : Str → Option Value) (base : Heap) (k : Nat) (x : Str) (ps : List Str) (sp : Sp) : Prop where
  ex : ∃ (f : Addr) (fd : FuncData), FnOk P w K mg base CX k f fd ps sp ∧ Binds K fd ps [] ∧ mg x = some (.ref f) ∧ PySem.W.keepIn K (.ref f) = true
/-- a method that keeps a promise or raises -/
structure MCalX (P : Program) (w : World) (K : PySem.W.Frag) (mg : Str → Option Value) (base : Heap) (k : Nat) (C : Addr) (m : Str) (ps : List Str) (sp : Sp) : Prop where
  ex : ∃ (f : Addr) (fd : FuncData), FnOk P w K mg base (L2.CX P w) k f fd ps sp ∧ Binds K fd ps [] ∧ Meth K C m f
/-- a class whose __init__ keeps a promise or raises -/
structure KCalX (P : Program) (w : World) (K : PySem.W.Frag) (mg : Str → Option Value) (base : Heap) (k : Nat) (C : Addr) (x : Str) (ps : List Str) (sp : Sp) : Prop where
  ex : ∃ (f : Addr) (fd : FuncData), FnOk P w K mg base (L2.CX P w) k f fd ps sp ∧ Binds K fd ps [] ∧ Mk K C f ∧ mg x = some (.ref C)
section
variable {P : Program} {w : World} {K : PySem.W.Frag} {mg : Str → Option Value} {base : Heap} {x q : Str} {st : Stmt} {ps N : List Str} {sp : Sp} {k j : Nat} {C : Addr}
theorem CalN.cal (c : CalN CX0 P w K mg base k x ps sp) : Cal P w K mg base k x ps sp := by
  obtain ⟨f, fd, F, b, m, v⟩ := c.ex
  exact ⟨f, fd, .of F, b, m, v⟩
theorem fun_okX {f : Addr} {fd : FuncData} (F : Fun K x q st f fd) (S : FnScope N ps (defScope st)) (len : ∀ vs H Q E, sp vs H Q E → vs.length = ps.length)
    (walk : ∀ (cdv : Value) (A : Around) (outer : List Env) (s : Shared) (H : Hp) (vs : List V) (Q : VK) (E : XK), Room k (A.deeper (envOfC q (defScope st) s.heap.objs.size f cdv)) → sp vs H Q E →
      ∃ t, PSs (cxOf (L2.CX P w) P w K mg base N q (defScope st) f cdv A outer s H E) (defBody st) t ∧ t { nx := fun _ H' => Q .non H', rt := Q } (start N vs) H) : FnOk P w K mg base (L2.CX P w) (k + 1) f fd ps sp := by
  obtain ⟨oc, od, kV, doc, pm, an, cdv, ct, osl, e, lk, hcd⟩ := F.ex
  cases e
  exact fn_of lk hcd S len fun A outer s H vs Q E hr h => walk cdv A outer s H vs Q E hr h
theorem Def.okN (D : Def K mg x st ps) (S : FnScope N ps (defScope st)) (len : ∀ vs H Q E, sp vs H Q E → vs.length = ps.length)
    (walk : ∀ (f : Addr) (cdv : Value) (A : Around) (outer : List Env) (s : Shared) (H : Hp) (vs : List V) (Q : VK) (E : XK), Room k (A.deeper (envOfC x (defScope st) s.heap.objs.size f cdv)) → sp vs H Q E →
      ∃ t, PSs (cxOf (L2.CX P w) P w K mg base N x (defScope st) f cdv A outer s H E) (defBody st) t ∧ t { nx := fun _ H' => Q .non H', rt := Q } (start N vs) H) : CalN (L2.CX P w) P w K mg base (k + 1) x ps sp := by
  obtain ⟨f, fd, F, b, m⟩ := D.ex
  exact ⟨f, fd, fun_okX F S len (walk f), b, m, F.kp⟩
theorem MDef.okX (D : MDef K C x q st ps) (S : FnScope N ps (defScope st)) (len : ∀ vs H Q E, sp vs H Q E → vs.length = ps.length)
    (walk : ∀ (f : Addr) (cdv : Value) (A : Around) (outer : List Env) (s : Shared) (H : Hp) (vs : List V) (Q : VK) (E : XK), Room k (A.deeper (envOfC q (defScope st) s.heap.objs.size f cdv)) → sp vs H Q E →
      ∃ t, PSs (cxOf (L2.CX P w) P w K mg base N q (defScope st) f cdv A outer s H E) (defBody st) t ∧ t { nx := fun _ H' => Q .non H', rt := Q } (start N vs) H) : MCalX P w K mg base (k + 1) C x ps sp := by
  obtain ⟨f, fd, F, b, m⟩ := D.ex
  exact ⟨f, fd, fun_okX F S len (walk f), b, m⟩
end
section
variable {X : Cx} {k : Nat} {C : Addr} {ps : List Str} {sp : Sp} {m x : Str} {p pos apos : Pos} {e o : Expr} {es : List Expr} {ta : TE} {t : TA} {W : WX} {E : XK}
/-- f(e, ..) -/
theorem pcallN (c : CalN (L2.CX X.prog X.w) X.prog X.w X.K X.mg X.base k x ps sp) (hr : Room k X.A) (hg : Gl X x) (tk : Takes X W) (hW : ∀ cls d σ H, E cls d H → W cls d σ H) (ha : PA X (e :: es) t)
    (hdb : (x == ("__debug__" : Str)) = false := by decide) (he : starEach (e :: es) X.env = (false, eval e X.env) :: starEach es X.env := by rfl) (hpl : (backTo pos (starEach es X.env)).any (·.1) = false := by rfl) : PE X (.Call (.Name x p) (e :: es) [] pos) (tCall sp [] E t) := by
  obtain ⟨f, fd, F, b, hm, v⟩ := c.ex
  exact pe_call F hr hg hm v b .nil (passes_call tk hW) ha hdb he hpl
theorem pcallO (c : CalN CX0 X.prog X.w X.K X.mg X.base k x ps sp) (hr : Room k X.A) (hg : Gl X x) (ha : PA X (e :: es) t)
    (hdb : (x == ("__debug__" : Str)) = false := by decide) (he : starEach (e :: es) X.env = (false, eval e X.env) :: starEach es X.env := by rfl) (hpl : (backTo pos (starEach es X.env)).any (·.1) = false := by rfl) : PE X (.Call (.Name x p) (e :: es) [] pos) (tCall sp [] E0 t) := by
  obtain ⟨f, fd, F, b, hm, v⟩ := c.ex
  exact pe_call F hr hg hm v b .nil pass0 ha hdb he hpl
theorem pmethX {pl : Sem Bool} (M : MCalX X.prog X.w X.K X.mg X.base k C m ps sp) (c : Cls X.K C) (hr : Room k X.A) (tk : Takes X W) (hW : ∀ cls d σ H, E cls d H → W cls d σ H) (ho : PE X o ta) (ha : PA X (e :: es) t)
    (h1 : starEach (e :: es) X.env = (false, eval e X.env) :: starEach es X.env := by rfl) (h2 : (backTo pos (starEach es X.env)).any (·.1) = false := by rfl)
    (h3 : eval (.Call (.Attribute o m apos) (e :: es) [] pos) X.env = (do
      let v ← eval o X.env
      standAt apos.atName
      let (f, first) ← holding [v] (getMethod v m pl)
      callWith pos f first (backTo pos (starEach (e :: es) X.env)) (backToKw pos (keywordEach [] X.env))) := by rfl) : PE X (.Call (.Attribute o m apos) (e :: es) [] pos) (tMeth C m sp [] E ta t) := by
  obtain ⟨f, fd, F, hb, hm⟩ := M.ex
  exact pe_meth (pl := pl) ho c hm F hr hb .nil (passes_call tk hW) ha h1 h2 h3
theorem pmethX0 {pl : Sem Bool} (M : MCalX X.prog X.w X.K X.mg X.base k C m ps sp) (c : Cls X.K C) (hr : Room k X.A) (tk : Takes X W) (hW : ∀ cls d σ H, E cls d H → W cls d σ H) (ho : PE X o ta)
    (h3 : eval (.Call (.Attribute o m apos) [] [] pos) X.env = (do
      let v ← eval o X.env
      standAt apos.atName
      let (f, first) ← holding [v] (getMethod v m pl)
      callWith pos f first (backTo pos (starEach [] X.env)) (backToKw pos (keywordEach [] X.env))) := by rfl) : PE X (.Call (.Attribute o m apos) [] [] pos) (tMeth C m sp [] E ta tNil) := by
  obtain ⟨f, fd, F, hb, hm⟩ := M.ex
  exact pe_meth0 (pl := pl) ho c hm F hr hb .nil (passes_call tk hW) h3
theorem pmakeX (M : KCalX X.prog X.w X.K X.mg X.base k C x ps sp) (hr : Room (k + 1) X.A) (hg : Gl X x) (tk : Takes X W) (hW : ∀ cls d σ H, E cls d H → W cls d σ H) (ha : PA X (e :: es) t)
    (h0 : (x == ("__debug__" : Str)) = false := by decide) (h1 : starEach (e :: es) X.env = (false, eval e X.env) :: starEach es X.env := by rfl) (h2 : (backTo pos (starEach es X.env)).any (·.1) = false := by rfl) : PE X (.Call (.Name x p) (e :: es) [] pos) (tMake C sp [] E t) := by
  obtain ⟨f, fd, F, hb, mk, hm⟩ := M.ex
  exact pe_make mk F hr hg hm hb .nil (passes_call tk hW) ha h0 h1 h2
end
/-- what is taken need be taken from as many slots as there are alone -/
theorem takes_len {X : Cx} {W W' : WX} (t : Takes X W) (h : ∀ c d σ H, σ.length = X.N.length → W' c d σ H → W c d σ H) : Takes X W' := fun u s' ⟨a, B, sI, pins, σ, H, cls, d, e, I, r1, r2, r3, r4, r5, r6, w⟩ =>
  t u s' ⟨a, B, sI, pins, σ, H, cls, d, e, I, r1, r2, r3, r4, r5, r6, h _ _ _ _ I.len w⟩
/-! ### list.count of plain values -/
def rCntF (K : PySem.W.Frag) : V → List V → Hp → VK → Prop := fun x xs H Q => ∃ (p : Addr) (ys : List V) (y : V), x = .ref p ∧ xs = [y] ∧ SqL K H p ys ∧ flatV y = true ∧ ys.all flatV = true ∧ Q (.int (ys.countP fun z => eqV z y : Nat)) H
theorem countP_rel {y : V} : ∀ {us : List Value} {ys : List V}, Vals ys us → ys.all flatV = true → us.countP (eqU y) = ys.countP fun z => eqV z y
  | _, _, .nil, _ => rfl
  | _, _, .cons r t, f => by
    rw [List.all_cons, Bool.and_eq_true] at f
    rw [List.countP_cons, List.countP_cons, countP_rel t f.2, eqU_of r f.1]
theorem mt_lcountF {X : Cx} : MtR X "list.count" (rCntF X.K) := by
  intro pins s σ H x xs v us Q I rx rxs h
  obtain ⟨p, ys, y, rfl, rfl, hs, fy, fys, q⟩ := h
  cases rx
  obtain ⟨u, rfl, ru⟩ := rxs.one
  obtain ⟨its, rv, ⟨⟨cls, dd, data, sl⟩, n, ho, hc, hdn, hd⟩, hlen⟩ := I.list hs
  cases (show cls = _ from hc)
  cases (show data = _ from hd)
  refine call_meets PySem.F.slot_list_count ⟨_, ho, rfl⟩ PySem.F.entry_list_count (PySem.F.args_list_count_2 _ _)
    (SeqAt.list_countAt p its.toArray n dd sl u (eqU y)) ⟨ho, fun z hz => mem_eqAt ru fy rv fys z (by simpa using hz), ?_⟩
  refine ⟨.int (ys.countP fun z => eqV z y : Nat), H, I.tok _, ⟨s.toks, ?_⟩, q⟩
  show Value.int ((its.toArray.toList.countP (eqU y) : Nat) : Int) s.toks = _
  rw [show its.toArray.toList = its from rfl, countP_rel rv fys]
/-! ### a lambda handed to a def of the module -/
def tLam1 (Pt : Addr) (q : Str) (TT : (XK → Hp → VK → Prop) → Hp → VK → Prop) (t : XK → TE) : TE := fun σ H Q => TabS H Pt q ∧ ∀ H1, ExtN H H1 → TabS H1 Pt q → TT (fun E H' Q' => t E σ H' Q') H1 Q
/-- x(lambda: body), x a def of one parameter -/
theorem pe_lamD {X : Cx} {TT : (XK → Hp → VK → Prop) → Hp → VK → Prop} {x a q : Str} {st : Stmt} {c Pt : Addr} {k : Nat} {Ng : List Str} {params : Arguments} {body : Expr} {scope : Scope} {t : XK → TE} {p lpos pos : Pos} (D : Def X.K X.mg x st [a]) (hg : Gl X x) (Sg : FnScope Ng [a] (defScope st)) (hNg : Ng[0]? = some a) (hva : Vis (defScope st) a)
    (hG : ∀ g cdg, GivesTo X Ng x (defScope st) g cdg (defBody st) a q TT) (TB : TabB X.base X.mg c Pt) (hcode : X.env.code = .ref c) (hr : Room (k + 2) X.A) (L : LamS X.env.scope scope) (hq : X.env.qual ++ "<lambda>" = q) (hdef : defaultsOf params X.env = ([], []))
    (hbind : ∀ (q : Str) (cl : List (Str × Addr)) (pm cv ctv : Value), bindArgs (PySem.W.kla_fn "<lambda>" q params body scope cl pm cv ctv) ⟨[], []⟩ = pure [])
    (hbody : ∀ (A : Around) (outer : List Env) (s : Shared) (H : Hp) (E : XK) (f c' : Addr), Room k (A.deeper (lamEnv X scope s.heap.objs.size f c')) → PE (lamCx X A outer s H E scope f c') body (t E))
    (hdb : (x == ("__debug__" : Str)) = false := by decide) (hd : (a == ("__debug__" : Str)) = false := by decide) (hcd : (a == ("__classdict__" : Str)) = false := by decide) : PE X (.Call (.Name x p) [.Lambda params body scope lpos] [] pos) (tLam1 Pt q TT t) := by
  obtain ⟨g, fd, F, b, m⟩ := D.ex
  obtain ⟨oc, od, kV, doc, pm, an, cdv, ct, osl, e, lk, hcdv⟩ := id F.ex
  cases e
  subst hq
  have z : PE X (.Call (.Name x p) [.Lambda params body scope lpos] [] pos) (tLam [(Pt, X.env.qual ++ "<lambda>")] TT t) :=
    LamX.pe_lamcall hg m F.kp lk hcdv b Sg hNg hva (hG g cdv) TB hcode (List.mem_singleton.mpr rfl) (fun r hr _ => by rw [List.mem_singleton.mp hr]) hr L hdef hbind hbody hdb hd hcd
  refine ⟨fun pins s σ H Q I h => z.run pins s σ H Q I ⟨fun r hr => ?_, fun H1 e1 t1 => h.2 H1 e1 (t1 _ (List.mem_singleton.mpr rfl))⟩⟩
  rw [List.mem_singleton.mp hr]
  exact h.1
end Ev

/-! ## Sums over classes -/
namespace Ev
open PySem
def sumK (h : Nat → Int) : Nat → Int
  | 0 => 0
  | n + 1 => sumK h n + h n
theorem sumK_congr {g h : Nat → Int} : ∀ {n : Nat}, (∀ k, k < n → g k = h k) → sumK g n = sumK h n
  | 0, _ => rfl
  | n + 1, e => by
    show sumK g n + g n = sumK h n + h n
    rw [sumK_congr fun k hk => e k (Nat.lt_succ_of_lt hk), e n (Nat.lt_succ_self n)]
theorem sumK_left (h : Nat → Int) : ∀ n : Nat, sumK h (n + 1) = h 0 + sumK (fun k => h (k + 1)) n
  | 0 => by
    show 0 + h 0 = h 0 + 0
    omega
  | n + 1 => by
    show sumK h (n + 1) + h (n + 1) = h 0 + (sumK (fun k => h (k + 1)) n + h (n + 1))
    rw [sumK_left h n]
    omega
theorem sumK_app (h : Nat → Int) (m : Nat) : ∀ n : Nat, sumK h (m + n) = sumK h m + sumK (fun k => h (m + k)) n
  | 0 => by
    show sumK h m = sumK h m + 0
    omega
  | n + 1 => by
    show sumK h (m + n) + h (m + n) = sumK h m + (sumK (fun k => h (m + k)) n + h (m + n))
    rw [sumK_app h m n]
    omega
theorem sumK_zero : ∀ n : Nat, sumK (fun _ => 0) n = 0
  | 0 => rfl
  | n + 1 => by
    show sumK _ n + 0 = 0
    rw [sumK_zero n]
    rfl
theorem sumK_plus (g h : Nat → Int) : ∀ n : Nat, sumK (fun k => g k + h k) n = sumK g n + sumK h n
  | 0 => rfl
  | n + 1 => by
    show sumK _ n + (g n + h n) = (sumK g n + g n) + (sumK h n + h n)
    rw [sumK_plus g h n]
    omega
theorem sumK_mul (c : Int) (h : Nat → Int) : ∀ n : Nat, sumK (fun k => c * h k) n = c * sumK h n
  | 0 => (Int.mul_zero c).symm
  | n + 1 => by
    show sumK _ n + c * h n = c * (sumK h n + h n)
    rw [sumK_mul c h n, Int.mul_add]
theorem sumK_mulR (c : Int) (h : Nat → Int) (n : Nat) : sumK (fun k => h k * c) n = sumK h n * c := by
  rw [Int.mul_comm, ← sumK_mul]
  exact sumK_congr fun k _ => Int.mul_comm _ _
theorem sumK_swap (h : Nat → Nat → Int) (m : Nat) : ∀ n : Nat, sumK (fun a => sumK (fun b => h a b) m) n = sumK (fun b => sumK (fun a => h a b) n) m
  | 0 => (sumK_zero m).symm
  | n + 1 => by
    show sumK (fun a => sumK (fun b => h a b) m) n + sumK (fun b => h n b) m = sumK (fun b => sumK (fun a => h a b) n + h n b) m
    rw [sumK_swap h m n, sumK_plus]
theorem sumK_shift1 (h : Nat → Int) (m : Nat) : sumK (fun a => h ((a + 1) % (m + 1))) (m + 1) = sumK h (m + 1) := by
  show sumK (fun a => h ((a + 1) % (m + 1))) m + h ((m + 1) % (m + 1)) = _
  rw [sumK_left h m, Nat.mod_self, sumK_congr (h := fun k => h (k + 1)) fun k hk => by rw [Nat.mod_eq_of_lt (by omega)]]
  omega
theorem sumK_shift {m : Nat} (hm : 0 < m) (h : Nat → Int) : ∀ s : Nat, sumK (fun a => h ((a + s) % m)) m = sumK h m
  | 0 => sumK_congr fun k hk => by rw [Nat.add_zero, Nat.mod_eq_of_lt hk]
  | s + 1 => by
    rw [← sumK_shift hm h s]
    obtain ⟨m', rfl⟩ : ∃ m', m = m' + 1 := ⟨m - 1, by omega⟩
    rw [← sumK_shift1 (fun a => h ((a + s) % (m' + 1))) m']
    exact sumK_congr fun k _ => by rw [Nat.mod_add_mod, show k + (s + 1) = k + 1 + s by omega]
theorem sumK_rev (h : Nat → Int) : ∀ n : Nat, sumK (fun k => h (n - 1 - k)) n = sumK h n
  | 0 => rfl
  | n + 1 => by
    rw [sumK_left]
    show h (n + 1 - 1 - 0) + sumK (fun k => h (n + 1 - 1 - (k + 1))) n = sumK h n + h n
    rw [← sumK_rev h n, sumK_congr (g := fun k => h (n + 1 - 1 - (k + 1))) (h := fun k => h (n - 1 - k)) fun k _ => by rw [show n + 1 - 1 - (k + 1) = n - 1 - k by omega]]
    rw [show n + 1 - 1 - 0 = n by omega]
    omega
theorem sumK_pick {c : Nat} (h : Nat → Int) : ∀ {m : Nat}, c < m → sumK (fun b => h b * (if b = c then 1 else 0)) m = h c
  | m + 1, hc => by
    show sumK _ m + h m * (if m = c then 1 else 0) = h c
    by_cases e : m = c
    · subst e
      rw [if_pos rfl, sumK_congr (h := fun _ => 0) fun k hk => by rw [if_neg (by omega), Int.mul_zero], sumK_zero]
      omega
    · rw [if_neg e, sumK_pick h (show c < m by omega)]
      omega
theorem sumK_le {h : Nat → Int} {M : Int} : ∀ {n : Nat}, (∀ k, k < n → (h k).natAbs ≤ M) → (sumK h n).natAbs ≤ n * M
  | 0, _ => by
    show ((0 : Int).natAbs : Int) ≤ 0 * M
    rw [Int.zero_mul]
    decide
  | n + 1, e => by
    show ((sumK h n + h n).natAbs : Int) ≤ ((n + 1 : Nat) : Int) * M
    have a := sumK_le fun k hk => e k (Nat.lt_succ_of_lt hk)
    have b := e n (Nat.lt_succ_self n)
    have c := Int.natAbs_add_le (sumK h n) (h n)
    rw [show ((n + 1 : Nat) : Int) * M = n * M + M by rw [Int.natCast_add, Int.add_mul]; simp]
    omega
theorem sumK_nn {h : Nat → Int} : ∀ {n : Nat}, (∀ k, k < n → 0 ≤ h k) → 0 ≤ sumK h n
  | 0, _ => Int.le_refl 0
  | n + 1, e => by
    have a := sumK_nn fun k hk => e k (Nat.lt_succ_of_lt hk)
    have b := e n (Nat.lt_succ_self n)
    show 0 ≤ sumK h n + h n
    omega
/-! ### classes, turned back -/
def rot (m c k : Nat) : Nat := (((c : Int) - (k : Int)) % (m : Int)).toNat
section
variable {m : Nat}
theorem rot_int (hm : 0 < m) (c k : Nat) : ((rot m c k : Nat) : Int) = ((c : Int) - k) % m := Int.toNat_of_nonneg (Int.emod_nonneg _ (by omega))
theorem rot_lt (hm : 0 < m) (c k : Nat) : rot m c k < m := by
  have a := rot_int hm c k
  have b := Int.emod_lt_of_pos ((c : Int) - k) (show (0 : Int) < m by omega)
  omega
theorem emod_of {a b : Int} {q : Int} (h : a - b = m * q) : a % (m : Int) = b % m := by
  rw [show a = b + m * q by omega, Int.add_mul_emod_self_left]
/-- what is r modulo m -/
theorem rot_eq (hm : 0 < m) {c k r : Nat} {q : Int} (hr : r < m) (h : (c : Int) - k - r = m * q) : rot m c k = r := by
  have a := rot_int hm c k
  rw [emod_of h, Int.emod_eq_of_lt (by omega) (by omega)] at a
  omega
theorem div_mod (a : Int) (m : Nat) : a % (m : Int) = a - m * (a / m) := by
  have := Int.emod_add_mul_ediv a m
  omega
theorem rot_back (hm : 0 < m) {a k : Nat} (ha : a < m) : rot m ((a + k) % m) k = a := by
  refine rot_eq hm ha (q := -(((a + k : Nat) : Int) / m)) ?_
  have z := div_mod ((a + k : Nat) : Int) m
  rw [Int.natCast_emod, z, Int.mul_neg]
  omega
theorem reindex (hm : 0 < m) (f g : Nat → Int) (s : Nat) : sumK (fun b => f (rot m b s) * g b) m = sumK (fun a => f a * g ((a + s) % m)) m := by
  rw [← sumK_shift hm (fun b => f (rot m b s) * g b) s]
  exact sumK_congr fun a ha => by rw [rot_back hm ha]
theorem rot_per (hm : 0 < m) (c k : Nat) : rot m c (k + m) = rot m c k := by
  refine rot_eq hm (rot_lt hm _ _) (q := ((c : Int) - k) / m - 1) ?_
  rw [rot_int hm, div_mod]
  rw [Int.mul_sub, Int.mul_one]
  omega
theorem rot_zero (hm : 0 < m) {c : Nat} (hc : c < m) : rot m c 0 = c := rot_eq hm hc (q := 0) (by omega)
theorem rot_self (hm : 0 < m) {c : Nat} (hc : c < m) : rot m c m = c := rot_eq hm hc (q := -1) (by omega)
theorem rot_succ (hm : 0 < m) (c k : Nat) : rot m ((c + 1) % m) (k + 1) = rot m c k := by
  refine rot_eq hm (rot_lt hm _ _) (q := ((c : Int) - k) / m - ((c + 1 : Nat) : Int) / m) ?_
  rw [rot_int hm, div_mod, Int.natCast_emod, div_mod]
  rw [Int.mul_sub]
  omega
end
/-! ### what is begun again and again -/
def repF (m s t : Nat) (f : Nat → Int) (c : Nat) : Int := sumK (fun k => f (rot m c (k * s))) t
def mvF (m s : Nat) (f : Nat → Int) (c : Nat) : Int := f (rot m c s)
section
variable {m : Nat} {g : Nat → Int}
theorem sumK_per {h : Nat → Int} (L : Nat) (hp : ∀ k, h (k + L) = h k) (r : Nat) : ∀ q : Nat, sumK h (q * L + r) = q * sumK h L + sumK h r
  | 0 => by
    rw [Nat.zero_mul, Nat.zero_add]
    simp
  | q + 1 => by
    rw [show (q + 1) * L + r = L + (q * L + r) by rw [Nat.succ_mul]; omega, sumK_app, sumK_congr (h := h) (n := q * L + r) fun k _ => by rw [Nat.add_comm L k, hp], sumK_per L hp r q, Int.natCast_add, Int.add_mul]
    simp
    omega
/-- a window that moves on by one -/
theorem slide (hm : 0 < m) (r c : Nat) : sumK (fun k => g (rot m ((c + 1) % m) k)) r = sumK (fun k => g (rot m c k)) r + g ((c + 1) % m) - g (rot m ((c + 1) % m) r) := by
  have a := sumK_left (fun k => g (rot m ((c + 1) % m) k)) r
  have b : sumK (fun k => g (rot m ((c + 1) % m) k)) (r + 1) = sumK (fun k => g (rot m ((c + 1) % m) k)) r + g (rot m ((c + 1) % m) r) := rfl
  rw [sumK_congr (g := fun k => g (rot m ((c + 1) % m) (k + 1))) (h := fun k => g (rot m c k)) fun k _ => by rw [rot_succ hm]] at a
  rw [rot_zero hm (Nat.mod_lt _ hm)] at a
  omega
theorem win_all (hm : 0 < m) : ∀ c : Nat, c < m → sumK (fun k => g (rot m c k)) m = sumK g m
  | 0, _ => by
    have a := slide (g := g) hm m (m - 1)
    rw [show m - 1 + 1 = m by omega, Nat.mod_self, rot_self hm hm] at a
    have b : sumK (fun k => g (rot m (m - 1) k)) m = sumK g m := by
      rw [← sumK_rev g m]
      exact sumK_congr fun k hk => by rw [rot_eq hm (r := m - 1 - k) (q := 0) (by omega) (by omega)]
    omega
  | c + 1, hc => by
    have a := slide (g := g) hm m c
    rw [Nat.mod_eq_of_lt hc, rot_self hm hc, win_all hm c (by omega)] at a
    omega
theorem rep1 (hm : 0 < m) {c : Nat} (hc : c < m) (t : Nat) : repF m 1 t g c = (t / m : Nat) * sumK g m + sumK (fun k => g (rot m c k)) (t % m) := by
  unfold repF
  rw [sumK_congr (h := fun k => g (rot m c k)) fun k _ => by rw [Nat.mul_one]]
  have e : t = t / m * m + t % m := by rw [Nat.mul_comm]; exact (Nat.div_add_mod t m).symm
  conv => lhs; rw [e]
  rw [sumK_per m (fun k => by rw [rot_per hm]), win_all hm c hc]
/-- the last r of a ring -/
theorem tail_sum (hm : 0 < m) {r : Nat} (hr : r ≤ m) : sumK (fun k => g (m - r + k)) r = sumK (fun k => g (rot m (m - 1) k)) r := by
  rw [← sumK_rev (fun k => g (m - r + k)) r]
  exact sumK_congr fun k hk => by rw [rot_eq hm (r := m - 1 - k) (q := 0) (by omega) (by omega), show m - r + (r - 1 - k) = m - 1 - k by omega]
end
/-! ### cycles -/
theorem bezout (a b : Nat) : ∃ x y : Int, (a : Int) * x + b * y = (Nat.gcd a b : Nat) := by
  induction a, b using Nat.gcd.induction with
  | H0 b => exact ⟨0, 1, by simp⟩
  | H1 a b h ih =>
    obtain ⟨x, y, e⟩ := ih
    refine ⟨y - (b / a : Nat) * x, x, ?_⟩
    rw [Nat.gcd_rec, ← e]
    have z : ((b : Nat) : Int) = a * (b / a : Nat) + (b % a : Nat) := by
      have := Nat.div_add_mod b a
      rw [← Int.natCast_mul, ← Int.natCast_add, this]
    rw [Int.mul_sub]
    conv => lhs; rw [z]
    rw [Int.add_mul, Int.mul_assoc]
    omega
section
variable {m s : Nat} {f : Nat → Int}
theorem cyc_len (s m : Nat) : s * (m / Nat.gcd s m) = m * (s / Nat.gcd s m) := by
  obtain ⟨u, hu⟩ := Nat.gcd_dvd_left s m
  obtain ⟨v, hv⟩ := Nat.gcd_dvd_right s m
  by_cases h : Nat.gcd s m = 0
  · rw [h]
    simp
  · have h : 0 < Nat.gcd s m := Nat.pos_of_ne_zero h
    rw [Nat.div_eq_of_eq_mul_right h hv, Nat.div_eq_of_eq_mul_right h hu]
    have gen : ∀ g : Nat, s = g * u → m = g * v → s * v = m * u := fun g h1 h2 => by
      rw [h1, h2, Nat.mul_assoc, Nat.mul_assoc, Nat.mul_comm u v]
    exact gen _ hu hv
theorem cyc_lenI (s m : Nat) : (s : Int) * (m / Nat.gcd s m : Nat) = m * (s / Nat.gcd s m : Nat) := by
  rw [← Int.natCast_mul, cyc_len, Int.natCast_mul]
theorem cyc_pos (hm : 0 < m) : 0 < Nat.gcd s m ∧ 0 < m / Nat.gcd s m ∧ Nat.gcd s m ≤ m ∧ m / Nat.gcd s m ≤ m := by
  have h : 0 < Nat.gcd s m := Nat.gcd_pos_of_pos_right s hm
  exact ⟨h, Nat.div_pos (Nat.le_of_dvd hm (Nat.gcd_dvd_right s m)) h, Nat.le_of_dvd hm (Nat.gcd_dvd_right s m), Nat.div_le_self _ _⟩
/-- steps within a cycle are steps of classes -/
theorem cyc_rot (hm : 0 < m) (first at' k : Nat) : (first + s * rot (m / Nat.gcd s m) at' k) % m = rot m ((first + s * at') % m) (k * s) := by
  obtain ⟨_, hL, _, _⟩ := cyc_pos (s := s) hm
  refine (rot_eq hm (Nat.mod_lt _ hm) (q := ((first + s * rot (m / Nat.gcd s m) at' k : Nat) : Int) / m - ((first + s * at' : Nat) : Int) / m + (s / Nat.gcd s m : Nat) * (((at' : Int) - k) / (m / Nat.gcd s m : Nat))) ?_).symm
  have hl := cyc_len s m
  have e1 := rot_int hL at' k
  rw [div_mod] at e1
  have z : (s : Int) * rot (m / Nat.gcd s m) at' k = s * at' - s * k - m * ((s / Nat.gcd s m : Nat) * (((at' : Int) - k) / (m / Nat.gcd s m : Nat))) := by
    rw [e1, Int.mul_sub, Int.mul_sub, ← Int.mul_assoc (s : Int) ((m / Nat.gcd s m : Nat) : Int), cyc_lenI, Int.mul_assoc]
  rw [Int.natCast_emod, Int.natCast_emod, div_mod, div_mod, Int.mul_add, Int.mul_sub]
  simp only [Int.natCast_add, Int.natCast_mul]
  rw [z, Int.mul_comm (k : Int) s]
  omega
theorem cyc_all (hm : 0 < m) {c : Nat} (hc : c < m) : ∃ first at', first < Nat.gcd s m ∧ at' < m / Nat.gcd s m ∧ (first + s * at') % m = c := by
  obtain ⟨hg, hL, _, _⟩ := cyc_pos (s := s) hm
  obtain ⟨x, y, e⟩ := bezout s m
  have hl := cyc_len s m
  refine ⟨c % Nat.gcd s m, ((x * (c / Nat.gcd s m : Nat)) % (m / Nat.gcd s m : Nat)).toNat, Nat.mod_lt _ hg, ?_, ?_⟩
  · have a := Int.emod_lt_of_pos (x * (c / Nat.gcd s m : Nat)) (show (0 : Int) < (m / Nat.gcd s m : Nat) by omega)
    have b := Int.emod_nonneg (x * (c / Nat.gcd s m : Nat)) (show ((m / Nat.gcd s m : Nat) : Int) ≠ 0 by omega)
    omega
  · have b := Int.emod_nonneg (x * (c / Nat.gcd s m : Nat)) (show ((m / Nat.gcd s m : Nat) : Int) ≠ 0 by omega)
    have cd : ((c : Nat) : Int) = (Nat.gcd s m : Nat) * (c / Nat.gcd s m : Nat) + (c % Nat.gcd s m : Nat) := by
      have := Nat.div_add_mod c (Nat.gcd s m)
      rw [← Int.natCast_mul, ← Int.natCast_add, this]
    have key : (((c % Nat.gcd s m + s * ((x * (c / Nat.gcd s m : Nat)) % (m / Nat.gcd s m : Nat)).toNat : Nat) : Int)) % m = c := by
      rw [show ((c : Nat) : Int) = ((c : Nat) : Int) % m from (Int.emod_eq_of_lt (by omega) (by omega)).symm]
      refine emod_of (q := -(y * (c / Nat.gcd s m : Nat)) - (s / Nat.gcd s m : Nat) * (x * (c / Nat.gcd s m : Nat) / (m / Nat.gcd s m : Nat))) ?_
      rw [Int.natCast_add, Int.natCast_mul, Int.toNat_of_nonneg b, div_mod, Int.mul_sub, ← Int.mul_assoc (s : Int) x, ← Int.mul_assoc (s : Int) ((m / Nat.gcd s m : Nat) : Int), cyc_lenI]
      have e2 : (s : Int) * x = (Nat.gcd s m : Nat) - m * y := by omega
      rw [e2, Int.sub_mul, Int.mul_sub, Int.mul_neg]
      rw [Int.mul_assoc (m : Int), Int.mul_assoc (m : Int)]
      omega
    omega
end
/-! ### ticks by class -/
/-- the ticks of line n in class c, the first tick being o -/
def cf (n : Str) (m c : Nat) : List Str → Nat → Int
  | [], _ => 0
  | x :: l, o => (if x = n ∧ o % m = c then 1 else 0) + cf n m c l (o + 1)
section
variable {n : Str} {m c : Nat}
theorem cf_app : ∀ (l k : List Str) (o : Nat), cf n m c (l ++ k) o = cf n m c l o + cf n m c k (o + l.length)
  | [], k, o => by
    show cf n m c k o = 0 + cf n m c k (o + 0)
    rw [Nat.add_zero]
    omega
  | x :: l, k, o => by
    show _ + cf n m c (l ++ k) (o + 1) = (_ + cf n m c l (o + 1)) + cf n m c k (o + (l.length + 1))
    rw [cf_app l k (o + 1), show o + 1 + l.length = o + (l.length + 1) by omega]
    omega
theorem cf_mod : ∀ (l : List Str) {o o' : Nat}, o % m = o' % m → cf n m c l o = cf n m c l o'
  | [], _, _, _ => rfl
  | x :: l, o, o', h => by
    show (if x = n ∧ o % m = c then 1 else 0) + cf n m c l (o + 1) = (if x = n ∧ o' % m = c then 1 else 0) + cf n m c l (o' + 1)
    rw [h, cf_mod l (o := o + 1) (o' := o' + 1) (by rw [Nat.add_mod, h, ← Nat.add_mod])]
theorem cf_nn : ∀ (l : List Str) (o : Nat), 0 ≤ cf n m c l o ∧ cf n m c l o ≤ l.length
  | [], _ => ⟨Int.le_refl 0, Int.le_refl 0⟩
  | x :: l, o => by
    have h := cf_nn l (o + 1)
    show 0 ≤ (if x = n ∧ o % m = c then 1 else 0) + cf n m c l (o + 1) ∧ (if x = n ∧ o % m = c then 1 else 0) + cf n m c l (o + 1) ≤ ((l.length + 1 : Nat) : Int)
    split <;> omega
theorem cf_flat (l : List Str) (o : Nat) : ∀ r : Nat, cf n m c (List.replicate r l).flatten o = sumK (fun k => cf n m c l (o + k * l.length)) r
  | 0 => rfl
  | r + 1 => by
    rw [List.replicate_succ', List.flatten_append, cf_app, cf_flat l o r, flat_len]
    show _ + cf n m c (l ++ []) _ = sumK _ r + _
    rw [List.append_nil]
end
mutual
def It.cols (m : Nat) : It → (Nat → Int) → List (Str × (Nat → Int))
  | .line x t, f => [(x, repF m 1 t.toNat f)]
  | .loop r js, f => Its.cols m js (repF m (Its.w js).length r.toNat f)
def Its.cols (m : Nat) : List It → (Nat → Int) → List (Str × (Nat → Int))
  | [], _ => []
  | i :: is, f => It.cols m i f ++ Its.cols m is (mvF m (It.w i).length f)
end
def colS (n : Str) (c : Nat) : List (Str × (Nat → Int)) → Int
  | [] => 0
  | p :: ps => (if p.1 = n then p.2 c else 0) + colS n c ps
theorem colS_app {n : Str} {c : Nat} : ∀ ps qs : List (Str × (Nat → Int)), colS n c (ps ++ qs) = colS n c ps + colS n c qs
  | [], qs => by
    show colS n c qs = 0 + _
    omega
  | p :: ps, qs => by
    show _ + colS n c (ps ++ qs) = (_ + colS n c ps) + _
    rw [colS_app ps qs]
    omega
theorem cf_line {n x : Str} {m c : Nat} (hm : 0 < m) (hc : c < m) (f : Nat → Int) : ∀ t : Nat, sumK (fun a => f a * cf n m c (List.replicate t x) a) m = if x = n then repF m 1 t f c else 0
  | 0 => by
    have : sumK (fun a => f a * cf n m c (List.replicate 0 x) a) m = 0 := by
      rw [sumK_congr (h := fun _ => 0) fun a _ => by show f a * 0 = 0; omega, sumK_zero]
    rw [this]
    split <;> rfl
  | t + 1 => by
    have step : ∀ a, cf n m c (List.replicate (t + 1) x) a = cf n m c (List.replicate t x) a + (if x = n ∧ (a + t) % m = c then 1 else 0) := fun a => by
      rw [List.replicate_succ', cf_app, List.length_replicate]
      show _ + ((if x = n ∧ (a + t) % m = c then 1 else 0) + 0) = _
      omega
    rw [sumK_congr (h := fun a => f a * cf n m c (List.replicate t x) a + f a * (if x = n ∧ (a + t) % m = c then 1 else 0)) fun a _ => by rw [step a, Int.mul_add], sumK_plus, cf_line hm hc f t]
    by_cases e : x = n
    · rw [if_pos e, if_pos e]
      have z := reindex hm f (fun b => if b = c then 1 else 0) t
      rw [sumK_pick (m := m) (fun b => f (rot m b t)) hc] at z
      rw [sumK_congr (h := fun a => f a * (if (a + t) % m = c then 1 else 0)) fun a _ => by simp [e], ← z]
      show repF m 1 t f c + _ = repF m 1 t f c + f (rot m c (t * 1))
      rw [Nat.mul_one]
    · rw [if_neg e, if_neg e, sumK_congr (h := fun _ => 0) fun a _ => by rw [if_neg (by simp [e]), Int.mul_zero], sumK_zero]
      rfl
mutual
theorem It.cols_cf {n : Str} {m c : Nat} (hm : 0 < m) (hc : c < m) : ∀ (i : It) (f : Nat → Int), It.nn i → colS n c (It.cols m i f) = sumK (fun a => f a * cf n m c (It.w i) a) m
  | .line x t, f, _ => by
    rw [It.cols, It.w, cf_line hm hc]
    show (if x = n then repF m 1 t.toNat f c else 0) + 0 = _
    omega
  | .loop r js, f, h => by
    rw [It.nn] at h
    rw [It.cols, It.w, Its.cols_cf hm hc js _ h.2]
    rw [sumK_congr (h := fun b => sumK (fun k => f (rot m b (k * (Its.w js).length)) * cf n m c (Its.w js) b) r.toNat) fun b _ => by
      show sumK _ _ * _ = _
      rw [sumK_mulR], sumK_swap]
    rw [sumK_congr (h := fun k => sumK (fun a => f a * cf n m c (Its.w js) (a + k * (Its.w js).length)) m) fun k _ => by
      rw [reindex hm f (fun b => cf n m c (Its.w js) b) (k * (Its.w js).length)]
      exact sumK_congr fun a _ => by rw [cf_mod (Its.w js) (o := (a + k * (Its.w js).length) % m) (o' := a + k * (Its.w js).length) (Nat.mod_mod _ _)]]
    rw [sumK_swap]
    exact sumK_congr fun a _ => by rw [sumK_mul, cf_flat]
theorem Its.cols_cf {n : Str} {m c : Nat} (hm : 0 < m) (hc : c < m) : ∀ (is : List It) (f : Nat → Int), Its.nn is → colS n c (Its.cols m is f) = sumK (fun a => f a * cf n m c (Its.w is) a) m
  | [], f, _ => by
    rw [Its.cols, Its.w]
    show 0 = sumK (fun a => f a * 0) m
    rw [sumK_congr (h := fun _ => 0) fun a _ => Int.mul_zero _, sumK_zero]
  | i :: is, f, h => by
    rw [Its.nn] at h
    rw [Its.cols, Its.w, colS_app, It.cols_cf hm hc i f h.1, Its.cols_cf hm hc is _ h.2]
    rw [show sumK (fun a => mvF m (It.w i).length f a * cf n m c (Its.w is) a) m = sumK (fun a => f a * cf n m c (Its.w is) (a + (It.w i).length)) m from (reindex hm f (fun b => cf n m c (Its.w is) b) (It.w i).length).trans
      (sumK_congr fun a _ => by rw [cf_mod (Its.w is) (o := (a + (It.w i).length) % m) (o' := a + (It.w i).length) (Nat.mod_mod _ _)])]
    rw [← sumK_plus]
    exact sumK_congr fun a _ => by rw [cf_app, Int.mul_add]
end
/-- one start, at tick 0 -/
def one0 (a : Nat) : Int := if a = 0 then 1 else 0
theorem cols_one {n : Str} {m c : Nat} (hm : 0 < m) (hc : c < m) {is : List It} (h : Its.nn is) : colS n c (Its.cols m is one0) = cf n m c (Its.w is) 0 := by
  rw [Its.cols_cf hm hc is _ h, sumK_congr (g := fun a => one0 a * cf n m c (Its.w is) a) (h := fun b => cf n m c (Its.w is) b * (if b = 0 then 1 else 0)) fun b _ => Int.mul_comm _ _]
  exact sumK_pick (m := m) (fun b => cf n m c (Its.w is) b) hm
end Ev

/-! ## When rows of lines are even -/
namespace Ev
open PySem
theorem sumK_one {P : Prop} [Decidable P] {k : Nat} : ∀ {m : Nat}, sumK (fun c => if P ∧ k = c then 1 else 0) m = if P ∧ k < m then 1 else 0
  | 0 => by
    rw [if_neg (fun z => absurd z.2 (Nat.not_lt_zero k))]
    rfl
  | m + 1 => by
    show sumK _ m + (if P ∧ k = m then 1 else 0) = _
    rw [sumK_one (m := m)]
    by_cases h : P
    · by_cases h1 : k < m
      · rw [if_pos ⟨h, h1⟩, if_neg (fun z => by have := z.2; omega), if_pos ⟨h, by omega⟩]
        rfl
      · by_cases h2 : k = m
        · rw [if_neg (fun z => h1 z.2), if_pos ⟨h, h2⟩, if_pos ⟨h, by omega⟩]
          rfl
        · rw [if_neg (fun z => h1 z.2), if_neg (fun z => h2 z.2), if_neg (fun z => by have := z.2; omega)]
          rfl
    · rw [if_neg (fun z => h z.1), if_neg (fun z => h z.1), if_neg (fun z => h z.1)]
      rfl
theorem cf_sum {n : Str} {m : Nat} (hm : 0 < m) : ∀ (l : List Str) (o : Nat), sumK (fun c => cf n m c l o) m = (l.count n : Nat)
  | [], _ => by
    show sumK (fun _ => 0) m = _
    rw [sumK_zero]
    rfl
  | x :: l, o => by
    show sumK (fun c => (if x = n ∧ o % m = c then 1 else 0) + cf n m c l (o + 1)) m = _
    rw [sumK_plus, sumK_one, cf_sum hm l (o + 1), List.count_cons]
    have := Nat.mod_lt o hm
    by_cases h : x = n
    · rw [if_pos ⟨h, this⟩, if_pos (beq_iff_eq.mpr h)]
      omega
    · rw [if_neg (fun z => h z.1), if_neg (fun z => h (beq_iff_eq.mp z))]
      omega
theorem sumK_const (k : Int) : ∀ m : Nat, sumK (fun _ => k) m = m * k
  | 0 => by
    show (0 : Int) = 0 * k
    omega
  | m + 1 => by
    show sumK _ m + k = _
    rw [sumK_const k m, Int.natCast_add, Int.add_mul]
    omega
/-- equal classes: the modulus divides how many there are -/
theorem even_dvd {n : Str} {m : Nat} (hm : 0 < m) {l : List Str} {o : Nat} (h : ∀ c, c < m → cf n m c l o = cf n m 0 l o) : m ∣ l.count n := by
  have z := cf_sum (n := n) hm l o
  rw [sumK_congr (h := fun _ => cf n m 0 l o) (fun c hc => h c hc), sumK_const] at z
  have h0 := (cf_nn (n := n) (m := m) (c := 0) l o).1
  refine ⟨(cf n m 0 l o).toNat, ?_⟩
  have e : ((m * (cf n m 0 l o).toNat : Nat) : Int) = (l.count n : Nat) := by
    rw [Int.natCast_mul, Int.toNat_of_nonneg h0, z]
  omega
theorem cf_short {n x : Str} {m c : Nat} : ∀ k : Nat, k ≤ m → cf n m c (List.replicate k x) 0 = if x = n ∧ c < k then 1 else 0
  | 0, _ => by
    rw [if_neg (fun z => absurd z.2 (Nat.not_lt_zero c))]
    rfl
  | k + 1, h => by
    rw [List.replicate_succ', cf_app, cf_short k (by omega), List.length_replicate]
    show _ + ((if x = n ∧ (0 + k) % m = c then 1 else 0) + 0) = _
    rw [Nat.zero_add, Nat.mod_eq_of_lt (by omega)]
    by_cases h1 : x = n
    · by_cases h2 : c < k
      · rw [if_pos ⟨h1, h2⟩, if_neg (fun z => by have := z.2; omega), if_pos ⟨h1, by omega⟩]
        rfl
      · by_cases h3 : k = c
        · rw [if_neg (fun z => h2 z.2), if_pos ⟨h1, h3⟩, if_pos ⟨h1, by omega⟩]
          rfl
        · rw [if_neg (fun z => h2 z.2), if_neg (fun z => h3 z.2), if_neg (fun z => by have := z.2; omega)]
          rfl
    · rw [if_neg (fun z => h1 z.1), if_neg (fun z => h1 z.1), if_neg (fun z => h1 z.1)]
      rfl
/-- one tick later -/
theorem cf_next {n x : Str} {m c f : Nat} (o : Nat) : cf n m c (List.replicate f x) (o + 1) = cf n m c (List.replicate f x) o - (if x = n ∧ o % m = c then 1 else 0) + (if x = n ∧ (o + f) % m = c then 1 else 0) := by
  have e1 : cf n m c (List.replicate (f + 1) x) o = (if x = n ∧ o % m = c then 1 else 0) + cf n m c (List.replicate f x) (o + 1) := rfl
  have e2 : cf n m c (List.replicate (f + 1) x) o = cf n m c (List.replicate f x) o + ((if x = n ∧ (o + f) % m = c then 1 else 0) + 0) := by
    rw [List.replicate_succ', cf_app, List.length_replicate]
    rfl
  omega
theorem cf_per {n x : Str} {m c : Nat} (hc : c < m) : ∀ o : Nat, cf n m c (List.replicate m x) o = if x = n then 1 else 0
  | 0 => by
    rw [cf_short m (Nat.le_refl m)]
    by_cases h : x = n
    · rw [if_pos ⟨h, hc⟩, if_pos h]
    · rw [if_neg (fun z => h z.1), if_neg h]
  | o + 1 => by
    rw [cf_next, cf_per hc o, Nat.add_mod_right]
    omega
theorem cf_mult {n x : Str} {m c : Nat} (hc : c < m) : ∀ (k o : Nat), cf n m c (List.replicate (m * k) x) o = if x = n then (k : Int) else 0
  | 0, o => by
    rw [Nat.mul_zero]
    show (0 : Int) = _
    split <;> rfl
  | k + 1, o => by
    rw [Nat.mul_succ, ← List.replicate_append_replicate, cf_app, cf_mult hc k o, cf_per hc]
    split <;> omega
/-! ### coarser classes -/
theorem cf_coarse {n : Str} {m d r : Nat} (hm : 0 < m) (hd : d ∣ m) : ∀ (l : List Str) (o : Nat), cf n d r l o = sumK (fun c => if c % d = r then cf n m c l o else 0) m
  | [], o => by
    rw [sumK_congr (h := fun _ => 0) (fun c _ => by show (if c % d = r then (0 : Int) else 0) = 0; split <;> rfl), sumK_zero]
    rfl
  | x :: l, o => by
    show (if x = n ∧ o % d = r then 1 else 0) + cf n d r l (o + 1) = _
    rw [cf_coarse hm hd l (o + 1)]
    have e : ∀ c, c < m → (if c % d = r then cf n m c (x :: l) o else 0) = (if (x = n ∧ o % d = r) ∧ o % m = c then 1 else 0) + (if c % d = r then cf n m c l (o + 1) else 0) := fun c _ => by
      show (if c % d = r then (if x = n ∧ o % m = c then 1 else 0) + cf n m c l (o + 1) else 0) = _
      have hmd : o % m % d = o % d := Nat.mod_mod_of_dvd o hd
      by_cases h1 : c % d = r
      · rw [if_pos h1, if_pos h1]
        congr 1
        by_cases h2 : x = n ∧ o % m = c
        · rw [if_pos h2, if_pos ⟨⟨h2.1, by rw [← hmd, h2.2]; exact h1⟩, h2.2⟩]
        · rw [if_neg h2, if_neg (fun z => h2 ⟨z.1.1, z.2⟩)]
      · rw [if_neg h1, if_neg h1, if_neg (fun z => h1 (by rw [← z.2, hmd]; exact z.1.2))]
        rfl
    rw [sumK_congr e, sumK_plus, sumK_one]
    have := Nat.mod_lt o hm
    by_cases h : x = n ∧ o % d = r
    · rw [if_pos h, if_pos ⟨h, this⟩]
    · rw [if_neg h, if_neg (fun z => h z.1)]
/-- equal classes are equal in coarser ones -/
theorem even_coarse {n : Str} {m d : Nat} (hm : 0 < m) (hd : d ∣ m) {l : List Str} {o : Nat} (h : ∀ c, c < m → cf n m c l o = cf n m 0 l o) {r : Nat} (hr : r < d) : cf n d r l o = cf n d 0 l o := by
  have d0 : 0 < d := by omega
  have key : ∀ r, r < d → cf n d r l o = cf n m 0 l o * ((m / d : Nat) : Int) := fun r hr => by
    rw [cf_coarse hm hd, sumK_congr (h := fun c => cf n m 0 l o * (if c % d = r then 1 else 0)) (fun c hc => by rw [h c hc]; split <;> omega), sumK_mul]
    congr 1
    have z : ∀ k, sumK (fun c => if c % d = r then 1 else 0) k = cf n d r (List.replicate k n) 0 := fun k => by
      induction k with
      | zero => rfl
      | succ k ih =>
        rw [List.replicate_succ', cf_app, List.length_replicate]
        show sumK _ k + (if k % d = r then 1 else 0) = _ + ((if n = n ∧ (0 + k) % d = r then 1 else 0) + 0)
        rw [ih, Nat.zero_add]
        by_cases h1 : k % d = r
        · rw [if_pos h1, if_pos ⟨rfl, h1⟩]
          omega
        · rw [if_neg h1, if_neg (fun z => h1 z.2)]
          omega
    rw [z m, show m = d * (m / d) from (Nat.mul_div_cancel' hd).symm, cf_mult hr, if_pos rfl]
    rw [Nat.mul_div_cancel_left _ d0]
  rw [key r hr, key 0 d0]
/-! ### periods -/
theorem per_gcd {N : Nat → Int} : ∀ (a b : Nat), (∀ o, N (o + a) = N o) → (∀ o, N (o + b) = N o) → ∀ o, N (o + Nat.gcd a b) = N o := by
  intro a b
  induction a, b using Nat.gcd.induction with
  | H0 b =>
    intro _ hb o
    rw [Nat.gcd_zero_left]
    exact hb o
  | H1 a b ha ih =>
    intro h1 h2 o
    rw [Nat.gcd_rec]
    refine ih (fun o => ?_) h1 o
    have mul : ∀ k o, N (o + a * k) = N o := fun k => by
      induction k with
      | zero =>
        intro o
        rw [Nat.mul_zero, Nat.add_zero]
      | succ k ihk =>
        intro o
        rw [Nat.mul_succ, ← Nat.add_assoc, h1, ihk]
    have e : o + b % a + a * (b / a) = o + b := by
      have := Nat.div_add_mod b a
      omega
    rw [← mul (b / a) (o + b % a), e, h2]
theorem per_mul {N : Nat → Int} {a : Nat} (h : ∀ o, N (o + a) = N o) : ∀ k o, N (o + a * k) = N o
  | 0, o => by rw [Nat.mul_zero, Nat.add_zero]
  | k + 1, o => by rw [Nat.mul_succ, ← Nat.add_assoc, h, per_mul h k o]
/-- intervals of f ticks, every L ticks, R of them, are even if gcd(m, L) divides f and m divides L * R -/
theorem loop_even {x : Str} {m L R f : Nat} (hm : 0 < m) (hLR : m ∣ L * R) (hf : Nat.gcd m L ∣ f) (o0 : Nat) {c : Nat} (hc : c < m) :
    sumK (fun k => cf x m c (List.replicate f x) (o0 + k * L)) R = sumK (fun k => cf x m 0 (List.replicate f x) (o0 + k * L)) R := by
  have step : ∀ c, c + 1 < m → sumK (fun k => cf x m (c + 1) (List.replicate f x) (o0 + k * L)) R = sumK (fun k => cf x m c (List.replicate f x) (o0 + k * L)) R := fun c hc => by
    let N : Nat → Int := fun o => sumK (fun k => if (o + k * L) % m = c + 1 then 1 else 0) R
    have pm : ∀ o, N (o + m) = N o := fun o => sumK_congr fun k _ => by
      rw [show o + m + k * L = o + k * L + m by omega, Nat.add_mod_right]
    have pL : ∀ o, N (o + L) = N o := fun o => by
      show sumK (fun k => if (o + L + k * L) % m = c + 1 then 1 else 0) R = sumK (fun k => if (o + k * L) % m = c + 1 then 1 else 0) R
      have e1 := sumK_left (fun k => if (o + k * L) % m = c + 1 then (1 : Int) else 0) R
      have e2 : sumK (fun k => if (o + k * L) % m = c + 1 then (1 : Int) else 0) (R + 1) = sumK (fun k => if (o + k * L) % m = c + 1 then 1 else 0) R + (if (o + R * L) % m = c + 1 then 1 else 0) := rfl
      have e3 : (o + R * L) % m = (o + 0 * L) % m := by
        obtain ⟨q, hq⟩ := hLR
        rw [Nat.mul_comm R L, hq, Nat.add_mul_mod_self_left, Nat.zero_mul, Nat.add_zero]
      rw [e3] at e2
      have e4 : sumK (fun k => if (o + (k + 1) * L) % m = c + 1 then (1 : Int) else 0) R = sumK (fun k => if (o + L + k * L) % m = c + 1 then 1 else 0) R := sumK_congr fun k _ => by
        rw [show o + (k + 1) * L = o + L + k * L by rw [Nat.add_mul, Nat.one_mul]; omega]
      omega
    have pd := per_gcd m L pm pL
    obtain ⟨q, hq⟩ := hf
    have pf : N (o0 + f) = N o0 := by
      rw [hq]
      exact per_mul pd q o0
    have cls : ∀ (l : List Str) (o : Nat), cf x m (c + 1) l (o + 1) = cf x m c l o := fun l => by
      induction l with
      | nil => intro o; rfl
      | cons y l ih =>
        intro o
        show (if y = x ∧ (o + 1) % m = c + 1 then 1 else 0) + cf x m (c + 1) l (o + 1 + 1) = (if y = x ∧ o % m = c then 1 else 0) + cf x m c l (o + 1)
        rw [ih (o + 1)]
        congr 1
        have hiff : (o + 1) % m = c + 1 ↔ o % m = c := by
          have h1 := Nat.div_add_mod o m
          have h2 := Nat.mod_lt o hm
          by_cases h3 : o % m + 1 = m
          · have e : (o + 1) % m = 0 := by
              rw [show o + 1 = m * (o / m + 1) by rw [Nat.mul_add, Nat.mul_one]; omega, Nat.mul_mod_right]
            omega
          · have e : (o + 1) % m = o % m + 1 := by
              rw [Nat.add_mod, Nat.mod_eq_of_lt (show 1 < m by omega), Nat.mod_eq_of_lt (by omega)]
            omega
        by_cases h : y = x
        · by_cases h4 : o % m = c
          · rw [if_pos ⟨h, hiff.mpr h4⟩, if_pos ⟨h, h4⟩]
          · rw [if_neg (fun z => h4 (hiff.mp z.2)), if_neg (fun z => h4 z.2)]
        · rw [if_neg (fun z => h z.1), if_neg (fun z => h z.1)]
    have e5 : sumK (fun k => cf x m c (List.replicate f x) (o0 + k * L)) R = sumK (fun k => cf x m (c + 1) (List.replicate f x) (o0 + k * L) + ((if (o0 + f + k * L) % m = c + 1 then 1 else 0) + (-1) * (if (o0 + k * L) % m = c + 1 then 1 else 0))) R := sumK_congr fun k _ => by
      rw [← cls, cf_next, show o0 + k * L + f = o0 + f + k * L by omega]
      have a1 : (if x = x ∧ (o0 + k * L) % m = c + 1 then (1 : Int) else 0) = if (o0 + k * L) % m = c + 1 then 1 else 0 := by
        by_cases h : (o0 + k * L) % m = c + 1
        · rw [if_pos h, if_pos ⟨rfl, h⟩]
        · rw [if_neg h, if_neg (fun z => h z.2)]
      have a2 : (if x = x ∧ (o0 + f + k * L) % m = c + 1 then (1 : Int) else 0) = if (o0 + f + k * L) % m = c + 1 then 1 else 0 := by
        by_cases h : (o0 + f + k * L) % m = c + 1
        · rw [if_pos h, if_pos ⟨rfl, h⟩]
        · rw [if_neg h, if_neg (fun z => h z.2)]
      rw [a1, a2]
      omega
    rw [e5, sumK_plus, sumK_plus, sumK_mul]
    have : N (o0 + f) = N o0 := pf
    show _ = _ + (N (o0 + f) + (-1) * N o0)
    omega
  induction c with
  | zero => rfl
  | succ c ih => rw [step c hc, ih (by omega)]
theorem cf_none {n : Str} {m c : Nat} : ∀ (l : List Str) (o : Nat), n ∉ l → cf n m c l o = 0
  | [], _, _ => rfl
  | x :: l, o, h => by
    have h1 : x ≠ n := fun e => h (e ▸ List.mem_cons_self ..)
    have h2 : n ∉ l := fun e => h (List.mem_cons_of_mem _ e)
    show (if x = n ∧ o % m = c then 1 else 0) + cf n m c l (o + 1) = 0
    rw [if_neg (fun z => h1 z.1), cf_none l (o + 1) h2]
    rfl
end Ev

/-! ## Going round by steps of p -/
namespace Ev
open PySem
theorem orb_back {L p : Nat} (hL : 0 < L) : L ∣ L / Nat.gcd p L * p := by
  have hg := Nat.gcd_pos_of_pos_right p hL
  obtain ⟨a, ha⟩ := Nat.gcd_dvd_left p L
  obtain ⟨b, hb⟩ := Nat.gcd_dvd_right p L
  generalize Nat.gcd p L = g at *
  refine ⟨a, ?_⟩
  rw [hb, Nat.mul_div_cancel_left _ hg, ha, Nat.mul_comm g a, ← Nat.mul_assoc, Nat.mul_comm (g * b) a, Nat.mul_comm b a, Nat.mul_assoc, Nat.mul_comm b g]
theorem orb_ne {L p k : Nat} (hL : 0 < L) (h0 : 0 < k) (hk : k < L / Nat.gcd p L) : ¬ L ∣ k * p := by
  intro h
  have hg := Nat.gcd_pos_of_pos_right p hL
  have cop := Nat.coprime_div_gcd_div_gcd (m := p) (n := L) hg
  have e1 : Nat.gcd p L * (L / Nat.gcd p L) = L := Nat.mul_div_cancel' (Nat.gcd_dvd_right p L)
  have e2 : Nat.gcd p L * (p / Nat.gcd p L) = p := Nat.mul_div_cancel' (Nat.gcd_dvd_left p L)
  have h2 : Nat.gcd p L * (L / Nat.gcd p L) ∣ Nat.gcd p L * (k * (p / Nat.gcd p L)) := by
    rw [e1, ← Nat.mul_assoc, Nat.mul_comm _ k, Nat.mul_assoc, e2]
    exact h
  have h3 := Nat.dvd_of_mul_dvd_mul_left hg h2
  have h4 := Nat.Coprime.dvd_of_dvd_mul_right (Nat.Coprime.symm cop) h3
  have := Nat.le_of_dvd h0 h4
  omega
theorem orb_count {L p s i : Nat} (hL : 0 < L) (hi : i < L) : sumK (fun k => if (s + k * p) % L = i then 1 else 0) (L / Nat.gcd p L) = if i % Nat.gcd p L = s % Nat.gcd p L then 1 else 0 := by
  have hg := Nat.gcd_pos_of_pos_right p hL
  by_cases h : i % Nat.gcd p L = s % Nat.gcd p L
  · rw [if_pos h]
    let N : Nat → Int := fun o => sumK (fun k => if (o + k * p) % L = i then 1 else 0) (L / Nat.gcd p L)
    have pL : ∀ o, N (o + L) = N o := fun o => sumK_congr fun k _ => by
      rw [show o + L + k * p = o + k * p + L by omega, Nat.add_mod_right]
    have pp : ∀ o, N (o + p) = N o := fun o => by
      show sumK (fun k => if (o + p + k * p) % L = i then 1 else 0) (L / Nat.gcd p L) = sumK (fun k => if (o + k * p) % L = i then 1 else 0) (L / Nat.gcd p L)
      have e1 := sumK_left (fun k => if (o + k * p) % L = i then (1 : Int) else 0) (L / Nat.gcd p L)
      have e2 : sumK (fun k => if (o + k * p) % L = i then (1 : Int) else 0) (L / Nat.gcd p L + 1) = sumK (fun k => if (o + k * p) % L = i then 1 else 0) (L / Nat.gcd p L) + (if (o + L / Nat.gcd p L * p) % L = i then 1 else 0) := rfl
      have e3 : (o + L / Nat.gcd p L * p) % L = (o + 0 * p) % L := by
        obtain ⟨q, hq⟩ := orb_back (p := p) hL
        rw [hq, Nat.add_mul_mod_self_left, Nat.zero_mul, Nat.add_zero]
      rw [e3] at e2
      have e4 : sumK (fun k => if (o + (k + 1) * p) % L = i then (1 : Int) else 0) (L / Nat.gcd p L) = sumK (fun k => if (o + p + k * p) % L = i then 1 else 0) (L / Nat.gcd p L) := sumK_congr fun k _ => by
        rw [show o + (k + 1) * p = o + p + k * p by rw [Nat.add_mul, Nat.one_mul]; omega]
      omega
    have pg := per_gcd p L pp pL
    have e1 : N s = N (s % Nat.gcd p L) := by
      have z := per_mul pg (s / Nat.gcd p L) (s % Nat.gcd p L)
      rw [Nat.mod_add_div] at z
      exact z
    have e2 : N i = N (i % Nat.gcd p L) := by
      have z := per_mul pg (i / Nat.gcd p L) (i % Nat.gcd p L)
      rw [Nat.mod_add_div] at z
      exact z
    show N s = 1
    rw [e1, ← h, ← e2]
    have hn : 0 < L / Nat.gcd p L := Nat.div_pos (Nat.gcd_le_right _ hL) hg
    obtain ⟨n, hn'⟩ : ∃ n, L / Nat.gcd p L = n + 1 := ⟨L / Nat.gcd p L - 1, by omega⟩
    show sumK (fun k => if (i + k * p) % L = i then 1 else 0) (L / Nat.gcd p L) = 1
    rw [hn', sumK_left, Nat.zero_mul, Nat.add_zero, Nat.mod_eq_of_lt hi, if_pos rfl, sumK_congr (h := fun _ => 0) (fun k hk => if_neg fun z => ?_), sumK_zero]
    · rfl
    · refine orb_ne (p := p) (k := k + 1) hL (by omega) (by omega) ?_
      have z2 := Nat.div_add_mod (i + (k + 1) * p) L
      rw [z] at z2
      exact ⟨(i + (k + 1) * p) / L, by omega⟩
  · rw [if_neg h, sumK_congr (h := fun _ => 0) (fun k _ => if_neg fun z => h ?_), sumK_zero]
    obtain ⟨q, hq⟩ := Nat.gcd_dvd_left p L
    have e : (s + k * p) % L % Nat.gcd p L = s % Nat.gcd p L := by
      rw [Nat.mod_mod_of_dvd _ (Nat.gcd_dvd_right p L)]
      have : Nat.gcd p L ∣ k * p := Nat.dvd_trans (Nat.gcd_dvd_left p L) (Nat.dvd_mul_left _ _)
      obtain ⟨u, hu⟩ := this
      rw [hu, Nat.add_mul_mod_self_left]
    rw [← e, z]
theorem cf_idx {n : Str} {m c : Nat} (w : List Str) : ∀ k, k ≤ w.length → cf n m c (w.take k) 0 = sumK (fun i => if w[i]? = some n ∧ i % m = c then 1 else 0) k
  | 0, _ => by
    rw [List.take_zero]
    rfl
  | k + 1, h => by
    have e := List.getElem?_eq_getElem (show k < w.length by omega)
    rw [List.take_add_one, e, cf_app, cf_idx w k (by omega), List.length_take, Nat.min_eq_left (by omega)]
    show _ + ((if w[k] = n ∧ (0 + k) % m = c then 1 else 0) + 0) = _ + (if w[k]? = some n ∧ k % m = c then 1 else 0)
    rw [Nat.zero_add, e]
    by_cases h1 : w[k] = n ∧ k % m = c
    · rw [if_pos h1, if_pos ⟨by rw [h1.1], h1.2⟩]
      omega
    · rw [if_neg h1, if_neg (fun z => h1 ⟨Option.some.inj z.1, z.2⟩)]
      omega
/-- the looks from s on, by steps of p, till they come back, see the class of s -/
theorem seen_count {n : Str} {w : List Str} {p s : Nat} (hL : 0 < w.length) : sumK (fun k => if w[(s + k * p) % w.length]? = some n then 1 else 0) (w.length / Nat.gcd p w.length) = cf n (Nat.gcd p w.length) (s % Nat.gcd p w.length) w 0 := by
  have e0 := cf_idx (n := n) (m := Nat.gcd p w.length) (c := s % Nat.gcd p w.length) w w.length (Nat.le_refl _)
  rw [List.take_length] at e0
  rw [e0, sumK_congr (h := fun k => sumK (fun i => if w[i]? = some n ∧ (s + k * p) % w.length = i then 1 else 0) w.length) fun k _ => ?_, sumK_swap]
  · refine sumK_congr fun i hi => ?_
    have oc := orb_count (p := p) (s := s) hL hi
    by_cases h : w[i]? = some n
    · rw [sumK_congr (h := fun k => if (s + k * p) % w.length = i then 1 else 0) fun k _ => ?_, oc]
      · by_cases h2 : i % Nat.gcd p w.length = s % Nat.gcd p w.length
        · rw [if_pos h2, if_pos ⟨h, h2⟩]
        · rw [if_neg h2, if_neg (fun z => h2 z.2)]
      · by_cases h3 : (s + k * p) % w.length = i
        · rw [if_pos h3, if_pos ⟨h, h3⟩]
        · rw [if_neg h3, if_neg (fun z => h3 z.2)]
    · rw [if_neg (fun z => h z.1), sumK_congr (h := fun _ => 0) fun k _ => if_neg (fun z => h z.1), sumK_zero]
  · have hlt := Nat.mod_lt (s + k * p) hL
    have e : ∀ i, i < w.length → (if w[i]? = some n ∧ (s + k * p) % w.length = i then (1 : Int) else 0) = if w[(s + k * p) % w.length]? = some n ∧ (s + k * p) % w.length = i then 1 else 0 := fun i _ => by
      by_cases h : (s + k * p) % w.length = i
      · rw [h]
      · rw [if_neg (fun z => h z.2), if_neg (fun z => h z.2)]
    rw [sumK_congr e, sumK_one]
    by_cases h : w[(s + k * p) % w.length]? = some n
    · rw [if_pos h, if_pos ⟨h, hlt⟩]
    · rw [if_neg h, if_neg (fun z => h z.1)]
end Ev

/-! ## Branches that join -/
namespace Ev
open PySem PySem.Spec PyProof.Rows L2
theorem s_join {a rest : TS} {D : Ends} {σ : L2.St} {H : Hp} (J : L2.St → Hp → Prop) (k : ∀ σ H, J σ H → rest D σ H) (h : (∀ σ H, J σ H → rest D σ H) → a { D with nx := rest D } σ H) : tSeq a rest D σ H := h k
theorem back_none {H H' : Hp} {r : Addr} (s : Same H H') (h : H' r = none) : H r = none := by
  cases e : H r with
  | none => rfl
  | some o =>
    rw [s _ _ e] at h
    cases h
theorem bool_fits (c : Bool) : (PyData.bool c).showable = true ∧ (PyData.bool c).depth ≤ 64 ∧ (PyData.bool c).shown.length ≤ sizeLine := by
  rw [sizeLine_eq]
  cases c <;> exact ⟨by decide +kernel, by decide +kernel, by decide +kernel⟩
theorem rg_nat {a b : Nat} {v : V} (h : v ∈ rgV ((a : Nat) : Int) ((b : Nat) : Int)) : ∃ k : Nat, v = .int (k : Nat) ∧ a ≤ k ∧ k < b := by
  unfold rgV at h
  obtain ⟨i, hi, rfl⟩ := List.mem_map.mp h
  have hi := List.mem_range.mp hi
  exact ⟨a + i, by rw [Int.natCast_add], by omega, by omega⟩
/-- how long the text of a program is -/
theorem prog_szA {B n : Nat} {is : List It} (h : ∀ i ∈ is, Okp B n i) (hm : Its.nm is) (hn : Its.ni is ≤ 96) (h6 : n ≤ 6) :
    (PyData.tuple (is.map It.d)).showable = true ∧ (PyData.tuple (is.map It.d)).depth ≤ 64 ∧ (PyData.tuple (is.map It.d)).shown.length ≤ sizeLine := by
  obtain ⟨h1, h2, h3, h4⟩ := Its.szd n B is h hm
  refine Sz.fits (e := 64) (w := 16000) ⟨by rw [PyData.showable]; exact h1, by rw [PyData.leavesShort]; exact h2, ?_, ?_⟩ (by decide) (by decide)
  · rw [PyData.depth]
    omega
  · rw [PyData.weight]
    omega
end Ev

/-! ## Programs as texts: what reading does -/
namespace Ev
open PySem PySem.Spec PyProof.Rows L2
def letB (c : Nat) : Bool := decide (97 ≤ c) && decide (c ≤ 122)
def digB (c : Nat) : Bool := decide (48 ≤ c) && decide (c ≤ 57)
theorem letB_iff {c : Nat} : letB c = true ↔ 97 ≤ c ∧ c ≤ 122 := by
  unfold letB
  rw [Bool.and_eq_true, decide_eq_true_eq, decide_eq_true_eq]
theorem digB_iff {c : Nat} : digB c = true ↔ 48 ≤ c ∧ c ≤ 57 := by
  unfold digB
  rw [Bool.and_eq_true, decide_eq_true_eq, decide_eq_true_eq]
/-- digits that go on with a number while it is at most `most`: the number, how many digits -/
def numW (most : Nat) : Nat → List Nat → Nat × Nat
  | n, [] => (n, 0)
  | n, c :: cs => if digB c = true ∧ n * 10 + (c - 48) ≤ most then ((numW most (n * 10 + (c - 48)) cs).1, (numW most (n * 10 + (c - 48)) cs).2 + 1) else (n, 0)
abbrev Rdx (α : Type) := Except Nat α
def rdNum (l : List Nat) (most a : Nat) : Rdx (Nat × Nat) :=
  match l[a]? with
  | some c => if digB c = true ∧ c ≠ 48 then .ok ((numW most 0 (l.drop a)).1, a + (numW most 0 (l.drop a)).2) else .error a
  | none => .error a
def nameEnd (l : List Nat) (a : Nat) : Nat := a + 1 + (((l.drop (a + 1)).take 7).takeWhile letB).length
def rdBh (l : List Nat) : List Nat → Nat → Rdx Nat
  | [], a => .ok a
  | c :: cs, a => if l[a]? = some c then rdBh l cs (a + 1) else .error a
abbrev RdI := Nat → Nat → Rdx (It × Nat × Nat)
def rdMore (f : RdI) (l : List Nat) : Nat → Nat → Nat → Rdx (List It × Nat × Nat)
  | 0, a, r => .ok ([], a, r)
  | k + 1, a, r => if l[a]? = some 32 ∧ 0 < r then
      match f (a + 1) r with
      | .error e => .error e
      | .ok (i, a2, r2) => match rdMore f l k a2 r2 with
        | .error e => .error e
        | .ok (is, a3, r3) => .ok (i :: is, a3, r3)
    else .ok ([], a, r)
def rdMany (f : RdI) (l : List Nat) (a r : Nat) : Rdx (List It × Nat × Nat) :=
  match f a r with
  | .error e => .error e
  | .ok (i, a2, r2) => match rdMore f l 19 a2 r2 with
    | .error e => .error e
    | .ok (is, a3, r3) => .ok (i :: is, a3, r3)
def isLet (l : List Nat) (a : Nat) : Bool := match l[a]? with
  | some c => letB c
  | none => false
def cutN (l : List Nat) (a b : Nat) : Str := ⟨((l.drop a).take (b - a)).toArray⟩
def rdLine (l : List Nat) : RdI := fun a r =>
  match rdBh l [58] (nameEnd l a) with
  | .error e => .error e
  | .ok b => match rdNum l 1000000000000 b with
    | .error e => .error e
    | .ok (t, c) => .ok (.line (cutN l a (nameEnd l a)) (t : Nat), c, r - 1)
def rdLoop (f : RdI) (l : List Nat) : RdI := fun a r =>
  if r < 2 then .error a else
  match rdNum l 1000000000000000000 a with
  | .error e => .error e
  | .ok (n, b) => match rdBh l [42, 40] b with
    | .error e => .error e
    | .ok c => match rdMany f l c (r - 1) with
      | .error e => .error e
      | .ok (is, d, r2) => match rdBh l [41] d with
        | .error e => .error e
        | .ok e2 => .ok (.loop (n : Nat) is, e2, r2)
def rdIt (l : List Nat) : Nat → RdI
  | 0 => fun a r => if isLet l a = true then rdLine l a r else .error a
  | d + 1 => fun a r => if isLet l a = true then rdLine l a r else rdLoop (rdIt l d) l a r
/-- a whole text -/
def rdP (l : List Nat) : Rdx (List It) :=
  match rdMany (rdIt l 5) l 0 60 with
  | .error e => .error e
  | .ok (is, a, _) => if a < l.length then .error a else .ok is
/-! ### writing -/
mutual
def It.tx : It → List Nat
  | .line x t => x.cps.toList ++ (58 :: TL.numL t.toNat)
  | .loop r is => TL.numL r.toNat ++ (42 :: 40 :: (Its.tx is ++ [41]))
def Its.tx : List It → List Nat
  | [] => []
  | [i] => It.tx i
  | i :: j :: is => It.tx i ++ (32 :: Its.tx (j :: is))
end

def okN (x : Str) : Prop := 1 ≤ x.cps.size ∧ x.cps.size ≤ 8 ∧ ∀ c ∈ x.cps.toList, letB c = true
/-- items that may stand in a text -/
def Vt : Nat → It → Prop
  | _, .line x t => okN x ∧ 1 ≤ t ∧ t ≤ 1000000000000
  | 0, .loop _ _ => False
  | n + 1, .loop r is => 1 ≤ r ∧ r ≤ 1000000000000000000 ∧ 1 ≤ is.length ∧ is.length ≤ 20 ∧ ∀ i ∈ is, Vt n i
theorem vt_line {n : Nat} {x : Str} {t : Int} : Vt n (.line x t) ↔ okN x ∧ 1 ≤ t ∧ t ≤ 1000000000000 := by
  cases n <;> exact Iff.rfl
/-- what may follow a number -/
def Stop (rest : List Nat) : Prop := ∀ c, rest.head? = some c → digB c = false
theorem foldl_ge : ∀ (ds : List Nat) (n : Nat), n ≤ ds.foldl (fun a c => a * 10 + (c - 48)) n
  | [], _ => Nat.le_refl _
  | c :: ds, n => by
    have z := foldl_ge ds (n * 10 + (c - 48))
    rw [List.foldl_cons]
    omega
theorem numW_go {most : Nat} {rest : List Nat} (hs : Stop rest) : ∀ (ds : List Nat) (n : Nat), (∀ c ∈ ds, digB c = true) → ds.foldl (fun a c => a * 10 + (c - 48)) n ≤ most → numW most n (ds ++ rest) = (ds.foldl (fun a c => a * 10 + (c - 48)) n, ds.length)
  | [], n, _, _ => by
    cases rest with
    | nil => rfl
    | cons c cs =>
      have h := hs c rfl
      show (if digB c = true ∧ n * 10 + (c - 48) ≤ most then _ else (n, 0)) = (n, 0)
      rw [if_neg (fun z => by rw [h] at z; exact Bool.false_ne_true z.1)]
  | c :: ds, n, hd, hm => by
    rw [List.foldl_cons] at hm
    have z := foldl_ge ds (n * 10 + (c - 48))
    have ih := numW_go hs ds (n * 10 + (c - 48)) (fun d h => hd d (List.mem_cons_of_mem _ h)) hm
    rw [List.cons_append, numW, if_pos ⟨hd c (List.mem_cons_self ..), Nat.le_trans z hm⟩, ih]
    rfl
theorem numL_dig {n c : Nat} (h : c ∈ TL.numL n) : digB c = true := by
  have z := TL.numL_digits n c h
  exact digB_iff.mpr (by omega)
theorem numL_head : ∀ n : Nat, 1 ≤ n → ∃ c cs, TL.numL n = c :: cs ∧ c ≠ 48 := by
  intro n
  induction n using Nat.strongRecOn with
  | _ n ih =>
    intro hn
    by_cases h : n < 10
    · rw [TL.numL_lt h]
      exact ⟨_, _, rfl, by omega⟩
    · obtain ⟨c, cs, e, hc⟩ := ih (n / 10) (by omega) (by omega)
      rw [TL.numL_step (by omega), e]
      exact ⟨c, _, rfl, hc⟩
theorem drop_at {l x y : List Nat} {a : Nat} (h : l.drop a = x ++ y) : l.drop (a + x.length) = y := by
  rw [← List.drop_drop, h, List.drop_left]
theorem get_at {l x : List Nat} {a c : Nat} (h : l.drop a = c :: x) : l[a]? = some c := by
  have z : (l.drop a)[0]? = some c := by
    rw [h]
    rfl
  rw [List.getElem?_drop] at z
  exact z
theorem get_end {l : List Nat} {a : Nat} (h : l.drop a = []) : l[a]? = none := by
  have z : (l.drop a)[0]? = none := by
    rw [h]
    rfl
  rw [List.getElem?_drop] at z
  exact z
theorem rdNum_ok {l rest : List Nat} {a most n : Nat} (h : l.drop a = TL.numL n ++ rest) (h1 : 1 ≤ n) (h2 : n ≤ most) (hs : Stop rest) : rdNum l most a = .ok (n, a + (TL.numL n).length) := by
  obtain ⟨c, cs, e, hc⟩ := numL_head n h1
  have hg : l[a]? = some c := get_at (by rw [h, e]; rfl)
  have hv : (TL.numL n).foldl (fun a c => a * 10 + (c - 48)) 0 = n := TL.numL_val n
  have hw := numW_go (most := most) hs (TL.numL n) 0 (fun c h => numL_dig h) (by rw [hv]; exact h2)
  rw [hv] at hw
  unfold rdNum
  rw [hg]
  dsimp only
  rw [if_pos ⟨numL_dig (n := n) (by rw [e]; exact List.mem_cons_self ..), hc⟩, h, hw]
theorem rdBh_ok {l rest : List Nat} : ∀ {x : List Nat} {a : Nat}, l.drop a = x ++ rest → rdBh l x a = .ok (a + x.length)
  | [], _, _ => rfl
  | c :: x, a, h => by
    have hg : l[a]? = some c := get_at h
    have hd : l.drop (a + 1) = x ++ rest := drop_at (x := [c]) h
    rw [rdBh, if_pos hg, rdBh_ok hd, List.length_cons]
    congr 1
    omega
theorem takeWhile_stop {p : Nat → Bool} {c : Nat} (hc : p c = false) : ∀ (x y : List Nat), (∀ d ∈ x, p d = true) → (x ++ c :: y).takeWhile p = x
  | [], y, _ => by
    rw [List.nil_append, List.takeWhile_cons, hc]
    rfl
  | d :: x, y, h => by
    rw [List.cons_append, List.takeWhile_cons, h d (List.mem_cons_self ..)]
    exact congrArg (d :: ·) (takeWhile_stop hc x y fun e he => h e (List.mem_cons_of_mem _ he))
theorem takeWhile_all {p : Nat → Bool} : ∀ (x : List Nat), (∀ d ∈ x, p d = true) → x.takeWhile p = x
  | [], _ => rfl
  | d :: x, h => by
    rw [List.takeWhile_cons, h d (List.mem_cons_self ..)]
    exact congrArg (d :: ·) (takeWhile_all x fun e he => h e (List.mem_cons_of_mem _ he))
theorem nameEnd_ok {l x rest : List Nat} {a c : Nat} (h : l.drop a = x ++ c :: rest) (h1 : 1 ≤ x.length) (h2 : x.length ≤ 8) (hx : ∀ d ∈ x, letB d = true) (hc : letB c = false) : nameEnd l a = a + x.length := by
  cases x with
  | nil => exact absurd h1 (by decide)
  | cons d x =>
    have hd : l.drop (a + 1) = x ++ c :: rest := drop_at (x := [d]) h
    have hx' : ∀ e ∈ x, letB e = true := fun e he => hx e (List.mem_cons_of_mem _ he)
    unfold nameEnd
    rw [hd]
    have hl : x.length ≤ 7 := by
      rw [List.length_cons] at h2
      omega
    have e : ((x ++ c :: rest).take 7).takeWhile letB = x := by
      by_cases h7 : x.length = 7
      · rw [← h7, List.take_left]
        exact takeWhile_all x hx'
      · have : (x ++ c :: rest).take 7 = x ++ c :: rest.take (6 - x.length) := by
          rw [List.take_append, List.take_of_length_le (by omega), show 7 - x.length = (6 - x.length) + 1 by omega, List.take_succ_cons]
        rw [this]
        exact takeWhile_stop hc x _ hx'
    rw [e, List.length_cons]
    omega
theorem isLet_yes {l x : List Nat} {a c : Nat} (h : l.drop a = c :: x) (hc : letB c = true) : isLet l a = true := by
  unfold isLet
  rw [get_at h]
  exact hc
theorem isLet_no {l x : List Nat} {a c : Nat} (h : l.drop a = c :: x) (hc : letB c = false) : isLet l a = false := by
  unfold isLet
  rw [get_at h]
  exact hc
theorem rdLine_ok {l rest : List Nat} {a r : Nat} {x : Str} {t : Int} (hx : okN x) (h1 : 1 ≤ t) (h2 : t ≤ 1000000000000) (h : l.drop a = It.tx (.line x t) ++ rest) (hs : Stop rest) : rdLine l a r = .ok (.line x t, a + (It.tx (.line x t)).length, r - 1) := by
  rw [It.tx, List.append_assoc, List.cons_append] at h
  obtain ⟨n1, n2, n3⟩ := hx
  have hn := nameEnd_ok h (by rw [Array.length_toList]; exact n1) (by rw [Array.length_toList]; exact n2) n3 (by decide)
  have hd := drop_at h
  have hb := rdBh_ok (x := [58]) hd
  have hd2 := drop_at (x := [58]) hd
  have hq := rdNum_ok (most := 1000000000000) hd2 (by omega) (by omega) hs
  have hc : cutN l a (nameEnd l a) = x := by
    unfold cutN
    rw [hn, h, show a + x.cps.toList.length - a = x.cps.toList.length by omega, List.take_left]
  unfold rdLine
  rw [hc, hn, hb]
  dsimp only
  rw [hq]
  dsimp only
  rw [It.tx, List.length_append, List.length_cons, Int.toNat_of_nonneg (by omega)]
  congr 3
  simp only [List.length_cons, List.length_nil]
  omega
theorem It.ni_ge (i : It) : 1 ≤ It.ni i := by
  cases i with
  | line _ _ => rw [It.ni]; exact Nat.le_refl _
  | loop _ _ => rw [It.ni]; omega
/-- what stands behind the first item -/
def moreT : List It → List Nat
  | [] => []
  | i :: is => 32 :: (It.tx i ++ moreT is)
theorem tx_more : ∀ (i : It) (is : List It), Its.tx (i :: is) = It.tx i ++ moreT is
  | i, [] => by rw [Its.tx, moreT, List.append_nil]
  | i, j :: is => by rw [Its.tx, moreT, tx_more j is]
/-- a reader that reads such items -/
def Reads (f : RdI) (l : List Nat) (G : It → Prop) : Prop := ∀ (i : It) (a r : Nat) (rest : List Nat), G i → l.drop a = It.tx i ++ rest → Stop rest → It.ni i ≤ r → f a r = .ok (i, a + (It.tx i).length, r - It.ni i)
theorem stop_more {is : List It} {rest : List Nat} (hs : Stop rest) : Stop (moreT is ++ rest) := by
  cases is with
  | nil => exact hs
  | cons i is =>
    intro c hc
    rw [moreT] at hc
    cases hc
    decide
theorem rdMore_ok {f : RdI} {l : List Nat} {G : It → Prop} (hf : Reads f l G) {rest : List Nat} (hs : Stop rest) (h32 : rest.head? ≠ some 32) : ∀ (k : Nat) (is : List It) (a r : Nat), is.length ≤ k → (∀ i ∈ is, G i) → l.drop a = moreT is ++ rest → Its.ni is ≤ r → rdMore f l k a r = .ok (is, a + (moreT is).length, r - Its.ni is)
  | k, [], a, r, _, _, h, _ => by
    rw [moreT, List.nil_append] at h
    rw [Its.ni, moreT]
    cases k with
    | zero => rfl
    | succ k =>
      rw [rdMore, if_neg]
      · rfl
      · rintro ⟨z, _⟩
        apply h32
        rw [← h, List.head?_drop]
        exact z
  | 0, i :: is, a, r, hl, _, _, _ => absurd hl (by rw [List.length_cons]; omega)
  | k + 1, i :: is, a, r, hl, hg, h, hn => by
    rw [moreT, List.cons_append, List.append_assoc] at h
    have hg32 : l[a]? = some 32 := get_at h
    have hd := drop_at (x := [32]) h
    have hi := It.ni_ge i
    rw [Its.ni] at hn
    have e1 := hf i (a + 1) r _ (hg i (List.mem_cons_self ..)) hd (stop_more hs) (by omega)
    have hd2 := drop_at hd
    have e2 := rdMore_ok hf hs h32 k is _ (r - It.ni i) (by rw [List.length_cons] at hl; omega) (fun j hj => hg j (List.mem_cons_of_mem _ hj)) hd2 (by omega)
    simp only [List.length_cons, List.length_nil] at e2
    rw [rdMore, if_pos ⟨hg32, by omega⟩, e1]
    dsimp only
    rw [Nat.zero_add] at e2
    rw [e2]
    dsimp only
    rw [moreT, Its.ni, List.length_cons, List.length_append]
    congr 3
    · omega
    · omega
theorem rdMany_ok {f : RdI} {l : List Nat} {G : It → Prop} (hf : Reads f l G) {rest : List Nat} (hs : Stop rest) (h32 : rest.head? ≠ some 32) {is : List It} {a r : Nat} (h1 : 1 ≤ is.length) (h2 : is.length ≤ 20) (hg : ∀ i ∈ is, G i) (h : l.drop a = Its.tx is ++ rest) (hn : Its.ni is ≤ r) :
    rdMany f l a r = .ok (is, a + (Its.tx is).length, r - Its.ni is) := by
  cases is with
  | nil => exact absurd h1 (by decide)
  | cons i is =>
    rw [tx_more, List.append_assoc] at h
    rw [Its.ni] at hn
    have e1 := hf i a r _ (hg i (List.mem_cons_self ..)) h (stop_more hs) (by omega)
    have e2 := rdMore_ok hf hs h32 19 is _ (r - It.ni i) (by rw [List.length_cons] at h2; omega) (fun j hj => hg j (List.mem_cons_of_mem _ hj)) (drop_at h) (by omega)
    unfold rdMany
    rw [e1]
    dsimp only
    rw [e2]
    dsimp only
    rw [tx_more, Its.ni, List.length_append]
    congr 3
    · omega
    · omega
theorem let_of_ok {x : Str} (h : okN x) : ∃ c cs, x.cps.toList = c :: cs ∧ letB c = true := by
  obtain ⟨n1, _, n3⟩ := h
  cases e : x.cps.toList with
  | nil =>
    rw [← Array.length_toList, e] at n1
    exact absurd n1 (by decide)
  | cons c cs =>
    rw [e] at n3
    exact ⟨c, cs, rfl, n3 c (List.mem_cons_self ..)⟩
theorem dig_let {c : Nat} (h : digB c = true) : letB c = false := by
  have z := digB_iff.mp h
  cases e : letB c with
  | false => rfl
  | true =>
    have := letB_iff.mp e
    omega
theorem rdIt_ok {l : List Nat} : ∀ d : Nat, Reads (rdIt l d) l (Vt d)
  | d, .line x t, a, r, rest, hv, h, hs, hn => by
    obtain ⟨hx, h1, h2⟩ := vt_line.mp hv
    obtain ⟨c, cs, e, hc⟩ := let_of_ok hx
    have hL : isLet l a = true := isLet_yes (c := c) (by rw [h, It.tx, e]; rfl) hc
    rw [It.ni]
    cases d with
    | zero => rw [rdIt]; dsimp only; rw [if_pos hL]; exact rdLine_ok hx h1 h2 h hs
    | succ d => rw [rdIt]; dsimp only; rw [if_pos hL]; exact rdLine_ok hx h1 h2 h hs
  | 0, .loop k is, a, r, rest, hv, _, _, _ => hv.elim
  | d + 1, .loop k is, a, r, rest, hv, h, hs, hn => by
    obtain ⟨k1, k2, l1, l2, hg⟩ : 1 ≤ k ∧ k ≤ 1000000000000000000 ∧ 1 ≤ is.length ∧ is.length ≤ 20 ∧ ∀ i ∈ is, Vt d i := hv
    have hni : 1 ≤ Its.ni is := by
      cases is with
      | nil => exact absurd l1 (by decide)
      | cons i is =>
        have := It.ni_ge i
        rw [Its.ni]
        omega
    rw [It.ni] at hn
    rw [It.tx, List.append_assoc] at h
    obtain ⟨c, cs, e, _⟩ := numL_head k.toNat (by omega)
    have hcd : digB c = true := numL_dig (n := k.toNat) (by rw [e]; exact List.mem_cons_self ..)
    have hL : isLet l a = false := isLet_no (c := c) (by rw [h, e]; rfl) (dig_let hcd)
    have e1 := rdNum_ok (most := 1000000000000000000) h (by omega) (by omega) (fun c hc => by cases hc; decide)
    have h2 := drop_at h
    have e2 := rdBh_ok (x := [42, 40]) (rest := Its.tx is ++ (41 :: rest)) (by rw [h2]; simp)
    have h3 := drop_at (x := [42, 40]) (y := Its.tx is ++ (41 :: rest)) (l := l) (a := a + (TL.numL k.toNat).length) (by rw [h2]; simp)
    have e3 := rdMany_ok (rdIt_ok d) (rest := 41 :: rest) (fun c hc => by cases hc; decide) (by simp) l1 l2 hg h3 (r := r - 1) (by omega)
    have h4 := drop_at h3
    have e4 := rdBh_ok (x := [41]) h4
    rw [rdIt]
    dsimp only
    rw [hL, if_neg Bool.false_ne_true]
    unfold rdLoop
    rw [if_neg (by omega), e1]
    dsimp only
    rw [e2]
    dsimp only
    rw [e3]
    dsimp only
    rw [e4]
    dsimp only
    rw [It.tx, It.ni, Int.toNat_of_nonneg (by omega)]
    simp only [List.length_append, List.length_cons, List.length_nil]
    congr 3
    · omega
    · omega
/-- what is written is read again -/
theorem rdP_ok {is : List It} (h1 : 1 ≤ is.length) (h2 : is.length ≤ 20) (h3 : Its.ni is ≤ 60) (hg : ∀ i ∈ is, Vt 5 i) : rdP (Its.tx is) = .ok is := by
  have e := rdMany_ok (rdIt_ok (l := Its.tx is) 5) (rest := []) (a := 0) (fun c hc => by cases hc) (by simp) h1 h2 hg (by rw [List.drop_zero, List.append_nil]) h3
  unfold rdP
  rw [e]
  dsimp only
  rw [if_neg (by omega)]
theorem tx_len_more : ∀ is : List It, (moreT is).length ≤ (is.map fun i => (It.tx i).length + 1).sum
  | [] => by
    rw [moreT]
    exact Nat.zero_le _
  | i :: is => by
    have := tx_len_more is
    rw [moreT, List.map_cons, List.sum_cons, List.length_cons, List.length_append]
    omega
mutual
theorem It.tx_len : ∀ (d : Nat) (i : It), Vt d i → (It.tx i).length + 1 ≤ 41 * It.ni i
  | d, .line x t, h => by
    obtain ⟨⟨_, n2, _⟩, h1, h2⟩ := vt_line.mp h
    have hl := TL.numL_len (n := t.toNat) (k := 13) (by decide) (by omega)
    rw [It.tx, It.ni, List.length_append, List.length_cons, Array.length_toList]
    omega
  | 0, .loop r is, h => h.elim
  | d + 1, .loop r is, h => by
    obtain ⟨h1, h2, _, _, hg⟩ : 1 ≤ r ∧ r ≤ 1000000000000000000 ∧ 1 ≤ is.length ∧ is.length ≤ 20 ∧ ∀ i ∈ is, Vt d i := h
    have hl := TL.numL_len (n := r.toNat) (k := 19) (by decide) (by omega)
    have z := Its.tx_len d is hg
    rw [It.tx, It.ni]
    simp only [List.length_append, List.length_cons, List.length_nil]
    omega
theorem Its.tx_len : ∀ (d : Nat) (is : List It), (∀ i ∈ is, Vt d i) → (Its.tx is).length ≤ 41 * Its.ni is
  | d, [], _ => by
    rw [Its.tx]
    exact Nat.zero_le _
  | d, i :: is, h => by
    have h1 := It.tx_len d i (h i (List.mem_cons_self ..))
    have h2 := Its.tx_len d is fun j hj => h j (List.mem_cons_of_mem _ hj)
    have h3 := It.ni_ge i
    cases is with
    | nil =>
      rw [Its.tx, Its.ni]
      omega
    | cons j is =>
      rw [Its.tx, Its.ni, List.length_append, List.length_cons]
      omega
end
def mkS (l : List Nat) : Str := ⟨l.toArray⟩
theorem tl_mkS (l : List Nat) : TL.tl (mkS l) = l := rfl
theorem mkS_eq {z : Str} {l : List Nat} (h : TL.tl z = l) : z = mkS l := TL.ext_tl h
theorem join_tx : ∀ is : List It, TL.joinL [32] (is.map It.tx) = Its.tx is
  | [] => by
    rw [Its.tx]
    rfl
  | [i] => by
    rw [Its.tx]
    rfl
  | i :: j :: is => by
    rw [Its.tx, ← join_tx (j :: is)]
    rfl
theorem txt_join (is : List It) : Txt.join (Str.ofString " ") (is.map fun i => mkS (It.tx i)) = mkS (Its.tx is) := by
  refine TL.ext_tl ?_
  rw [TL.join_eq, TL.tl_join, List.map_map, show TL.tl (Str.ofString " ") = [32] from by decide +kernel]
  exact join_tx is
theorem sum_tx {d : Nat} : ∀ is : List It, (∀ i ∈ is, Vt d i) → ((is.map fun i => mkS (It.tx i)).map (·.length)).sum + is.length ≤ 41 * Its.ni is
  | [], _ => Nat.zero_le _
  | i :: is, h => by
    have h1 := It.tx_len d i (h i (List.mem_cons_self ..))
    have h2 := sum_tx is fun j hj => h j (List.mem_cons_of_mem _ hj)
    rw [List.map_cons, List.map_cons, List.sum_cons, List.length_cons, Its.ni, TL.len_tl, tl_mkS]
    omega
theorem ni_mem0 : ∀ {is : List It} {i : It}, i ∈ is → It.ni i ≤ Its.ni is
  | j :: is, i, h => by
    rw [Its.ni]
    rcases List.mem_cons.mp h with rfl | h
    · exact Nat.le_add_right _ _
    · exact Nat.le_trans (ni_mem0 h) (Nat.le_add_left _ _)
theorem ni_len0 : ∀ is : List It, is.length ≤ Its.ni is
  | [] => Nat.zero_le _
  | i :: is => by
    have h1 := It.ni_ge i
    have h2 := ni_len0 is
    rw [Its.ni, List.length_cons]
    omega
theorem tw_go {p : Nat → Bool} : ∀ (y : List Nat) (k : Nat), k < (y.takeWhile p).length → ∃ c, y[k]? = some c ∧ p c = true
  | [], _, h => absurd h (Nat.not_lt_zero _)
  | c :: y, k, h => by
    rw [List.takeWhile_cons] at h
    by_cases e : p c = true
    · rw [if_pos e, List.length_cons] at h
      cases k with
      | zero => exact ⟨c, rfl, e⟩
      | succ k => exact tw_go y k (by omega)
    · rw [if_neg e] at h
      exact absurd h (Nat.not_lt_zero _)
theorem tw_end {p : Nat → Bool} : ∀ (y : List Nat) (c : Nat), y[(y.takeWhile p).length]? = some c → p c = false
  | [], _, h => by cases h
  | d :: y, c, h => by
    rw [List.takeWhile_cons] at h
    by_cases e : p d = true
    · rw [if_pos e, List.length_cons] at h
      exact tw_end y c h
    · rw [if_neg e] at h
      cases h
      exact Bool.eq_false_iff.mpr e
/-- the letters behind the first one -/
def nameL (l : List Nat) (a : Nat) : List Nat := ((l.drop (a + 1)).take 7).takeWhile letB
theorem nameL_le (l : List Nat) (a : Nat) : (nameL l a).length ≤ 7 := by
  have h := (List.takeWhile_sublist (p := letB) (l := (l.drop (a + 1)).take 7)).length_le
  rw [List.length_take] at h
  unfold nameL
  omega
theorem nameL_go {l : List Nat} {a k : Nat} (h : k < (nameL l a).length) : k < 7 ∧ isLet l (a + 1 + k) = true := by
  have h7 := nameL_le l a
  obtain ⟨c, hc, e⟩ := tw_go _ k h
  refine ⟨by omega, ?_⟩
  rw [List.getElem?_take, if_pos (by omega), List.getElem?_drop] at hc
  unfold isLet
  rw [hc]
  exact e
theorem nameL_end {l : List Nat} {a : Nat} (h : (nameL l a).length < 7) : isLet l (a + 1 + (nameL l a).length) = false := by
  unfold isLet
  cases hc : l[a + 1 + (nameL l a).length]? with
  | none => rfl
  | some c =>
    show letB c = false
    refine tw_end ((l.drop (a + 1)).take 7) c ?_
    rw [List.getElem?_take, if_pos (by exact h), List.getElem?_drop]
    exact hc
theorem nameEnd_eq (l : List Nat) (a : Nat) : nameEnd l a = a + 1 + (nameL l a).length := rfl
/-- digits read on, one by one -/
theorem numW_step {l : List Nat} {most n a : Nat} : numW most n (l.drop a) = match l[a]? with
    | some c => if digB c = true ∧ n * 10 + (c - 48) ≤ most then ((numW most (n * 10 + (c - 48)) (l.drop (a + 1))).1, (numW most (n * 10 + (c - 48)) (l.drop (a + 1))).2 + 1) else (n, 0)
    | none => (n, 0) := by
  cases h : l[a]? with
  | none =>
    rw [List.drop_eq_nil_of_le (List.getElem?_eq_none_iff.mp h)]
    rfl
  | some c =>
    obtain ⟨hl, e⟩ := List.getElem?_eq_some_iff.mp h
    rw [List.drop_eq_getElem_cons hl, e]
    rfl
/-- more items behind those that there are -/
def rdApp (js : List It) (r : Rdx (List It × Nat × Nat)) : Rdx (List It × Nat × Nat) := match r with
  | .error e => .error e
  | .ok x => .ok (js ++ x.1, x.2)
theorem rdMany_app (f : RdI) (l : List Nat) (a r : Nat) : rdMany f l a r = match f a r with
    | .error e => .error e
    | .ok x => rdApp [x.1] (rdMore f l 19 x.2.1 x.2.2) := by
  unfold rdMany
  cases f a r with
  | error e => rfl
  | ok x =>
    obtain ⟨i, a2, r2⟩ := x
    dsimp only
    cases rdMore f l 19 a2 r2 with
    | error e => rfl
    | ok y => rfl
theorem rdMore_no {f : RdI} {l : List Nat} {k a r : Nat} {js : List It} (h : k = 0 ∨ ¬ (l[a]? = some 32 ∧ 0 < r)) : rdApp js (rdMore f l k a r) = .ok (js, a, r) := by
  have e : rdMore f l k a r = .ok ([], a, r) := by
    cases k with
    | zero => rfl
    | succ k =>
      rcases h with h | h
      · cases h
      · rw [rdMore, if_neg h]
  rw [e]
  show Except.ok (js ++ [], a, r) = _
  rw [List.append_nil]
theorem rdMore_yes {f : RdI} {l : List Nat} {k a r : Nat} {js : List It} (h : l[a]? = some 32 ∧ 0 < r) : rdApp js (rdMore f l (k + 1) a r) = match f (a + 1) r with
    | .error e => .error e
    | .ok x => rdApp (js ++ [x.1]) (rdMore f l k x.2.1 x.2.2) := by
  rw [rdMore, if_pos h]
  cases f (a + 1) r with
  | error e => rfl
  | ok x =>
    obtain ⟨i, a2, r2⟩ := x
    dsimp only
    cases rdMore f l k a2 r2 with
    | error e => rfl
    | ok y =>
      show Except.ok (js ++ (i :: y.1), y.2) = Except.ok (js ++ [i] ++ y.1, y.2)
      rw [List.append_assoc]
      rfl
theorem rdMore_room {f : RdI} {l : List Nat} (hf : ∀ a r x, f a r = .ok x → x.2.2 ≤ r) : ∀ (k a r : Nat) (x : List It × Nat × Nat), rdMore f l k a r = .ok x → x.2.2 ≤ r
  | 0, a, r, x, h => by
    cases h
    exact Nat.le_refl _
  | k + 1, a, r, x, h => by
    rw [rdMore] at h
    split at h
    · cases hi : f (a + 1) r with
      | error e =>
        rw [hi] at h
        cases h
      | ok y =>
        obtain ⟨i, a2, r2⟩ := y
        rw [hi] at h
        dsimp only at h
        have h1 := hf _ _ _ hi
        cases hm : rdMore f l k a2 r2 with
        | error e =>
          rw [hm] at h
          cases h
        | ok y =>
          rw [hm] at h
          cases h
          have h2 := rdMore_room hf k a2 r2 y hm
          exact Nat.le_trans h2 h1
    · cases h
      exact Nat.le_refl _
theorem rdMany_room {f : RdI} {l : List Nat} (hf : ∀ a r x, f a r = .ok x → x.2.2 ≤ r) {a r : Nat} {x : List It × Nat × Nat} (h : rdMany f l a r = .ok x) : x.2.2 ≤ r := by
  unfold rdMany at h
  cases hi : f a r with
  | error e =>
    rw [hi] at h
    cases h
  | ok y =>
    obtain ⟨i, a2, r2⟩ := y
    rw [hi] at h
    dsimp only at h
    have h1 := hf _ _ _ hi
    cases hm : rdMore f l 19 a2 r2 with
    | error e =>
      rw [hm] at h
      cases h
    | ok y =>
      rw [hm] at h
      cases h
      have h2 := rdMore_room hf 19 a2 r2 y hm
      exact Nat.le_trans h2 h1
theorem rdLine_room {l : List Nat} {a r : Nat} {x : It × Nat × Nat} (h : rdLine l a r = .ok x) : x.2.2 ≤ r := by
  unfold rdLine at h
  cases hb : rdBh l [58] (nameEnd l a) with
  | error e =>
    rw [hb] at h
    cases h
  | ok b =>
    rw [hb] at h
    dsimp only at h
    cases hn : rdNum l 1000000000000 b with
    | error e =>
      rw [hn] at h
      cases h
    | ok y =>
      rw [hn] at h
      cases h
      exact Nat.sub_le _ _
theorem rdLoop_room {f : RdI} {l : List Nat} (hf : ∀ a r x, f a r = .ok x → x.2.2 ≤ r) {a r : Nat} {x : It × Nat × Nat} (h : rdLoop f l a r = .ok x) : x.2.2 ≤ r := by
  unfold rdLoop at h
  split at h
  · cases h
  · cases hn : rdNum l 1000000000000000000 a with
    | error e =>
      rw [hn] at h
      cases h
    | ok y =>
      obtain ⟨n, b⟩ := y
      rw [hn] at h
      dsimp only at h
      cases hb : rdBh l [42, 40] b with
      | error e =>
        rw [hb] at h
        cases h
      | ok c =>
        rw [hb] at h
        dsimp only at h
        cases hm : rdMany f l c (r - 1) with
        | error e =>
          rw [hm] at h
          cases h
        | ok y =>
          obtain ⟨is, d, r2⟩ := y
          rw [hm] at h
          dsimp only at h
          have h1 := rdMany_room hf hm
          cases he : rdBh l [41] d with
          | error e =>
            rw [he] at h
            cases h
          | ok e2 =>
            rw [he] at h
            cases h
            exact Nat.le_trans h1 (Nat.sub_le _ _)
theorem rdIt_room {l : List Nat} : ∀ {d a r : Nat} {x : It × Nat × Nat}, rdIt l d a r = .ok x → x.2.2 ≤ r
  | 0, a, r, x, h => by
    rw [rdIt] at h
    dsimp only at h
    split at h
    · exact rdLine_room h
    · cases h
  | d + 1, a, r, x, h => by
    rw [rdIt] at h
    dsimp only at h
    split at h
    · exact rdLine_room h
    · exact rdLoop_room (fun a r x => rdIt_room (d := d)) h
theorem numL_sm {n c : Nat} (h : c ∈ TL.numL n) : c ≤ 122 := by
  have z := digB_iff.mp (numL_dig h)
  omega
mutual
theorem It.tx_sm : ∀ (d : Nat) (i : It), Vt d i → ∀ c ∈ It.tx i, c ≤ 122
  | d, .line x t, h, c, hc => by
    obtain ⟨⟨_, _, n3⟩, _, _⟩ := vt_line.mp h
    rw [It.tx] at hc
    rcases List.mem_append.mp hc with hc | hc
    · exact (letB_iff.mp (n3 c hc)).2
    · rcases List.mem_cons.mp hc with rfl | hc
      · decide
      · exact numL_sm hc
  | 0, .loop r is, h, _, _ => h.elim
  | d + 1, .loop r is, h, c, hc => by
    obtain ⟨_, _, _, _, hg⟩ : 1 ≤ r ∧ r ≤ 1000000000000000000 ∧ 1 ≤ is.length ∧ is.length ≤ 20 ∧ ∀ i ∈ is, Vt d i := h
    rw [It.tx] at hc
    rcases List.mem_append.mp hc with hc | hc
    · exact numL_sm hc
    · rcases List.mem_cons.mp hc with rfl | hc
      · decide
      · rcases List.mem_cons.mp hc with rfl | hc
        · decide
        · rcases List.mem_append.mp hc with hc | hc
          · exact Its.tx_sm d is hg c hc
          · rw [List.mem_singleton.mp hc]
            decide
theorem Its.tx_sm : ∀ (d : Nat) (is : List It), (∀ i ∈ is, Vt d i) → ∀ c ∈ Its.tx is, c ≤ 122
  | d, [], _, c, hc => by
    rw [Its.tx] at hc
    cases hc
  | d, [i], h, c, hc => by
    rw [Its.tx] at hc
    exact It.tx_sm d i (h i (List.mem_cons_self ..)) c hc
  | d, i :: j :: is, h, c, hc => by
    rw [Its.tx] at hc
    rcases List.mem_append.mp hc with hc | hc
    · exact It.tx_sm d i (h i (List.mem_cons_self ..)) c hc
    · rcases List.mem_cons.mp hc with rfl | hc
      · decide
      · exact Its.tx_sm d (j :: is) (fun k hk => h k (List.mem_cons_of_mem _ hk)) c hc
end
end Ev

/-! ## Lists of numbers by place -/
namespace Ev
open PySem PySem.Spec PyProof.Rows L2
theorem divp_by {i j : Int} {n : Nat} (hj : 0 < j) (h : i.natAbs < 2 ^ n) (hn : n ≤ 4000) : CDivP i j :=
  divp_ok hj (Nat.le_trans (PyProof.Rows.intBits_le h) (by omega))
def LI (m : Nat) (f : Nat → Int) : List V := (List.range m).map fun c => V.int (f c)
section
variable {m : Nat} {f g : Nat → Int}
theorem LI_len : (LI m f).length = m := by
  unfold LI
  rw [List.length_map, List.length_range]
theorem LI_get {c : Nat} (h : c < m) : (LI m f)[c]? = some (.int (f c)) := by
  unfold LI
  rw [List.getElem?_map, List.getElem?_range h]
  rfl
theorem LI_ints : LI m f = ((List.range m).map f).map V.int := by
  unfold LI
  rw [List.map_map]
  rfl
theorem LI_congr (e : ∀ c, c < m → f c = g c) : LI m f = LI m g := by
  unfold LI
  exact List.map_congr_left fun c hc => by rw [e c (List.mem_range.mp hc)]
theorem LI_succ : LI (m + 1) f = LI m f ++ [.int (f m)] := by
  unfold LI
  rw [List.range_succ, List.map_append]
  rfl
theorem LI_ext {xs : List V} (hl : xs.length = m) (h : ∀ c, c < m → xs[c]? = some (.int (f c))) : xs = LI m f := by
  apply List.ext_getElem?
  intro c
  by_cases hc : c < m
  · rw [h c hc, LI_get hc]
  · rw [List.getElem?_eq_none (by omega), List.getElem?_eq_none (by rw [LI_len]; omega)]
theorem range_sum (f : Nat → Int) : ∀ m : Nat, ((List.range m).map f).sum = sumK f m
  | 0 => rfl
  | m + 1 => by
    rw [List.range_succ, List.map_append, List.sum_append, range_sum f m]
    show _ + (f m + 0) = _ + _
    omega
theorem LI_at {c : Nat} (h : c < m) : atI (LI m f) (c : Nat) = some (.int (f c)) := atI_of (LI_get h)
/-- from the end -/
theorem LI_neg {c : Nat} (h0 : 0 < c) (h : c ≤ m) : atI (LI m f) (-(c : Int)) = some (.int (f (m - c))) := by
  have e : ixN (LI m f).length (-(c : Int)) = some (m - c) := by
    unfold ixN
    rw [LI_len, if_neg (by omega), if_pos (by omega)]
    congr 1
    omega
  unfold atI
  rw [e]
  exact LI_get (by omega)
theorem ixN_nat {n c : Nat} (h : c < n) : ixN n (c : Nat) = some c := by
  unfold ixN
  rw [if_pos (by omega), if_pos (by omega)]
  rfl
theorem cutV_from (xs : List V) (i : Nat) : cutV xs (some (i : Nat)) none = xs.drop i := by
  unfold cutV
  rw [HT.sIx_none, HT.sIx_nat]
  by_cases h : i ≤ xs.length
  · rw [Nat.min_eq_left h, List.take_of_length_le (by rw [List.length_drop]; exact Nat.le_refl _)]
  · rw [Nat.min_eq_right (by omega), List.drop_of_length_le (Nat.le_refl _), List.drop_of_length_le (by omega), List.take_nil]
theorem cutV_to (xs : List V) (i : Nat) : cutV xs none (some (i : Nat)) = xs.take i := by
  unfold cutV
  rw [HT.sIx_none, HT.sIx_nat, List.drop_zero, Nat.sub_zero]
  by_cases h : i ≤ xs.length
  · rw [Nat.min_eq_left h]
  · rw [Nat.min_eq_right (by omega), List.take_of_length_le (by omega), List.take_of_length_le (by omega)]
theorem LI_drop {r : Nat} (h : r ≤ m) : (LI m f).drop r = LI (m - r) fun k => f (r + k) := by
  refine LI_ext (by rw [List.length_drop, LI_len]) fun c hc => ?_
  rw [List.getElem?_drop, LI_get (by omega)]
/-- starts that are moved on -/
theorem LI_moved (hm : 0 < m) (s : Nat) {cut : Nat} (hc : (cut : Int) = (-(s : Int)) % m) : (LI m f).drop cut ++ (LI m f).take cut = LI m (mvF m s f) := by
  have c1 := Int.emod_lt_of_pos (-(s : Int)) (show (0 : Int) < m by omega)
  have z := div_mod (-(s : Int)) m
  refine LI_ext (by rw [List.length_append, List.length_drop, List.length_take, LI_len]; omega) fun c hcm => ?_
  unfold mvF
  by_cases h : c < m - cut
  · rw [List.getElem?_append_left (by rw [List.length_drop, LI_len]; exact h), List.getElem?_drop, LI_get (by omega), rot_eq hm (r := cut + c) (q := (-(s : Int)) / m) (by omega) (by omega)]
  · rw [List.getElem?_append_right (by rw [List.length_drop, LI_len]; omega), List.length_drop, LI_len, List.getElem?_take_of_lt (by omega), LI_get (by omega), rot_eq hm (r := c - (m - cut)) (q := (-(s : Int)) / m + 1) (by omega) ?_]
    rw [Int.mul_add, Int.mul_one]
    omega
end
theorem LI_set {m c : Nat} {f : Nat → Int} {v : Int} (h : c < m) : (LI m f).set c (.int v) = LI m fun x => if x = c then v else f x := by
  refine LI_ext (by rw [List.length_set, LI_len]) fun x hx => ?_
  by_cases e : x = c
  · subst e
    rw [List.getElem?_set_self (by rw [LI_len]; exact h), if_pos rfl]
  · rw [List.getElem?_set_ne (fun z => e z.symm), LI_get hx, if_neg e]
theorem LI_zero (m : Nat) : (List.replicate m [V.int 0]).flatten = LI m fun _ => 0 := by
  refine LI_ext ?_ fun c hc => ?_
  · induction m with
    | zero => rfl
    | succ m ih => rw [List.replicate_succ, List.flatten_cons, List.length_append, ih]; show 1 + m = m + 1; omega
  · have e : ∀ m : Nat, (List.replicate m [V.int 0]).flatten = List.replicate m (V.int 0) := fun m => by
      induction m with
      | zero => rfl
      | succ m ih => rw [List.replicate_succ, List.flatten_cons, ih]; rfl
    rw [e, List.getElem?_replicate, if_pos hc]
/-- one turned back, by a place that may be below 0 -/
theorem LI_back {m i r : Nat} {f : Nat → Int} (hi : i < m) (hr : r < m) : atI (LI m f) ((i : Int) - (r : Int)) = some (.int (f (rot m i r))) := by
  by_cases h : r ≤ i
  · rw [show (i : Int) - r = ((i - r : Nat) : Int) by omega, LI_at (by omega), rot_eq (by omega) (r := i - r) (q := 0) (by omega) (by omega)]
  · rw [show (i : Int) - r = -((r - i : Nat) : Int) by omega, LI_neg (by omega) (by omega), rot_eq (by omega) (r := m - (r - i)) (q := -1) (by omega) (by omega)]
theorem none_of {H H' : Hp} {p : Addr} (s : Same H H') (n : H' p = none) : H p = none := by
  cases e : H p with
  | none => rfl
  | some o =>
    rw [s _ _ e] at n
    cases n
/-- [elt for i in range(n)], the elements plain values -/
theorem g_lcR1 {H0 : Hp} {σ : L2.St} {te : TE} {ys : List V} {ta : TA} {n : Nat} {g : TG} {vs : List Nat} (hta : ∀ (H : Hp) (Q : List V → Hp → Prop), Same H0 H → Q [.int (n : Nat)] H → ta σ H Q) (hz : n ≤ 1000000) (hl : ys.length = n)
    (he : ∀ (j : Nat) (y : V), ys[j]? = some y → ∀ (H : Hp) (R : VK), Same H0 H → (∀ H', Same H H' → R y H') → g (.int (0 + j)) (wipe σ vs) H fun σ2 H2 => wipe σ2 vs = wipe σ vs ∧ te σ2 H2 R) :
    Gives H0 (tLc (iRng1 ta) g tYes te vs) (gLst (ys.map gEq)) σ := fun H Q s q => by
  refine hta H _ s ⟨(n : Nat), rfl, by omega, by omega, fun D nD => ?_⟩
  have y := sizeLine_eq
  rw [Int.toNat_natCast]
  refine lc_range (lo := 0) (n := n) (fun k H' => Same H H' ∧ H' D = some (.lst (ys.take k))) ⟨same_put nD, upd_same⟩ ?_ ?_
  · rintro k H' hk ⟨s', eD⟩
    have hk' : k < ys.length := by omega
    have hy := List.getElem?_eq_getElem hk'
    refine cast ?_ (he k ys[k] hy H' (fun y H4 => ∃ acc, H4 D = some (.lst acc) ∧ acc.length < sizeLine ∧ Same H (upd H4 D (.lst (acc ++ [y]))) ∧ upd H4 D (.lst (acc ++ [y])) D = some (.lst (ys.take (k + 1)))) (s.trans s') fun H4 s4 => ⟨_, s4 _ _ eD, ?_, ?_, ?_⟩)
    · rfl
    · rw [List.length_take]
      omega
    · intro b o e
      rw [upd_ne (ne_of_none e nD)]
      exact s4 _ _ (s' _ _ e)
    · rw [upd_same, List.take_add_one, hy]
      rfl
  · rintro H' ⟨s', eD⟩
    rw [← hl, List.take_length] at eD
    exact q H' _ s' ⟨D, ys, rfl, eD, allEq⟩
theorem s_asg {te : TE} {i : Nat} {rest : TS} {D : Ends} {σ : L2.St} {H : Hp} (h : te σ H fun u H' => rest D (σ.set i (some u)) H') : tSeq (tAsg te (gName i)) rest D σ H := h
theorem s_call {sp : Sp} {te : TE} {ta : TA} {i : Nat} {rest : TS} {D : Ends} {σ : L2.St} {H : Hp} (h : te σ H fun u H1 => ta σ H1 fun us H2 => sp (u :: us ++ []) H2 (fun v H' => rest D (σ.set i (some v)) H') E0) : tSeq (tAsg (tCall sp [] E0 (tCons te ta)) (gName i)) rest D σ H := h
/-- the same, the list being new -/
theorem lc_rng {σ : L2.St} {H : Hp} {Q : VK} {te : TE} {ys : List V} {ta : TA} {n : Nat} {g : TG} {vs : List Nat} (hta : ∀ (Q : List V → Hp → Prop), Q [.int (n : Nat)] H → ta σ H Q) (hz : n ≤ 1000000) (hl : ys.length = n)
    (he : ∀ (j : Nat) (y : V), ys[j]? = some y → ∀ (H' : Hp) (R : VK), Same H H' → (∀ H'', Same H' H'' → R y H'') → g (.int (0 + j)) (wipe σ vs) H' fun σ2 H2 => wipe σ2 vs = wipe σ vs ∧ te σ2 H2 R)
    (q : ∀ H' D, Same H H' → H D = none → H' D = some (.lst ys) → Q (.ref D) H') : tLc (iRng1 ta) g tYes te vs σ H Q := by
  refine hta _ ⟨(n : Nat), rfl, by omega, by omega, fun D nD => ?_⟩
  have y := sizeLine_eq
  rw [Int.toNat_natCast]
  refine lc_range (lo := 0) (n := n) (fun k H' => Same H H' ∧ H' D = some (.lst (ys.take k))) ⟨same_put nD, upd_same⟩ ?_ ?_
  · rintro k H' hk ⟨s', eD⟩
    have hk' : k < ys.length := by omega
    have hy := List.getElem?_eq_getElem hk'
    refine cast ?_ (he k ys[k] hy H' (fun y H4 => ∃ acc, H4 D = some (.lst acc) ∧ acc.length < sizeLine ∧ Same H (upd H4 D (.lst (acc ++ [y]))) ∧ upd H4 D (.lst (acc ++ [y])) D = some (.lst (ys.take (k + 1)))) s' fun H4 s4 => ⟨_, s4 _ _ eD, ?_, ?_, ?_⟩)
    · rfl
    · rw [List.length_take]
      omega
    · intro b o e
      rw [upd_ne (ne_of_none e nD)]
      exact s4 _ _ (s' _ _ e)
    · rw [upd_same, List.take_add_one, hy]
      rfl
  · rintro H' ⟨s', eD⟩
    rw [← hl, List.take_length] at eD
    exact q H' D s' nD eD
/-- [elt for x in a list], the elements plain values, the list new -/
theorem lc_lst {K : PySem.W.Frag} {σ : L2.St} {H : Hp} {Q : VK} {te ti : TE} {a : Addr} {xs ys : List V} {g : TG} {vs : List Nat} (hi : ∀ Q : VK, Q (.ref a) H → ti σ H Q) (hx : SqL K H a xs) (hz : xs.length ≤ 1000000) (hl : ys.length = xs.length)
    (he : ∀ (j : Nat) (x y : V), xs[j]? = some x → ys[j]? = some y → ∀ (H' : Hp) (R : VK), Same H H' → (∀ H'', Same H' H'' → R y H'') → g x (wipe σ vs) H' fun σ2 H2 => wipe σ2 vs = wipe σ vs ∧ te σ2 H2 R)
    (q : ∀ H' D, Same H H' → H D = none → H' D = some (.lst ys) → Q (.ref D) H') : tLc (iList K ti) g tYes te vs σ H Q := by
  refine hi _ ⟨a, rfl, ⟨xs, hx⟩, fun D nD => ?_⟩
  have y := sizeLine_eq
  refine lc_list (K := K) (a := a) (xs := xs) (fun k H' => Same H H' ∧ H' D = some (.lst (ys.take k))) ⟨same_put nD, upd_same⟩ (fun k H' _ ⟨s', _⟩ => s'.seq hx) ?_ ?_
  · rintro k x H' hk ⟨s', eD⟩
    have hk' : k < ys.length := by
      obtain ⟨h, _⟩ := List.getElem?_eq_some_iff.mp hk
      omega
    have hy := List.getElem?_eq_getElem hk'
    refine cast ?_ (he k x ys[k] hk hy H' (fun y H4 => ∃ acc, H4 D = some (.lst acc) ∧ acc.length < sizeLine ∧ Same H (upd H4 D (.lst (acc ++ [y]))) ∧ upd H4 D (.lst (acc ++ [y])) D = some (.lst (ys.take (k + 1)))) s' fun H4 s4 => ⟨_, s4 _ _ eD, ?_, ?_, ?_⟩)
    · rfl
    · rw [List.length_take]
      omega
    · intro b o e
      rw [upd_ne (ne_of_none e nD)]
      exact s4 _ _ (s' _ _ e)
    · rw [upd_same, List.take_add_one, hy]
      rfl
  · rintro H' ⟨s', eD⟩
    rw [← hl, List.take_length] at eD
    exact q H' D s' nD eD
/-! ### how great the numbers are -/
def Bd (R m : Nat) (f : Nat → Int) : Prop := ∀ c, c < m → (f c).natAbs < 2 ^ R
theorem sum_bd {h : Nat → Int} {R n B : Nat} (hb : ∀ k, k < n → (h k).natAbs < 2 ^ R) (hn : n < 2 ^ B) : (sumK h n).natAbs < 2 ^ (R + B) := by
  have a := sumK_le (M := (2 ^ R : Nat)) (h := h) (n := n) fun k hk => by
    have := hb k hk
    omega
  have b : n * 2 ^ R < 2 ^ B * 2 ^ R := Nat.mul_lt_mul_of_pos_right hn (Nat.pos_of_ne_zero (by simp))
  rw [← Int.natCast_mul] at a
  rw [Nat.add_comm, Nat.pow_add]
  omega
theorem bd_rep {R B m s t : Nat} {f : Nat → Int} (hm : 0 < m) (hf : Bd R m f) (ht : t < 2 ^ B) : Bd (R + B) m (repF m s t f) := fun _ _ => sum_bd (fun _ _ => hf _ (rot_lt hm _ _)) ht
theorem bd_mv {R m s : Nat} {f : Nat → Int} (hm : 0 < m) (hf : Bd R m f) : Bd R m (mvF m s f) := fun _ _ => hf _ (rot_lt hm _ _)
theorem Bd.up {R R' m : Nat} {f : Nat → Int} (hf : Bd R m f) (h : R ≤ R') : Bd R' m f := fun c hc => Nat.lt_of_lt_of_le (hf c hc) (Nat.pow_le_pow_right (by decide) h)
end Ev

/-! ## Slices with steps; sorted lists of texts -/
namespace Ev
open PySem PySem.Spec PyProof.Rows L2
/-- sorted(xs), texts, any number of them -/
def rSortedSA (K : PySem.W.Frag) : List V → Hp → VK → Prop := fun vs H Q => ∃ (a : Addr) (xs : List Str), vs = [V.ref a] ∧ SqL K H a (xs.map V.str) ∧ ∀ p, H p = none → Q (.ref p) (upd H p (.lst ((srtS xs).map V.str)))
section
variable {X : Cx}
theorem cr_sortedSA : CallR X (.builtin "sorted") (rSortedSA X.K) := by
  intro pins s σ H vs us Q I r h
  obtain ⟨a, xs, rfl, hs, q⟩ := h
  obtain ⟨its, rv, hl, hz⟩ := I.list hs
  rw [Vals.ref1 r]
  have hlen0 := rv.length
  rw [List.length_map] at hlen0 hz
  refine PyProof.Rows.sorted_strsAny hl.isList rv.strs (by omega) fun out ys h1 h2 h3 => ?_
  obtain ⟨ep, he'⟩ := PyProof.Rows.sortedAll_at s.heap its out
  have hlen : (ys.map V.str).length ≤ sizeLine := by rw [List.length_map, h2.length_eq]; exact hz
  rw [← srt_is h2 h3] at q
  exact ⟨.ref _, upd H (s.heap.objs.size + 1) (.lst (ys.map V.str)), I.laid (t' := s.toks) (fun _ _ => PyProof.Rows.sortedAll_old) (Nat.le_succ _) ⟨hlen, out.toList, ep, vals_of_strs h1, he'⟩, rfl, q _ (I.hok.fresh (Nat.le_succ _))⟩
end
/-! ### xs[a:b:c] -/
def pickX {α : Type} (xs : List α) (lo hi st : Option Int) : List α := (sliceRange (sliceBounds lo hi st xs.length).1 (sliceBounds lo hi st xs.length).2.1 (sliceBounds lo hi st xs.length).2.2).filterMap (xs[·]?)
theorem vals_pick {xs : List V} {us : List Value} (r : Vals xs us) : ∀ l : List Nat, Vals (l.filterMap (xs[·]?)) (l.filterMap (us[·]?))
  | [] => .nil
  | i :: l => by
    have ih := vals_pick r l
    have hl := r.length
    by_cases h : i < xs.length
    · have e1 := List.getElem?_eq_getElem h
      obtain ⟨u, hu, ru⟩ := r.get e1
      rw [List.filterMap_cons_some (f := (xs[·]?)) e1, List.filterMap_cons_some (f := (us[·]?)) hu]
      exact .cons ru ih
    · rw [List.filterMap_cons_none (f := (xs[·]?)) (List.getElem?_eq_none (by omega)), List.filterMap_cons_none (f := (us[·]?)) (List.getElem?_eq_none (by omega))]
      exact ih
def tSl3 (K : PySem.W.Frag) (te : TE) (tl tu ts : TO) : TE := fun σ H Q => te σ H fun x H1 => tl σ H1 fun lo H2 => tu σ H2 fun hi H3 => ts σ H3 fun st H4 => ∃ a xs, x = .ref a ∧ SqL K H4 a xs ∧ st ≠ some 0 ∧
  ∀ p, H4 p = none → Q (.ref p) (upd H4 p (.lst (pickX xs lo hi st)))
section
variable {X : Cx}
theorem pe_slice3 {e : Expr} {ol ou os : Option Expr} {te : TE} {tl tu ts : TO} {p3 pos : Pos} (he : PE X e te) (hl : PO X ol tl) (hu : PO X ou tu) (hs : PO X os ts)
    (ht : ∀ (a : Addr) (b : Addr) , subscripted (.Slice ol ou os p3) false (.ref a) (.ref b) = operate [.ref a, .ref b] (getItem (.ref a) (.ref b)) := by intros; with_unfolding_all rfl) : PE X (.Subscript e (.Slice ol ou os p3) pos) (tSl3 X.K te tl tu ts) := by
  refine ⟨fun pins s σ H Q I h => ?_⟩
  refine Subscript_ (thn (he.run pins s σ H _ I h) fun v s1 ⟨x, H1, I1, r1, q1⟩ => ?_)
  refine wpAny_Slice (thn (hl.run pins s1 σ H1 _ I1 q1) fun vl s2 ⟨l, H2, I2, pl, q2⟩ => ?_)
  refine thn (hu.run pins s2 σ H2 _ I2 q2) fun vu s3 ⟨u, H3, I3, pu, q3⟩ => ?_
  refine thn (hs.run pins s3 σ H3 _ I3 q3) fun vs s4 ⟨o, H4, I4, ps, q4⟩ => ?_
  obtain ⟨a, xs, ex, hx, h0, q⟩ := q4
  subst ex
  cases r1
  have I5 : Inv X pins σ H4 { s4 with heap := s4.heap.push { cls := .type "slice", data := .fields #[vl, vu, vs] } } := I4.kept (t' := s4.toks) fun b ob q => Heap.get?_push_of_some _ q
  obtain ⟨its, r, hT, hz⟩ := I5.list hx
  have hlen := r.length
  show wpAny (model X.prog X.w) X.A (subscriptTail e (.Slice ol ou os p3) (.ref a) (.ref s4.heap.objs.size)) (EP X pins σ Q) X.xe { s4 with heap := s4.heap.push { cls := .type "slice", data := .fields #[vl, vu, vs] } }
  refine tail_any (ops := [.ref a, .ref s4.heap.objs.size]) hT.isList.typeIs (PySem.slot_list_getitem.lookup) ?_ (ht _ _)
  refine wpAny_getItem_list_slice hT.isList (Heap.IsSliceOf.new _ vl vu vs) pl pu ps h0 ?_ (by rw [List.size_toArray]; omega)
  have ep : slicePick its.toArray l u o = (pickX its l u o).toArray := by
    unfold slicePick pickX
    rw [List.size_toArray]
    simp only [List.getElem?_toArray]
  rw [ep]
  have hv : Vals (pickX xs l u o) (pickX its l u o) := by
    unfold pickX
    rw [← hlen]
    exact vals_pick r _
  have hpl : (pickX xs l u o).length ≤ sizeLine := by
    have z := slicePick_size_le its.toArray l u o
    rw [ep, List.size_toArray, List.size_toArray] at z
    have := hv.length
    omega
  refine ⟨.ref _, _, I5.laid (t' := s4.toks) (o := .lst (pickX xs l u o)) (fun b ob q => Heap.get?_push_of_some _ q) (Nat.le_refl _) ?_, rfl, q _ (I5.hok.fresh (Nat.le_refl _))⟩
  exact ⟨hpl, _, 0, hv, Heap.get?_push_size _ rfl⟩
end
/-! ### classes of a row -/
def clsL (m c k : Nat) : List Nat := (List.range k).filter fun i => decide (i % m = c)
theorem cls_count {n : Str} {m c : Nat} (w : List Str) : ∀ k, k ≤ w.length → (((clsL m c k).filterMap (w[·]?)).count n : Int) = cf n m c (w.take k) 0
  | 0, _ => by
    rw [List.take_zero]
    rfl
  | k + 1, h => by
    have ih := cls_count (n := n) (m := m) (c := c) w k (by omega)
    have e := List.getElem?_eq_getElem (show k < w.length by omega)
    have e1 : clsL m c (k + 1) = clsL m c k ++ if k % m = c then [k] else [] := by
      unfold clsL
      rw [List.range_succ, List.filter_append]
      congr 1
      by_cases h' : k % m = c
      · rw [if_pos h']
        exact List.filter_cons_of_pos (p := fun i => decide (i % m = c)) (decide_eq_true h')
      · rw [if_neg h']
        exact List.filter_cons_of_neg (p := fun i => decide (i % m = c)) (by rw [decide_eq_false h']; exact Bool.false_ne_true)
    rw [e1, List.filterMap_append, List.count_append, List.take_add_one, e, cf_app, List.length_take, Nat.min_eq_left (by omega), ← ih]
    show _ = _ + ((if w[k] = n ∧ (0 + k) % m = c then 1 else 0) + 0)
    rw [Nat.zero_add]
    by_cases h' : k % m = c
    · rw [if_pos h', List.filterMap_cons_some (f := (w[·]?)) e, List.filterMap_nil, List.count_singleton]
      by_cases h2 : w[k] = n
      · rw [if_pos (beq_iff_eq.mpr h2), if_pos ⟨h2, h'⟩]
        omega
      · rw [if_neg (fun z => h2 (beq_iff_eq.mp z)), if_neg (fun z => h2 z.1)]
        omega
    · rw [if_neg h', if_neg (fun z => h' z.2), List.filterMap_nil, List.count_nil]
      omega
theorem range_cls {m c N : Nat} (hm : 0 < m) (hc : c < m) : (sliceRange (max 0 (min (c : Int) N)) N m).Perm (clsL m c N) := by
  by_cases hN : c < N
  · have ea : max 0 (min (c : Int) N) = (c : Int) := by omega
    have eq : sliceRange (max 0 (min (c : Int) N)) N m = (List.range ((N - c + m - 1) / m)).map fun k => c + m * k := by
      rw [ea]
      unfold sliceRange
      dsimp only
      rw [if_pos (show (m : Int) > 0 by omega), if_pos (show (c : Int) < N by omega)]
      have e1 : ((N : Int) - c + m - 1) / m = (((N - c + m - 1) / m : Nat) : Int) := by
        rw [Int.natCast_ediv]
        congr 1
        omega
      rw [e1, Int.toNat_natCast]
      refine List.map_congr_left fun k _ => ?_
      rw [show (c : Int) + (m : Int) * (k : Int) = ((c + m * k : Nat) : Int) by rw [Int.natCast_add, Int.natCast_mul], Int.toNat_natCast]
    rw [eq]
    refine (List.perm_ext_iff_of_nodup ?_ ?_).mpr fun x => ?_
    · refine List.Pairwise.map _ ?_ (List.nodup_range (n := (N - c + m - 1) / m))
      intro a b hab e
      exact hab (Nat.eq_of_mul_eq_mul_left hm (by omega))
    · exact List.Pairwise.filter _ (List.nodup_range (n := N))
    · rw [List.mem_map]
      unfold clsL
      rw [List.mem_filter, List.mem_range, decide_eq_true_iff]
      constructor
      · rintro ⟨k, hk, rfl⟩
        have hk := (Nat.lt_div_iff_mul_lt hm).mp (List.mem_range.mp hk)
        rw [Nat.mul_comm] at hk
        exact ⟨by omega, by rw [Nat.add_mul_mod_self_left, Nat.mod_eq_of_lt hc]⟩
      · rintro ⟨h1, h2⟩
        have e := Nat.div_add_mod x m
        refine ⟨x / m, List.mem_range.mpr ((Nat.lt_div_iff_mul_lt hm).mpr ?_), by omega⟩
        rw [Nat.mul_comm]
        omega
  · have ea : max 0 (min (c : Int) N) = (N : Int) := by omega
    have e1 : sliceRange (max 0 (min (c : Int) N)) N m = [] := by
      rw [ea]
      unfold sliceRange
      dsimp only
      rw [if_pos (show (m : Int) > 0 by omega), if_neg (show ¬ (N : Int) < N by omega)]
      rfl
    have e2 : clsL m c N = [] := by
      unfold clsL
      rw [List.filter_eq_nil_iff]
      intro i hi h
      have h := of_decide_eq_true h
      have hi := List.mem_range.mp hi
      have := Nat.mod_le i m
      omega
    rw [e1, e2]
/-- xs[c::m] is the class of c -/
theorem pick_cls {w : List Str} {m c : Nat} (hm : 0 < m) (hc : c < m) : (pickX w (some (c : Nat)) none (some (m : Nat))).Perm ((clsL m c w.length).filterMap (w[·]?)) := by
  unfold pickX
  have e : sliceBounds (some ((c : Nat) : Int)) none (some ((m : Nat) : Int)) w.length = (max 0 (min (c : Int) w.length), (w.length : Int), (m : Int)) := by
    unfold sliceBounds
    dsimp only
    rw [Option.getD_some, if_pos (show (m : Int) > 0 by omega), if_pos (show (m : Int) > 0 by omega), if_neg (show ¬ (c : Int) < 0 by omega)]
  rw [e]
  exact (range_cls hm hc).filterMap _
theorem pick_count {w : List Str} {n : Str} {m c : Nat} (hm : 0 < m) (hc : c < m) : ((pickX w (some (c : Nat)) none (some (m : Nat))).count n : Int) = cf n m c w 0 := by
  rw [(pick_cls hm hc).count_eq, cls_count w w.length (Nat.le_refl _), List.take_length]
theorem pick_map (w : List Str) (lo hi st : Option Int) : pickX (w.map V.str) lo hi st = (pickX w lo hi st).map V.str := by
  unfold pickX
  rw [List.length_map, List.map_filterMap]
  congr 1
  funext i
  exact List.getElem?_map
/-! ### lists of texts as data -/
theorem eqv_strs : ∀ xs ys : List Str, PyData.eqvAll (xs.map PyData.str) (ys.map PyData.str) = decide (xs = ys)
  | [], [] => by
    rw [List.map_nil, PyData.eqvAll]
    rfl
  | [], _ :: _ => by
    rw [List.map_nil, List.map_cons, PyData.eqvAll]
    · rfl
    all_goals (intros; contradiction)
  | _ :: _, [] => by
    rw [List.map_nil, List.map_cons, PyData.eqvAll]
    · rfl
    all_goals (intros; contradiction)
  | x :: xs, y :: ys => by
    rw [List.map_cons, List.map_cons, PyData.eqvAll, eqv_strs xs ys, PyData.eqv]
    by_cases h1 : x = y
    · by_cases h2 : xs = ys
      · rw [decide_eq_true h2, h1, h2]
        simp
      · rw [decide_eq_false h2, decide_eq_false (fun z => h2 (List.cons.inj z).2), Bool.and_false]
    · rw [decide_eq_false (fun z => h1 (List.cons.inj z).1)]
      simp [h1]
theorem eqv_lstr (xs ys : List Str) : PyData.eqv (.list (xs.map PyData.str)) (.list (ys.map PyData.str)) = decide (xs = ys) := by
  rw [PyData.eqv, eqv_strs]
theorem lay_strs {w : List Str} (h : ∀ x ∈ w, PyData.strOk x = true) : SeqAt.shaped (.list (w.map PyData.str)) = true := by
  have h1 : PyData.canLayAll0 (w.map PyData.str) = true ∧ PyData.depthAll (w.map PyData.str) = 0 := by
    induction w with
    | nil => exact ⟨by rw [List.map_nil, PyData.canLayAll0], by rw [List.map_nil, PyData.depthAll]⟩
    | cons x w ih =>
      obtain ⟨i1, i2⟩ := ih fun z hz => h z (List.mem_cons_of_mem _ hz)
      refine ⟨?_, ?_⟩
      · rw [List.map_cons, PyData.canLayAll0, i1, PyData.canLay0, h x (List.mem_cons_self ..)]
        rfl
      · rw [List.map_cons, PyData.depthAll, i2, PyData.depth]
        rfl
  unfold SeqAt.shaped
  rw [PyData.canLay0, h1.1, PyData.depth, h1.2]
  rfl
theorem dpl_strs {K : PySem.W.Frag} {H : Hp} {a : Addr} {w : List Str} (h : SqL K H a (w.map V.str)) : Dp K H (.ref a) (.list (w.map PyData.str)) := by
  refine .lst h ?_
  clear h
  induction w with
  | nil => exact .nil
  | cons x w ih => exact .cons (.str x) ih
theorem srt_perm_iff {l m : List Str} : srtS l = srtS m ↔ l.Perm m := by
  constructor
  · intro e
    exact (srt_perm l).symm.trans (e ▸ srt_perm m)
  · intro h
    exact pw_same (srt_pw l) (srt_pw m) ((srt_perm l).trans (h.trans (srt_perm m).symm))
end Ev

/-! ## Signs of a text; an error that tells a place -/
namespace Ev
open PySem PySem.Spec PyProof.Rows L2
theorem da_tupE {K : PySem.W.Frag} {H : Hp} {v : V} {ds : List PyData} (h : Da K H v (.tuple ds)) : ∃ a xs, v = .ref a ∧ SqT K H a xs ∧ DaAll K H xs ds := by
  cases h with
  | tup hs ha => exact ⟨_, _, rfl, hs, ha⟩
/-- an error of class C that tells a place, and nothing else -/
def RzP (C : Addr) (n : Nat) (H : Hp) (E : XK) : Prop := ∀ H' dd, Same H H' → H' dd = some (.xd [("position", .int (n : Nat))]) → E (.ref C) (some dd) H'
theorem RzP.same {C : Addr} {n : Nat} {H H1 : Hp} {E : XK} (h : RzP C n H E) (s : Same H H1) : RzP C n H1 E := fun H' dd s' => h H' dd (s.trans s')
theorem RzP.go {C : Addr} {n : Nat} {H : Hp} {E : XK} (h : RzP C n H E) : [V.int (n : Nat)].length ≤ 1000 ∧ ∀ a, H a = none → spInit1 C "position" (.ref a :: ([V.int (n : Nat)] ++ [])) (upd H a (exo a C none))
    (fun u H2 => u = .non ∧ ∃ (d : Addr) (fs : List (Str × V)), H2 a = some (exo a C (some d)) ∧ H2 d = some (exd d fs) ∧ H d = none ∧ E (.ref C) (some d) (upd (del H2 a) d (.xd fs))) (fun _ _ _ => False) :=
  raise1_go fun dd nd => h _ dd (same_put nd) upd_same
/-- what reading a place gives: goes on, or raises -/
def RdG {α : Type} (r : Rdx α) (C : Addr) (H : Hp) (E : XK) (G : α → Prop) : Prop := match r with
  | .ok x => G x
  | .error e => RzP C e H E
theorem RdG.same {α : Type} {r : Rdx α} {C : Addr} {H H1 : Hp} {E : XK} {G G1 : α → Prop} (h : RdG r C H E G) (s : Same H H1) (k : ∀ x, G x → G1 x) : RdG r C H1 E G1 := by
  cases r with
  | ok x => exact k x h
  | error e => exact RzP.same h s
/-- the sign at a place, if there is one -/
def sgN (l : List Nat) (a : Nat) : List Nat := match l[a]? with
  | some c => [c]
  | none => []
theorem take_one {l : List Nat} {a : Nat} : (l.drop a).take 1 = sgN l a := by
  unfold sgN
  cases h : l[a]? with
  | none => rw [List.drop_eq_nil_of_le (List.getElem?_eq_none_iff.mp h)]; rfl
  | some c =>
    obtain ⟨hl, e⟩ := List.getElem?_eq_some_iff.mp h
    rw [List.drop_eq_getElem_cons hl, e]
    rfl
theorem sIx_nat {n d a : Nat} : HT.sIx n d (some (a : Int)) = min a n := by
  first
    | rfl
    | (unfold HT.sIx; simp; omega)
theorem cut_nat {z : Str} {a b : Nat} : cutS z (some (a : Int)) (some (b : Int)) = cutN (TL.tl z) a b := by
  unfold cutS cutN
  rw [sIx_nat, sIx_nat]
  have hz : z.length = z.cps.toList.length := TL.len_tl z
  congr 2
  show (z.cps.toList.drop _).take _ = (z.cps.toList.drop a).take (b - a)
  rw [hz]
  by_cases ha : a ≤ z.cps.toList.length
  · rw [Nat.min_eq_left ha]
    by_cases hb : b ≤ z.cps.toList.length
    · rw [Nat.min_eq_left hb]
    · rw [Nat.min_eq_right (by omega), List.take_of_length_le (by rw [List.length_drop]; omega), List.take_of_length_le (by rw [List.length_drop]; omega)]
  · rw [List.drop_eq_nil_of_le (Nat.le_of_not_le ha), List.drop_eq_nil_of_le (by rw [Nat.min_eq_right (by omega)]; exact Nat.le_refl _)]
    simp
/-- text[a:a + 1] -/
theorem cut_sg {z : Str} {a : Nat} : cutS z (some (a : Int)) (some ((a : Int) + 1)) = ⟨(sgN (TL.tl z) a).toArray⟩ := by
  rw [show ((a : Int) + 1) = ((a + 1 : Nat) : Int) from rfl, cut_nat]
  unfold cutN
  rw [show a + 1 - a = 1 by omega, take_one]
def sgB (p : Nat → Bool) (l : List Nat) (a : Nat) : Bool := match l[a]? with
  | some c => p c
  | none => false
theorem one_lt {a b : Nat} : [a] < [b] ↔ a < b := by
  rw [List.cons_lt_cons_iff]
  simp
/-- lo <= text[a:a + 1] <= hi -/
theorem sg_between {l : List Nat} {a lo hi : Nat} : ((!decide (sgN l a < [lo])) && !decide ([hi] < sgN l a)) = sgB (fun c => decide (lo ≤ c) && decide (c ≤ hi)) l a := by
  unfold sgN sgB
  cases h : l[a]? with
  | none => simp
  | some c =>
    have e1 : decide ([c] < [lo]) = decide (c < lo) := decide_eq_decide.mpr one_lt
    have e2 : decide ([hi] < [c]) = decide (hi < c) := decide_eq_decide.mpr one_lt
    show ((!decide ([c] < [lo])) && !decide ([hi] < [c])) = _
    rw [e1, e2, Bool.eq_iff_iff]
    simp
theorem sgN_eq {l : List Nat} {a c : Nat} : sgN l a = [c] ↔ l[a]? = some c := by
  unfold sgN
  cases h : l[a]? with
  | none => simp
  | some d => simp
theorem str_mk {x y : List Nat} : (V.str ⟨x.toArray⟩ = V.str ⟨y.toArray⟩) ↔ x = y := by
  constructor
  · intro h
    injection h with h
    injection h with h
    have z := congrArg Array.toList h
    simpa using z
  · rintro rfl
    rfl
theorem dig_int {c : Nat} (h : digB c = true) : intText? ⟨#[c]⟩ = some ((c - 48 : Nat) : Int) := by
  obtain ⟨h1, h2⟩ := digB_iff.mp h
  have : ∀ k : Nat, k < 10 → intText? ⟨#[48 + k]⟩ = some (k : Int) := by decide +kernel
  have z := this (c - 48) (by omega)
  rw [show 48 + (c - 48) = c by omega] at z
  exact z
theorem sg_let {l : List Nat} {a : Nat} : ((!decide ((⟨(sgN l a).toArray⟩ : Str).cps.toList < [97])) && !decide ([122] < (⟨(sgN l a).toArray⟩ : Str).cps.toList)) = isLet l a := by
  show ((!decide (sgN l a < [97])) && !decide ([122] < sgN l a)) = _
  rw [sg_between]
  rfl
theorem sg_dig {l : List Nat} {a lo : Nat} : ((!decide ((⟨(sgN l a).toArray⟩ : Str).cps.toList < [lo])) && !decide ([57] < (⟨(sgN l a).toArray⟩ : Str).cps.toList)) = sgB (fun c => decide (lo ≤ c) && decide (c ≤ 57)) l a := by
  show ((!decide (sgN l a < [lo])) && !decide ([57] < sgN l a)) = _
  exact sg_between
theorem sgN_len (l : List Nat) (a : Nat) : (⟨(sgN l a).toArray⟩ : Str).length ≤ 1 := by
  rw [TL.len_tl]
  show (sgN l a).length ≤ 1
  unfold sgN
  cases l[a]? with
  | none => exact Nat.zero_le _
  | some c => exact Nat.le_refl _
/-- lo <= sign <= "9" -/
theorem btw_go {σ : L2.St} {H : Hp} {te : TE} {lo : Str} {n : Nat} {l : List Nat} {a : Nat} (hlo : lo.cps.toList = [n]) (he : ∀ Q : VK, Q (.str ⟨(sgN l a).toArray⟩) H → te σ H Q) {Q : Bool → Hp → Prop} (q : Q (sgB (fun c => decide (n ≤ c) && decide (c ≤ 57)) l a) H) :
    tTest (tChain (fun x y H Q => ∃ i j, x = .str i ∧ y = .str j ∧ Q (.bl (!decide (j.cps.toList < i.cps.toList))) H) (fun x y H Q => ∃ i j, x = .str i ∧ y = .str j ∧ Q (.bl (!decide (j.cps.toList < i.cps.toList))) H) (tC (.str lo)) te (tC (.str (Str.ofString "9")))) σ H Q := by
  have s9 : (Str.ofString "9").cps.toList = [57] := by decide +kernel
  refine he _ ⟨_, _, rfl, rfl, _, rfl, ?_⟩
  rw [hlo]
  rw [← sg_dig] at q
  by_cases h : (!decide ((⟨(sgN l a).toArray⟩ : Str).cps.toList < [n])) = true
  · rw [if_pos h]
    rw [h, Bool.true_and] at q
    refine ⟨_, _, rfl, rfl, _, rfl, ?_⟩
    rw [s9]
    exact q
  · rw [if_neg h]
    rw [Bool.eq_false_iff.mpr h, Bool.false_and] at q
    exact ⟨_, rfl, q⟩
theorem sgB_some {p : Nat → Bool} {l : List Nat} {a c : Nat} (h : l[a]? = some c) : sgB p l a = p c := by
  unfold sgB
  rw [h]
theorem sgB_none {p : Nat → Bool} {l : List Nat} {a : Nat} (h : l[a]? = none) : sgB p l a = false := by
  unfold sgB
  rw [h]
theorem sl1_go {σ : L2.St} {H : Hp} {z : Str} {a i j : Nat} (hz : z.length ≤ sizeLine) (h0 : σ[i]? = some (some (.str z))) (h1 : σ[j]? = some (some (.int (a : Nat)))) : ∀ Q : VK, Q (.str ⟨(sgN (TL.tl z) a).toArray⟩) H → tSl rSlS (tVar i) (tPart (tVar j)) (tPart (tOp (rI0 fun i j => .int (i + j)) (tVar j) (tC (.int 1)))) σ H Q := fun Q q => by
  refine ⟨_, h0, _, h1, _, rfl, _, h1, _, _, rfl, rfl, _, rfl, z, rfl, hz, ?_⟩
  rw [cut_sg]
  exact q
theorem da2 {K : PySem.W.Frag} {H : Hp} {u : V} {d1 d2 : PyData} (h : Da K H u (.tuple [d1, d2])) : ∃ a x y, u = .ref a ∧ SqT K H a [x, y] ∧ Da K H x d1 ∧ Da K H y d2 := by
  obtain ⟨a, xs, rfl, hs, ha⟩ := da_tupE h
  cases ha with
  | cons h1 ha =>
  cases ha with
  | cons h2 ha =>
  cases ha
  exact ⟨a, _, _, rfl, hs, h1, h2⟩
theorem da3 {K : PySem.W.Frag} {H : Hp} {u : V} {d1 d2 d3 : PyData} (h : Da K H u (.tuple [d1, d2, d3])) : ∃ a x y v, u = .ref a ∧ SqT K H a [x, y, v] ∧ Da K H x d1 ∧ Da K H y d2 ∧ Da K H v d3 := by
  obtain ⟨a, xs, rfl, hs, ha⟩ := da_tupE h
  cases ha with
  | cons h1 ha =>
  cases ha with
  | cons h2 ha =>
  cases ha with
  | cons h3 ha =>
  cases ha
  exact ⟨a, _, _, _, rfl, hs, h1, h2, h3⟩
theorem da_intE {K : PySem.W.Frag} {H : Hp} {u : V} {i : Int} (h : Da K H u (.int i)) : u = .int i := by
  cases h
  rfl
theorem da_strE {K : PySem.W.Frag} {H : Hp} {u : V} {x : Str} (h : Da K H u (.str x)) : u = .str x := by
  cases h
  rfl
end Ev

/-! ## _law_text_caught: what a call told, or at which place of a text it stopped -/
namespace Ev
open PySem PySem.Spec PyProof.Rows L2
open LamX (CodeO TabS Tabs ExtN TabB LamS lamCx lamEnv GivesTo tLam)
/-- the error of texts, and two others -/
structure TxC (K : PySem.W.Frag) (mg : Str → Option Value) (cS cB cP cC : Addr) : Prop where
  cls : ErrC K cB
  fld : PySem.W.findIn K (.ref cB) "position" = some none
  up : PySem.W.exmOne K (.ref cB) (.ref cS) = some true
  own : PySem.W.kitOne K (.ref cB) (.ref cB) = some true
  oth : PySem.W.kitAny K (.ref cB) [.ref cP, .ref cC] = some false
  val : PySem.W.kitOne K (.ref cB) (.type "ValueError") = some true
  gS : mg "SampleError" = some (.ref cS)
  gB : mg "BadText" = some (.ref cB)
  gP : mg "BadProgram" = some (.ref cP)
  gC : mg "BadCommand" = some (.ref cC)
  nV : mg "ValueError" = none
theorem Kept.sameX {H H' : Hp} {a C : Addr} {fs : Option (List (Str × V))} (k : Kept H a C fs) (s : Same H H') : Kept H' a C fs := by
  obtain ⟨d, ea, m⟩ := k
  refine ⟨d, s _ _ ea, ?_⟩
  match d, fs, m with
  | none, none, _ => trivial
  | some d, some l, m => exact s _ _ m
/-- what is told of an error -/
def ErX (cB : Addr) (Q : VK) : XK := fun cls d H' => ∃ (dd : Addr) (n : Nat), cls = .ref cB ∧ d = some dd ∧ H' dd = some (.xd [("position", .int (n : Nat))]) ∧ ∀ H'' t, Same H' H'' → H'' t = some (.tup [.str "text", .int (n : Nat)]) → Q (.ref t) H''
def TTx (cB : Addr) : (XK → Hp → VK → Prop) → Hp → VK → Prop := fun tl H Q => ∀ (H1 : Hp) (R : VK), Same H H1 → (∀ v H', (∀ H'' t, Same H' H'' → H'' t = some (.tup [.str "told", v]) → Q (.ref t) H'') → R v H') → tl (ErX cB Q) H1 R
theorem scCx : FnScope ["_law_call", "_law_caught", "_law_told_here", "error", "_law_is_other"] ["_law_call"] (defScope (topS 23)) := ⟨rfl, rfl, rfl, by decide +kernel, rfl, by decide +kernel, by decide +kernel⟩
section
variable {K : PySem.W.Frag} {mg : Str → Option Value}
theorem text_gives {X : Cx} {q : Str} {c_SampleError c_BadText c_BadProgram c_BadCommand : Addr} (Z : TxC X.K X.mg c_SampleError c_BadText c_BadProgram c_BadCommand) (nb : NB X.mg) (g : Addr) (cdg : Value) :
    GivesTo X ["_law_call", "_law_caught", "_law_told_here", "error", "_law_is_other"] "_law_text_caught" (defScope (topS 23)) g cdg (defBody (topS 23)) "_law_call" q (TTx c_BadText) := by
  have g_SampleError := Z.gS
  have g_BadText := Z.gB
  have g_BadProgram := Z.gP
  have g_BadCommand := Z.gC
  have n_ValueError := Z.nV
  intro f c' s H Q tl act hc h
  refine ⟨_, (pss_cons (ps_asg (pe_tup (pa_cons pe_non (pa_cons pe_non pa_nil))) (pg_tup rfl (pgs_cons (pg_name (i := 1) scCx.nd rfl (Or.inl rfl)) (pgs_cons (pg_name (i := 2) scCx.nd rfl (Or.inl rfl)) pgs_nil))))
      (pss_cons (ps_try_kept (i := 3) (tb := fun W D σ H => ∃ Ech : XK, (∀ cls d σ' H', σ'.length = 5 → Ech cls d H' → W cls d σ' H') ∧ σ[0]? = some (some (.ref f)) ∧ H c' = some (CodeO c' q) ∧ tl Ech H fun v H' => D.nx (σ.set 2 (some v)) H') rfl rfl rfl scCx.nd rfl rfl ⟨rfl, rfl, .inl g_SampleError⟩
        (fun W pn xe tkB => ⟨fun pins s' σ H' D I ⟨Ech, hW, h1, h2, h3⟩ => (pss_one (ps_set (i := 2) scCx.nd rfl (.inl rfl) (act (fun cls d _ H => Ech cls d H) pn xe Ech _ _ (takes_len tkB fun c d σ H hl he => hW c d σ H hl he) fun _ _ _ _ z => z))).run pins s' σ H' D I ⟨h1, h2, h3⟩⟩)
        (fun a pn => (pss_one (ps_set (i := 1) scCx.nd rfl (.inl rfl) (pv 3)))))
      (pss_cons (ps_if (pt_cmp (pc_isN (pv 1)) rfl)
        (pss_one (ps_ret (pe_tup (pa_cons pe_str (pa_cons (pv 2) pa_nil)))))
        pss_nil)
      (pss_cons (ps_set (i := 4) scCx.nd rfl (.inl rfl) (pe_or (pe_callB call_isKT (by rfl) nb.at (by decide +kernel) (pa_cons (pv 1) (pa_cons (pe_tup (pa_cons (pe_glob (v := .ref c_BadProgram) rfl g_BadProgram rfl) (pa_cons (pe_glob (v := .ref c_BadCommand) rfl g_BadCommand rfl) pa_nil))) pa_nil))) (pe_one (pe_not (pe_callB call_isK (by rfl) nb.at (by decide +kernel) (pa_cons (pv 1) (pa_cons (ty_of (T := "ValueError") rfl n_ValueError (by decide +kernel)) pa_nil)))))))
      (pss_one (ps_ret (pe_ifExp (PW.pt (pw_and (pt_val (pe_callB call_isK (by rfl) nb.at (by decide +kernel) (pa_cons (pv 1) (pa_cons (pe_glob (v := .ref c_BadText) rfl g_BadText rfl) pa_nil)))) (pw_and1 (pt_not (pt_val (pv 4)))))) (pe_tup (pa_cons pe_str (pa_cons (pe_atK (pv 1)) pa_nil))) (pe_tup (pa_cons pe_str (pa_cons pe_non pa_nil)))))))))), ?_⟩
  refine ⟨(by show 2 ≤ sizeLine; decide), fun t0 nt0 => ⟨t0, _, rfl, .inl (.inl upd_same), rfl, _, _, rfl, _, _, rfl, rfl, ErX c_BadText Q, fun cls d σ' H' hl he => ?_, rfl, ?_, ?_⟩⟩
  · obtain ⟨y0, y1, y2, y3, y4, rfl⟩ : ∃ y0 y1 y2 y3 y4 : Option V, σ' = [y0, y1, y2, y3, y4] := by
      match σ', hl with
      | [a, b, c, d, e], _ => exact ⟨a, b, c, d, e, rfl⟩
    obtain ⟨dd, n, rfl, rfl, hd, qq⟩ := he
    refine ⟨Z.up, fun a na => ?_⟩
    have da : dd ≠ a := fun z => by
      rw [z, na] at hd
      cases hd
    have kp : Kept (upd H' a (XcO a (.ref c_BadText) (some dd))) a c_BadText (some [("position", .int (n : Nat))]) := ⟨some dd, upd_same, by show upd H' a _ dd = _; rw [upd_ne da]; exact hd⟩
    have s0 := same_put (o := XcO a (.ref c_BadText) (some dd)) na
    refine ⟨_, rfl, _, rfl, false, congrArg V.bl (decide_eq_false nofun), iteF ?_⟩
    refine ⟨_, rfl, (by show 2 ≤ sizeLine; decide), fun t nt => ?_⟩
    have k1 := kp.sameX (same_put (o := .tup [.ref c_BadProgram, .ref c_BadCommand]) nt)
    refine ⟨a, c_BadText, _, t, _, _, false, rfl, k1, Z.cls, upd_same, .cons (.own _) (.cons (.own _) .nil), Z.oth, false, rfl, iteF ⟨_, rfl, a, c_BadText, _, _, _, true, rfl, k1, Z.cls, .ty _, Z.val, true, rfl, ?_⟩⟩
    refine ⟨_, rfl, a, c_BadText, _, _, _, true, rfl, k1, Z.cls, .own _, Z.own, true, rfl, iteT ⟨_, rfl, _, rfl, iteT ?_⟩⟩
    exact ⟨_, rfl, a, c_BadText, _, _, rfl, k1, Z.cls, Z.fld, rfl, (by show 2 ≤ sizeLine; decide), fun t2 nt2 => qq _ t2 (s0.trans ((same_put nt).trans (same_put nt2))) upd_same⟩
  · exact same_put nt0 _ _ hc
  · refine h _ _ (same_put nt0) fun v H' qq => ?_
    refine ⟨_, rfl, true, congrArg V.bl (decide_eq_true rfl), iteT ⟨_, rfl, (by show 2 ≤ sizeLine; decide), fun t nt => qq _ t (same_put nt) upd_same⟩⟩
end
end Ev

/-! ## Weaker promises; numbers from 0 -/
namespace Ev
open PySem PySem.Spec PyProof.Rows L2
theorem FnG.imp {P : Program} {w : World} {K : PySem.W.Frag} {mg : Str → Option Value} {base : Heap} {CX : CXT} {k : Nat} {f : Addr} {fd : FuncData} {ps : List Str} {sp sp' : Sp} (F : FnG P w K mg base CX k f fd ps sp)
    (h : ∀ vs H Q E, sp' vs H Q E → sp vs H Q E) : FnG P w K mg base CX k f fd ps sp' :=
  ⟨fun vs H Q E z => F.many vs H Q E (h _ _ _ _ z), fun A o s H args us vs Q E hr gd e b v z => F.go A o s H args us vs Q E hr gd e b v (h _ _ _ _ z)⟩
theorem Cal.imp {P : Program} {w : World} {K : PySem.W.Frag} {mg : Str → Option Value} {base : Heap} {k : Nat} {x : Str} {ps : List Str} {sp sp' : Sp} (C : Cal P w K mg base k x ps sp) (h : ∀ vs H Q E, sp' vs H Q E → sp vs H Q E) : Cal P w K mg base k x ps sp' := by
  obtain ⟨f, fd, F, b, m, v⟩ := C.ex
  exact ⟨f, fd, F.imp h, b, m, v⟩
theorem nn_mem : ∀ {is : List It} {i : It}, Its.nn is → i ∈ is → It.nn i
  | j :: is, i, h, m => by
    rw [Its.nn] at h
    rcases List.mem_cons.mp m with rfl | m
    · exact h.1
    · exact nn_mem h.2 m
theorem nn_of : ∀ {is : List It}, (∀ i ∈ is, It.nn i) → Its.nn is
  | [], _ => by
    rw [Its.nn]
    trivial
  | i :: is, h => by
    rw [Its.nn]
    exact ⟨h i (List.mem_cons_self ..), nn_of fun j hj => h j (List.mem_cons_of_mem _ hj)⟩
theorem nn_app {is js : List It} (h : Its.nn is) (k : Its.nn js) : Its.nn (is ++ js) := nn_of fun i hi => by
  rcases List.mem_append.mp hi with z | z
  · exact nn_mem h z
  · exact nn_mem k z
end Ev

/-! ## List comprehensions with a test, the elements plain values -/
namespace Ev
open PySem PySem.Spec PyProof.Rows L2
/-- what a turn does -/
def Turn (H : Hp) (σ : L2.St) (g : TG) (tt : TT) (te : TE) (vs : List Nat) (f : V → Bool) (e : V → V) (x : V) : Prop := ∀ (H' : Hp) (N : Hp → Prop) (R : VK), Same H H' → (f x = false → ∀ H'', Same H' H'' → N H'') → (f x = true → ∀ H'', Same H' H'' → R (e x) H'') →
  g x (wipe σ vs) H' fun σ2 H2 => wipe σ2 vs = wipe σ vs ∧ tt σ2 H2 fun b H3 => if b = true then te σ2 H3 R else N H3
theorem filt_step {f : V → Bool} {e : V → V} {xs : List V} {k : Nat} {x : V} (h : xs[k]? = some x) : ((xs.take (k + 1)).filter f).map e = ((xs.take k).filter f).map e ++ (if f x = true then [e x] else []) := by
  rw [List.take_add_one, h, List.filter_append, List.map_append]
  congr 1
  show (([x] : List V).filter f).map e = _
  by_cases hf : f x = true
  · rw [if_pos hf, List.filter_cons_of_pos hf]
    rfl
  · rw [if_neg hf, List.filter_cons_of_neg hf]
    rfl
theorem turn_inv {H H' : Hp} {σ : L2.St} {g : TG} {tt : TT} {te : TE} {vs : List Nat} {f : V → Bool} {e : V → V} {xs : List V} {k : Nat} {x : V} {D : Addr} (nD : H D = none) (hz : xs.length ≤ 1000000) (hx : xs[k]? = some x) (ht : Turn H σ g tt te vs f e x) (s' : Same H H') (eD : H' D = some (.lst (((xs.take k).filter f).map e))) :
    g x (wipe σ vs) H' fun σ2 H2 => wipe σ2 vs = wipe σ vs ∧ tt σ2 H2 fun b H3 => if b = true then te σ2 H3 (fun y H4 => ∃ acc, H4 D = some (.lst acc) ∧ acc.length < sizeLine ∧ Same H (upd H4 D (.lst (acc ++ [y]))) ∧ upd H4 D (.lst (acc ++ [y])) D = some (.lst (((xs.take (k + 1)).filter f).map e))) else Same H H3 ∧ H3 D = some (.lst (((xs.take (k + 1)).filter f).map e)) := by
  have y := sizeLine_eq
  refine ht H' (fun H3 => Same H H3 ∧ H3 D = some (.lst (((xs.take (k + 1)).filter f).map e))) _ s' (fun hf H3 s3 => ⟨s'.trans s3, ?_⟩) (fun hf H4 s4 => ⟨_, s4 _ _ eD, ?_, ?_, ?_⟩)
  · rw [filt_step hx, if_neg (by rw [hf]; exact Bool.false_ne_true), List.append_nil]
    exact s3 _ _ eD
  · rw [List.length_map]
    have z := List.length_filter_le f (xs.take k)
    rw [List.length_take] at z
    omega
  · intro b o h
    rw [upd_ne (ne_of_none h nD)]
    exact s4 _ _ (s' _ _ h)
  · rw [upd_same, filt_step hx, if_pos hf]
theorem turn_yes {H : Hp} {σ : L2.St} {g : TG} {te : TE} {vs : List Nat} {e : V → V} {x : V} (h : ∀ (H' : Hp) (R : VK), Same H H' → (∀ H'', Same H' H'' → R (e x) H'') → g x (wipe σ vs) H' fun σ2 H2 => wipe σ2 vs = wipe σ vs ∧ te σ2 H2 R) : Turn H σ g tYes te vs (fun _ => true) e x := fun H' N R s' _ hR => h H' R s' (hR rfl)
/-- over a list -/
theorem lcF_list {K : PySem.W.Frag} {σ : L2.St} {H : Hp} {Q : VK} {tt : TT} {te ti : TE} {a : Addr} {xs : List V} {g : TG} {vs : List Nat} (f : V → Bool) (e : V → V) (hi : ∀ Q : VK, Q (.ref a) H → ti σ H Q) (hx : SqL K H a xs) (hz : xs.length ≤ 1000000)
    (he : ∀ x ∈ xs, Turn H σ g tt te vs f e x) (q : ∀ H' D, Same H H' → H D = none → H' D = some (.lst ((xs.filter f).map e)) → Q (.ref D) H') : tLc (iList K ti) g tt te vs σ H Q := by
  refine hi _ ⟨a, rfl, ⟨xs, hx⟩, fun D nD => ?_⟩
  refine lc_list (K := K) (a := a) (xs := xs) (fun k H' => Same H H' ∧ H' D = some (.lst (((xs.take k).filter f).map e))) ⟨same_put nD, by rw [List.take_zero]; exact upd_same⟩ (fun k H' _ ⟨s', _⟩ => s'.seq hx) ?_ ?_
  · rintro k x H' hk ⟨s', eD⟩
    exact turn_inv nD hz hk (he x (List.mem_of_getElem? hk)) s' eD
  · rintro H' ⟨s', eD⟩
    rw [List.take_length] at eD
    exact q H' D s' nD eD
theorem lcF_tup {K : PySem.W.Frag} {σ : L2.St} {H : Hp} {Q : VK} {tt : TT} {te ti : TE} {a : Addr} {xs : List V} {g : TG} {vs : List Nat} (f : V → Bool) (e : V → V) (hi : ∀ Q : VK, Q (.ref a) H → ti σ H Q) (hx : SqT K H a xs) (hz : xs.length ≤ 1000000)
    (he : ∀ x ∈ xs, Turn H σ g tt te vs f e x) (q : ∀ H' D, Same H H' → H D = none → H' D = some (.lst ((xs.filter f).map e)) → Q (.ref D) H') : tLc (iTup K ti) g tt te vs σ H Q := by
  refine hi _ ⟨a, rfl, ⟨xs, hx⟩, fun D nD => ?_⟩
  refine lc_tup (K := K) (a := a) (xs := xs) (fun k H' => Same H H' ∧ H' D = some (.lst (((xs.take k).filter f).map e))) ⟨same_put nD, by rw [List.take_zero]; exact upd_same⟩ (fun k H' _ ⟨s', _⟩ => seqT_mono s' hx) ?_ ?_
  · rintro k x H' hk ⟨s', eD⟩
    exact turn_inv nD hz hk (he x (List.mem_of_getElem? hk)) s' eD
  · rintro H' ⟨s', eD⟩
    rw [List.take_length] at eD
    exact q H' D s' nD eD
/-- the numbers from a to b - 1 -/
def rgN (a b : Nat) : List Nat := (List.range (b - a)).map fun k => a + k
theorem rgN_len (a b : Nat) : (rgN a b).length = b - a := by
  unfold rgN
  rw [List.length_map, List.length_range]
theorem rgN_mem {a b x : Nat} : x ∈ rgN a b ↔ a ≤ x ∧ x < b := by
  unfold rgN
  rw [List.mem_map]
  constructor
  · rintro ⟨k, hk, rfl⟩
    have := List.mem_range.mp hk
    omega
  · intro h
    exact ⟨x - a, List.mem_range.mpr (by omega), by omega⟩
theorem rgN_get {a b k : Nat} (h : k < b - a) : (rgN a b)[k]? = some (a + k) := by
  unfold rgN
  rw [List.getElem?_map, List.getElem?_range h]
  rfl
abbrev nV (n : Nat) : V := .int (n : Nat)
theorem filt_nV {f : V → Bool} {e : V → V} {l : List Nat} : ((l.map nV).filter f).map e = (l.filter fun n => f (nV n)).map fun n => e (nV n) := by
  rw [List.filter_map, List.map_map]
  rfl
def fV (f : Nat → Bool) : V → Bool
  | .int i => f i.toNat
  | _ => false
def eV (e : Nat → V) : V → V
  | .int i => e i.toNat
  | v => v
theorem filt_fe {f : Nat → Bool} {e : Nat → V} {l : List Nat} : ((l.map nV).filter (fV f)).map (eV e) = (l.filter f).map e := by
  rw [filt_nV]
  rfl
theorem filt_all {e : Nat → V} {l : List Nat} : ((l.map nV).filter (fun _ => true)).map (eV e) = l.map e := by
  rw [List.filter_eq_self.mpr (fun _ _ => rfl), List.map_map]
  rfl
theorem lcF_core {σ : L2.St} {H : Hp} {Q : VK} {tt : TT} {te : TE} {g : TG} {vs : List Nat} {a b : Nat} (f : V → Bool) (e : V → V) (hz : b ≤ 1000000) (he : ∀ x ∈ (rgN a b).map nV, Turn H σ g tt te vs f e x)
    (q : ∀ H' D, Same H H' → H D = none → H' D = some (.lst ((((rgN a b).map nV).filter f).map e)) → Q (.ref D) H') {lo : Int} (hlo : lo = (a : Nat)) (D : Addr) (nD : H D = none) : ∃ W : Nat → Nat → Hp → Prop, (∃ m, W 0 m (upd H D (.lst []))) ∧ ∀ i m H, W i m H →
  ((Itr lo (b - a)).stop i H ∧ Q (.ref D) H) ∨ ((Itr lo (b - a)).go i H ∧ ∃ Nx : Hp → Prop, (∀ H', Nx H' → ∃ m', m' < m ∧ W (i + 1) m' H') ∧ ∀ x H', (Itr lo (b - a)).yld i H x H' → g x (wipe σ vs) H' fun σ2 H2 => wipe σ2 vs = wipe σ vs ∧ tt σ2 H2 fun b H3 =>
    if b = true then te σ2 H3 fun y H4 => ∃ acc, H4 D = some (.lst acc) ∧ acc.length < sizeLine ∧ Nx (upd H4 D (.lst (acc ++ [y]))) else Nx H3) := by
  have hzl : ((rgN a b).map nV).length ≤ 1000000 := by
    rw [List.length_map, rgN_len]
    omega
  refine lc_range (lo := lo) (n := b - a) (fun k H' => Same H H' ∧ H' D = some (.lst (((((rgN a b).map nV).take k).filter f).map e))) ⟨same_put nD, by rw [List.take_zero]; exact upd_same⟩ ?_ ?_
  · rintro k H' hk ⟨s', eD⟩
    have hx : ((rgN a b).map nV)[k]? = some (.int (lo + (k : Nat))) := by
      rw [List.getElem?_map, rgN_get hk, hlo]
      show some (V.int ((a + k : Nat) : Int)) = _
      rw [Int.natCast_add]
    exact turn_inv nD hzl hx (he _ (List.mem_of_getElem? hx)) s' eD
  · rintro H' ⟨s', eD⟩
    have hl : b - a = ((rgN a b).map nV).length := by rw [List.length_map, rgN_len]
    rw [hl, List.take_length] at eD
    exact q H' D s' nD eD
theorem lcF_rng1 {σ : L2.St} {H : Hp} {Q : VK} {tt : TT} {te : TE} {ta : TA} {n : Nat} {g : TG} {vs : List Nat} (f : V → Bool) (e : V → V) (hta : ∀ (Q : List V → Hp → Prop), Q [.int (n : Nat)] H → ta σ H Q) (hz : n ≤ 1000000)
    (he : ∀ x ∈ (rgN 0 n).map nV, Turn H σ g tt te vs f e x) (q : ∀ H' D, Same H H' → H D = none → H' D = some (.lst ((((rgN 0 n).map nV).filter f).map e)) → Q (.ref D) H') : tLc (iRng1 ta) g tt te vs σ H Q := by
  refine hta _ ⟨(n : Nat), rfl, by omega, by omega, fun D nD => ?_⟩
  rw [Int.toNat_natCast]
  exact lcF_core (a := 0) (b := n) f e hz he q rfl D nD
theorem lcF_rng2 {σ : L2.St} {H : Hp} {Q : VK} {tt : TT} {te : TE} {ta : TA} {a b : Nat} {g : TG} {vs : List Nat} (f : V → Bool) (e : V → V) (hta : ∀ (Q : List V → Hp → Prop), Q [.int (a : Nat), .int (b : Nat)] H → ta σ H Q) (ha : a ≤ 1000000) (hz : b ≤ 1000000)
    (he : ∀ x ∈ (rgN a b).map nV, Turn H σ g tt te vs f e x) (q : ∀ H' D, Same H H' → H D = none → H' D = some (.lst ((((rgN a b).map nV).filter f).map e)) → Q (.ref D) H') : tLc (iRng2 ta) g tt te vs σ H Q := by
  refine hta _ ⟨(a : Nat), (b : Nat), rfl, ⟨by omega, by omega, by omega, by omega⟩, fun D nD => ?_⟩
  rw [show ((b : Nat) : Int) - ((a : Nat) : Int) = ((b : Nat) : Int) - ((a : Nat) : Int) from rfl, show (((b : Nat) : Int) - ((a : Nat) : Int)).toNat = b - a by omega]
  exact lcF_core (a := a) (b := b) f e hz he q rfl D nD
end Ev

/-! ## Lists of pairs, and dicts of them -/
namespace Ev
open PySem PySem.Spec PyProof.Rows L2
theorem paired_of {α β : Type} {R : α → β → Prop} : ∀ {as : List α} {bs : List β}, as.length = bs.length → (∀ (j : Nat) a b, as[j]? = some a → bs[j]? = some b → R a b) → Paired R as bs
  | [], [], _, _ => .nil
  | [], _ :: _, h, _ => by simp at h
  | _ :: _, [], h, _ => by simp at h
  | a :: as, b :: bs, h, f => .cons (f 0 a b rfl rfl) (paired_of (by simpa using h) fun j x y h1 h2 => f (j + 1) x y (by simpa using h1) (by simpa using h2))
/-- [(..) for x in a list] -/
theorem lcT_list {K : PySem.W.Frag} {σ : L2.St} {H : Hp} {Q : VK} {te ti : TE} {a : Addr} {xs : List V} {g : TG} {vs : List Nat} (row : V → List V) (hi : ∀ Q : VK, Q (.ref a) H → ti σ H Q) (hx : SqL K H a xs) (hz : xs.length ≤ 1000000)
    (he : ∀ x ∈ xs, ∀ (H' : Hp) (R : VK), Same H H' → (∀ H'' t, Same H' H'' → H' t = none → H'' t = some (.tup (row x)) → R (.ref t) H'') → g x (wipe σ vs) H' fun σ2 H2 => wipe σ2 vs = wipe σ vs ∧ te σ2 H2 R)
    (q : ∀ H' D (ps : List Addr), Same H H' → H D = none → H' D = some (.lst (ps.map V.ref)) → ps.length = xs.length → (∀ (j : Nat) t x, ps[j]? = some t → xs[j]? = some x → H' t = some (.tup (row x))) → Q (.ref D) H') : tLc (iList K ti) g tYes te vs σ H Q := by
  refine hi _ ⟨a, rfl, ⟨xs, hx⟩, fun D nD => ?_⟩
  have y := sizeLine_eq
  refine lc_list (K := K) (a := a) (xs := xs) (fun k H' => Same H H' ∧ ∃ ps : List Addr, H' D = some (.lst (ps.map V.ref)) ∧ ps.length = k ∧ ∀ (j : Nat) t x, ps[j]? = some t → xs[j]? = some x → t ≠ D ∧ H' t = some (.tup (row x)))
    ⟨same_put nD, [], upd_same, rfl, fun j t x h => by simp at h⟩ (fun k H' _ ⟨s', _⟩ => s'.seq hx) ?_ ?_
  · rintro k x H' hk ⟨s', ps, eD, hl, hp⟩
    have hkl : k < xs.length := (List.getElem?_eq_some_iff.mp hk).1
    refine cast ?_ (he x (List.mem_of_getElem? hk) H' (fun y H4 => ∃ acc, H4 D = some (.lst acc) ∧ acc.length < sizeLine ∧ Same H (upd H4 D (.lst (acc ++ [y]))) ∧ ∃ ps : List Addr, upd H4 D (.lst (acc ++ [y])) D = some (.lst (ps.map V.ref)) ∧ ps.length = k + 1 ∧ ∀ (j : Nat) t x, ps[j]? = some t → xs[j]? = some x → t ≠ D ∧ upd H4 D (.lst (acc ++ [y])) t = some (.tup (row x))) s' fun H4 t s4 nt h4 => ⟨_, s4 _ _ eD, ?_, ?_, ps ++ [t], ?_, ?_, ?_⟩)
    · rfl
    · rw [List.length_map]
      omega
    · intro b o h
      rw [upd_ne (ne_of_none h nD)]
      exact s4 _ _ (s' _ _ h)
    · rw [upd_same, List.map_append]
      rfl
    · rw [List.length_append, hl]
      rfl
    · intro j u z hj hz
      have htD : t ≠ D := fun e => by
        rw [e, eD] at nt
        cases nt
      by_cases hjk : j < k
      · rw [List.getElem?_append_left (by omega)] at hj
        obtain ⟨g1, g2⟩ := hp j u z hj hz
        refine ⟨g1, ?_⟩
        rw [upd_ne g1]
        exact s4 _ _ g2
      · have hjk : j = k := by
          obtain ⟨h1, _⟩ := List.getElem?_eq_some_iff.mp hj
          rw [List.length_append, hl] at h1
          have h1 : j < k + 1 := h1
          omega
        subst hjk
        rw [List.getElem?_append_right (by omega), hl, Nat.sub_self] at hj
        obtain rfl : t = u := Option.some.inj hj
        obtain rfl : x = z := Option.some.inj (hk.symm.trans hz)
        refine ⟨htD, ?_⟩
        rw [upd_ne htD]
        exact h4
  · rintro H' ⟨s', ps, eD, hl, hp⟩
    exact q H' D ps s' nD eD hl fun j t x h1 h2 => (hp j t x h1 h2).2
theorem merge_val {v : Key → V} {k : Key} : ∀ {kvs acc : List (Key × V)}, (∀ p ∈ kvs, p.2 = v p.1) → ((∃ p ∈ kvs, p.1 = k) ∨ valV acc k = some (v k)) → valV (mergeK acc kvs) k = some (v k)
  | [], acc, _, h => by
    rcases h with ⟨p, hp, _⟩ | h
    · cases hp
    · exact h
  | p :: kvs, acc, hv, h => by
    show valV (mergeK (putK acc p.1 p.2) kvs) k = _
    refine merge_val (fun q hq => hv q (List.mem_cons_of_mem _ hq)) ?_
    by_cases e : k = p.1
    · right
      rw [valV_put, if_pos e, hv p (List.mem_cons_self ..), e]
    · rcases h with ⟨q, hq, eq⟩ | h
      · rcases List.mem_cons.mp hq with rfl | hq
        · exact absurd eq.symm e
        · exact .inl ⟨q, hq, eq⟩
      · right
        rw [valV_put, if_neg e]
        exact h
/-- a dict from numbers -/
theorem merge_nat {v : Nat → V} {ds : List Nat} {d : Nat} (h : d ∈ ds) : valV (mergeK [] (ds.map fun d => ((.inl ((d : Nat) : Int) : Key), v d))) (.inl ((d : Nat) : Int)) = some (v d) := by
  refine merge_val (v := fun k => match k with | .inl i => v i.toNat | .inr _ => .non) (k := .inl ((d : Nat) : Int)) (fun p hp => ?_) (.inl ⟨(.inl ((d : Nat) : Int), v d), List.mem_map.mpr ⟨d, h, rfl⟩, rfl⟩)
  obtain ⟨e, _, rfl⟩ := List.mem_map.mp hp
  rfl
end Ev

/-! ## is True, is False; tuples in a comprehension over a range -/
namespace Ev
open PySem PySem.Spec PyProof.Rows L2
section
variable {X : Cx} {a : Expr} {ta : TE}
def tIsB (b : Bool) (ta : TE) : TE := fun σ H Q => ta σ H fun x H1 => ∃ c, x = .bl c ∧ Q (.bl (c == b)) H1
def tNotB (b : Bool) (ta : TE) : TE := fun σ H Q => ta σ H fun x H1 => ∃ c, x = .bl c ∧ Q (.bl (c != b)) H1
theorem pc_isB {b : Bool} {j pos'} (ha : PE X a ta) : PC X .Is a (.Constant (.bool b) j pos') (tIsB b ta) := by
  refine ⟨fun pins s σ H Q I h => thn (ha.run pins s σ H _ I h) fun v s1 ⟨x, H1, I1, r1, c, ex, q1⟩ => ?_⟩
  subst ex
  cases r1
  exact Constant_bool (is_bool ⟨.bl _, H1, I1, rfl, q1⟩)
theorem pc_notB {b : Bool} {j pos'} (ha : PE X a ta) : PC X .IsNot a (.Constant (.bool b) j pos') (tNotB b ta) := by
  refine ⟨fun pins s σ H Q I h => thn (ha.run pins s σ H _ I h) fun v s1 ⟨x, H1, I1, r1, c, ex, q1⟩ => ?_⟩
  subst ex
  cases r1
  exact Constant_bool (isnot_bool ⟨.bl _, H1, I1, rfl, q1⟩)
end
abbrev rTupOf (K : PySem.W.Frag) : List V → Hp → VK → Prop := fun xs H Q => ∃ p ys, xs = [.ref p] ∧ ((SqL K H p ys ∧ ∀ l, H l = none → Q (.ref l) (upd H l (.tup ys))) ∨ (SqT K H p ys ∧ Q (.ref p) H))
/-- [(..) for k in range(n)] -/
theorem lcT_rng {σ : L2.St} {H : Hp} {Q : VK} {te : TE} {ta : TA} {n : Nat} {g : TG} {vs : List Nat} (row : Nat → List V) (hta : ∀ (Q : List V → Hp → Prop), Q [.int (n : Nat)] H → ta σ H Q) (hz : n ≤ 1000000)
    (he : ∀ k, k < n → ∀ (H' : Hp) (R : VK), Same H H' → (∀ H'' t, Same H' H'' → H' t = none → H'' t = some (.tup (row k)) → R (.ref t) H'') → g (nV k) (wipe σ vs) H' fun σ2 H2 => wipe σ2 vs = wipe σ vs ∧ te σ2 H2 R)
    (q : ∀ H' D (ps : List Addr), Same H H' → H D = none → H' D = some (.lst (ps.map V.ref)) → ps.length = n → (∀ (j : Nat) t, ps[j]? = some t → H' t = some (.tup (row j))) → Q (.ref D) H') : tLc (iRng1 ta) g tYes te vs σ H Q := by
  refine hta _ ⟨(n : Nat), rfl, by omega, by omega, fun D nD => ?_⟩
  have y := sizeLine_eq
  rw [Int.toNat_natCast]
  refine lc_range (lo := 0) (n := n) (fun k H' => Same H H' ∧ ∃ ps : List Addr, H' D = some (.lst (ps.map V.ref)) ∧ ps.length = k ∧ ∀ (j : Nat) t, ps[j]? = some t → t ≠ D ∧ H' t = some (.tup (row j)))
    ⟨same_put nD, [], upd_same, rfl, fun j t h => by simp at h⟩ ?_ ?_
  · rintro k H' hk ⟨s', ps, eD, hl, hp⟩
    have e0 : V.int (0 + (k : Nat)) = nV k := by
      show V.int (0 + (k : Nat)) = V.int (k : Nat)
      rw [Int.zero_add]
    rw [e0]
    refine cast ?_ (he k hk H' (fun y H4 => ∃ acc, H4 D = some (.lst acc) ∧ acc.length < sizeLine ∧ Same H (upd H4 D (.lst (acc ++ [y]))) ∧ ∃ ps : List Addr, upd H4 D (.lst (acc ++ [y])) D = some (.lst (ps.map V.ref)) ∧ ps.length = k + 1 ∧ ∀ (j : Nat) t, ps[j]? = some t → t ≠ D ∧ upd H4 D (.lst (acc ++ [y])) t = some (.tup (row j))) s' fun H4 t s4 nt h4 => ⟨_, s4 _ _ eD, ?_, ?_, ps ++ [t], ?_, ?_, ?_⟩)
    · rfl
    · rw [List.length_map]
      omega
    · intro b o h
      rw [upd_ne (ne_of_none h nD)]
      exact s4 _ _ (s' _ _ h)
    · rw [upd_same, List.map_append]
      rfl
    · rw [List.length_append, hl]
      rfl
    · intro j u hj
      have htD : t ≠ D := fun e => by
        rw [e, eD] at nt
        cases nt
      by_cases hjk : j < k
      · rw [List.getElem?_append_left (by omega)] at hj
        obtain ⟨g1, g2⟩ := hp j u hj
        refine ⟨g1, ?_⟩
        rw [upd_ne g1]
        exact s4 _ _ g2
      · have hjk : j = k := by
          obtain ⟨h1, _⟩ := List.getElem?_eq_some_iff.mp hj
          rw [List.length_append, hl] at h1
          have h1 : j < k + 1 := h1
          omega
        subst hjk
        rw [List.getElem?_append_right (by omega), hl, Nat.sub_self] at hj
        obtain rfl : t = u := Option.some.inj hj
        refine ⟨htD, ?_⟩
        rw [upd_ne htD]
        exact h4
  · rintro H' ⟨s', ps, eD, hl, hp⟩
    exact q H' D ps s' nD eD hl fun j t h1 => (hp j t h1).2
theorem cb_lcB {tl : TE} {r : List V → Hp → VK → Prop} {Q : VK} {σ : L2.St} {H : Hp} (h : tl σ H fun v H1 => r [v] H1 Q) : tCB r (tCons tl tNil) σ H Q := h
theorem ret_cbB {tl : TE} {r : List V → Hp → VK → Prop} {D : Ends} {σ : L2.St} {H : Hp} (h : tl σ H fun v H1 => r [v] H1 D.rt) : tRet (tCB r (tCons tl tNil)) D σ H := h
def stV (e : Str → V) : V → V
  | .str x => e x
  | v => v
theorem filt_st {e : Str → V} {l : List Str} : ((l.map V.str).filter (fun _ => true)).map (stV e) = l.map e := by
  rw [List.filter_eq_self.mpr (fun _ _ => rfl), List.map_map]
  rfl
end Ev

/-! ## defs that may be called within a lambda: no word of guards -/
namespace Ev
open PySem PySem.Spec PyProof.Rows L2
section
variable {P : Program} {w : World} {K : PySem.W.Frag} {mg : Str → Option Value} {base : Heap} {x : Str} {st : Stmt} {ps N : List Str} {sp sp' : Sp} {k j : Nat}
theorem Def.okO (D : Def K mg x st ps) (S : FnScope N ps (defScope st)) (len : ∀ vs H Q E, sp vs H Q E → vs.length = ps.length)
    (hbody : ∀ (f : Addr) (cdv : Value) (A : Around) (outer : List Env) (s : Shared) (H : Hp) (vs : List V) (Q : VK) (E : XK),
      Room k (A.deeper (envOfC x (defScope st) s.heap.objs.size f cdv)) → sp vs H Q E →
      ∃ t, PSs (cxOf CX0 P w K mg base N x (defScope st) f cdv A outer s H E).nox (defBody st) t ∧
        t { nx := fun _ H' => Q .non H', rt := Q } (start N vs) H) : CalN CX0 P w K mg base (k + 1) x ps sp := by
  obtain ⟨f, fd, F, b, m⟩ := D.ex
  exact ⟨f, fd, F.ok S len fun cdv A outer s H vs Q E hr h => hbody f cdv A outer s H vs Q E hr h, b, m, F.kp⟩
theorem no_calO (D : Def K mg x st ps) : CalN CX0 P w K mg base k x ps (fun _ _ _ _ => False) := by
  obtain ⟨f, fd, F, b, m⟩ := D.ex
  exact ⟨f, fd, no_fn, b, m, F.kp⟩
theorem CalN.of0 {f : Addr} {fd : FuncData} (F : FnOk P w K mg base CX0 k f fd ps sp) (b : Binds K fd ps []) (m : mg x = some (.ref f)) (v : PySem.W.keepIn K (.ref f) = true) : CalN CX0 P w K mg base k x ps sp := ⟨f, fd, F, b, m, v⟩
theorem CalN.imp {CX : CXT} (C : CalN CX P w K mg base k x ps sp) (h : ∀ vs H Q E, sp' vs H Q E → sp vs H Q E) : CalN CX P w K mg base k x ps sp' := by
  obtain ⟨f, fd, F, b, m, v⟩ := C.ex
  exact ⟨f, fd, F.imp h, b, m, v⟩
end
end Ev

/-! ## read_program -/
namespace Ev
open PySem PySem.Spec PyProof.Rows L2
def spIl : Sp := fun vs H Q _ => ∃ x : Str, vs = [.str x] ∧ Q (.bl ((!decide (x.cps.toList < [97])) && !decide ([122] < x.cps.toList))) H
def spRn (K : PySem.W.Frag) : Sp := fun vs H Q _ => ∃ (z : Str) (a : Nat), vs = [.str z, .int (a : Nat)] ∧ z.length ≤ sizeLine ∧ ∀ H' u, Same H H' → Da K H' u (.tuple [.str (cutN (TL.tl z) a (nameEnd (TL.tl z) a)), .int (nameEnd (TL.tl z) a : Nat)]) → Q u H'
def spBh (cB : Addr) : Sp := fun vs H Q E => ∃ (z y : Str) (a : Nat), vs = [.str z, .int (a : Nat), .str y] ∧ z.length ≤ sizeLine ∧ y.length ≤ 1000 ∧ RdG (rdBh (TL.tl z) (TL.tl y) a) cB H E fun b => ∀ H', Same H H' → Q (.int (b : Nat)) H'
def spRm (K : PySem.W.Frag) (cB : Addr) : Sp := fun vs H Q E => ∃ (z : Str) (a most : Nat), vs = [.str z, .int (a : Nat), .int (most : Nat)] ∧ z.length ≤ sizeLine ∧ most ≤ 10 ^ 18 ∧ 9 ≤ most ∧
  RdG (rdNum (TL.tl z) most a) cB H E fun b => ∀ H' u, Same H H' → Da K H' u (.tuple [.int (b.1 : Nat), .int (b.2 : Nat)]) → Q u H'
def spRi (K : PySem.W.Frag) (cB : Addr) (d : Nat) : Sp := fun vs H Q E => ∃ (z : Str) (a r : Nat), vs = [.str z, .int (a : Nat), .int (d : Nat), .int (r : Nat)] ∧ z.length ≤ sizeLine ∧ 1 ≤ r ∧ r ≤ 60 ∧
  RdG (rdIt (TL.tl z) d a r) cB H E fun b => ∀ H' u, Same H H' → Da K H' u (.tuple [It.d b.1, .int (b.2.1 : Nat), .int (b.2.2 : Nat)]) → Q u H'
def spRis (K : PySem.W.Frag) (cB : Addr) (d : Nat) : Sp := fun vs H Q E => ∃ (z : Str) (a r : Nat), vs = [.str z, .int (a : Nat), .int (d : Nat), .int (r : Nat)] ∧ z.length ≤ sizeLine ∧ 1 ≤ r ∧ r ≤ 60 ∧
  RdG (rdMany (rdIt (TL.tl z) d) (TL.tl z) a r) cB H E fun b => ∀ H' u, Same H H' → Da K H' u (.tuple [.tuple (b.1.map It.d), .int (b.2.1 : Nat), .int (b.2.2 : Nat)]) → Q u H'
def spRp (K : PySem.W.Frag) (cB : Addr) : Sp := fun vs H Q E => ∃ (v : V) (dd : PyData), vs = [v] ∧ Da K H v dd ∧ (∀ z, dd = .str z → z.length ≤ sizeLine ∧ RdG (rdP (TL.tl z)) cB H E fun is => ∀ H' u, Same H H' → Da K H' u (.tuple (is.map It.d)) → Q u H') ∧ ((∀ z, dd ≠ .str z) → RzP cB 0 H E)
theorem scIl : FnScope ["text"] ["text"] (defScope (topS 17)) := ⟨rfl, rfl, rfl, by decide +kernel, rfl, by decide +kernel, by decide +kernel⟩
theorem scRn : FnScope ["text", "at", "stop"] ["text", "at"] (defScope (topS 15)) := ⟨rfl, rfl, rfl, by decide +kernel, rfl, by decide +kernel, by decide +kernel⟩
theorem scBh : FnScope ["text", "at", "signs", "sign"] ["text", "at", "signs"] (defScope (topS 18)) := ⟨rfl, rfl, rfl, by decide +kernel, rfl, by decide +kernel, by decide +kernel⟩
theorem scRm : FnScope ["text", "at", "most", "number"] ["text", "at", "most"] (defScope (topS 16)) := ⟨rfl, rfl, rfl, by decide +kernel, rfl, by decide +kernel, by decide +kernel⟩
theorem scRi : FnScope ["text", "at", "depth", "room", "name", "ticks", "rounds", "items"] ["text", "at", "depth", "room"] (defScope (topS 14)) := ⟨rfl, rfl, rfl, by decide +kernel, rfl, by decide +kernel, by decide +kernel⟩
theorem scRis : FnScope ["text", "at", "depth", "room", "item", "items"] ["text", "at", "depth", "room"] (defScope (topS 13)) := ⟨rfl, rfl, rfl, by decide +kernel, rfl, by decide +kernel, by decide +kernel⟩
theorem scRp : FnScope ["text", "items", "at", "room"] ["text"] (defScope (topS 12)) := ⟨rfl, rfl, rfl, by decide +kernel, rfl, by decide +kernel, by decide +kernel⟩
section
variable {P : Program} {w : World} {K : PySem.W.Frag} {mg : Str → Option Value} {base : Heap} {cB : Addr} {tT tR tL tE : Tok}
theorem ok_il (D : Def K mg "is_letter" (topS 17) ["text"]) (nb : NB mg) : CalN CX0 P w K mg base 1 "is_letter" ["text"] spIl := by
  refine D.okO scIl (fun vs H Q E h => ?_) (fun fa cdv A outer sh H vs Q E hr h => ?_)
  · obtain ⟨x, rfl, _⟩ := h
    rfl
  · obtain ⟨x, rfl, q⟩ := h
    refine ⟨_, (pss_one (ps_ret (pe_chain op_le_str op_le_str pe_str (pv 0) pe_str))), ?_⟩
    rw [show ([97] : List Nat) = (Str.ofString "a").cps.toList from by decide +kernel, show ([122] : List Nat) = (Str.ofString "z").cps.toList from by decide +kernel] at q
    refine ⟨_, rfl, _, _, rfl, rfl, _, rfl, ?_⟩
    by_cases h : (!decide (x.cps.toList < (Str.ofString "a").cps.toList)) = true
    · rw [if_pos h]
      rw [h, Bool.true_and] at q
      exact ⟨_, _, rfl, rfl, q⟩
    · rw [if_neg h]
      rw [Bool.eq_false_iff.mpr h, Bool.false_and] at q
      exact q
theorem ok_bh (D : Def K mg "behind" (topS 18) ["text", "at", "signs"]) (R_BadText : Err1 P w K mg base "BadText" cB "position") (nb : NB mg) : CalN (L2.CX P w) P w K mg base 3 "behind" ["text", "at", "signs"] (spBh cB) := by
  refine D.okN scBh (fun vs H Q E h => ?_) (fun fa cdv A outer sh H vs Q E hr h => ?_)
  · obtain ⟨z, y, a, rfl, _⟩ := h
    rfl
  · obtain ⟨z, y, a, rfl, hz, hy, g⟩ := h
    refine ⟨_, (pss_cons (ps_for (passes_of rfl) rfl (pi_str (pv 2)) (pg_name (i := 3) scBh.nd rfl (Or.inl rfl))
        (pss_cons (ps_if (pt_cmpR op_ne (pe_slice sl_str (pv 0) (po_some (pv 1)) (po_some (pe_op op_add (pv 1) pe_int))) (pv 3) (nomark _))
          (pss_one (ps_raise1 R_BadText rfl (hr.mono (by omega)) (by rfl) (takes_of rfl rfl rfl rfl) (pv 1)))
          pss_nil)
        (pss_one (ps_aug (i := 1) scBh.nd rfl (.inl rfl) pe_int ip_add))))
      (pss_one (ps_ret (pv 1)))), ?_⟩
    refine ⟨_, rfl, _, rfl, ?_⟩
    refine for_it walk_str (fun i σ' H' => ∃ y3 : Option V, σ' = [some (.str z), some (.int ((a + i : Nat) : Int)), some (.str y), y3] ∧ H' = H ∧ RdG (rdBh (TL.tl z) ((TL.tl y).drop i) (a + i)) cB H E fun b => ∀ H', Same H H' → Q (.int (b : Nat)) H')
      ⟨_, rfl, rfl, g⟩ (fun _ _ _ _ _ => trivial) ?_ ?_
    · rintro i x σ' H1 H2 hi ⟨y3, rfl, rfl, g1⟩ ⟨rfl, c, hc, rfl⟩
      have hd : (TL.tl y).drop i = c :: (TL.tl y).drop (i + 1) := by
        have h1 : (TL.tl y)[i]? = some c := by rw [← hc]; exact Array.getElem?_toList
        obtain ⟨hl, e⟩ := List.getElem?_eq_some_iff.mp h1
        rw [List.drop_eq_getElem_cons hl, e]
      rw [hd] at g1
      refine ⟨_, rfl, _, rfl, _, rfl, _, rfl, _, _, rfl, rfl, _, rfl, z, rfl, hz, _, rfl, rfl, _, rfl, ?_⟩
      rw [cut_sg]
      by_cases e : (TL.tl z)[a + i]? = some c
      · rw [rdBh, if_pos e] at g1
        rw [show (!decide (V.str ⟨(sgN (TL.tl z) (a + i)).toArray⟩ = V.str ⟨#[c]⟩)) = false from by
          rw [decide_eq_true (str_mk.mpr (sgN_eq.mpr e))]
          rfl]
        refine iteF ⟨_, rfl, _, _, rfl, rfl, ?_⟩
        exact ⟨_, rfl, rfl, g1⟩
      · rw [rdBh, if_neg e] at g1
        rw [show (!decide (V.str ⟨(sgN (TL.tl z) (a + i)).toArray⟩ = V.str ⟨#[c]⟩)) = true from by
          rw [decide_eq_false (fun h => e (sgN_eq.mp (str_mk.mp h)))]
          rfl]
        exact iteT ⟨_, rfl, RzP.go g1⟩
    · rintro σ' H1 ⟨y3, rfl, rfl, g1⟩
      rw [List.drop_of_length_le (by show (y.cps.toList).length ≤ y.cps.size; rw [Array.length_toList]; exact Nat.le_refl _)] at g1
      exact ⟨_, rfl, g1 _ Same.rfl'⟩
theorem ok_rn (D : Def K mg "read_name" (topS 15) ["text", "at"]) (C_is_letter : CalN CX0 P w K mg base 1 "is_letter" ["text"] spIl) (g_MOST_LETTERS : mg "MOST_LETTERS" = some (.int 8 tL)) (nb : NB mg) : CalN CX0 P w K mg base 2 "read_name" ["text", "at"] (spRn K) := by
  refine D.okO scRn (fun vs H Q E h => ?_) (fun fa cdv A outer sh H vs Q E hr h => ?_)
  · obtain ⟨z, a, rfl, _⟩ := h
    rfl
  · obtain ⟨z, a, rfl, hz, q⟩ := h
    refine ⟨_, (pss_cons (ps_set (i := 2) scRn.nd rfl (.inl rfl) (pe_op op_add (pv 1) pe_int))
      (pss_cons (ps_while PassesOwn.never (PW.pt (pw_and (pt_val (pcallO C_is_letter (hr.mono (by omega)) (by rfl) (pa_cons (pe_slice sl_str (pv 0) (po_some (pv 2)) (po_some (pe_op op_add (pv 2) pe_int))) pa_nil))) (pw_and1 (pt_cmpR op_lt (pe_op op_sub (pv 2) (pv 1)) (pe_glob (v := .int 8) rfl g_MOST_LETTERS ⟨_, rfl⟩) (nomark _)))))
        (pss_one (ps_aug (i := 2) scRn.nd rfl (.inl rfl) pe_int ip_add)))
      (pss_one (ps_ret (pe_tup (pa_cons (pe_slice sl_str (pv 0) (po_some (pv 1)) (po_some (pv 2))) (pa_cons (pv 2) pa_nil))))))), ?_⟩
    have sl := sizeLine_eq
    have h7 := nameL_le (TL.tl z) a
    refine ⟨_, rfl, _, _, rfl, rfl, ?_⟩
    refine ⟨fun m σ' H' => ∃ k : Nat, m + k = (nameL (TL.tl z) a).length ∧ σ' = [some (.str z), some (.int (a : Nat)), some (.int ((a + 1 + k : Nat) : Int))] ∧ Same H H', ⟨_, 0, rfl, rfl, Same.rfl'⟩, ?_⟩
    rintro m σ' H1 ⟨k, hk, rfl, s1⟩
    refine ⟨_, rfl, _, rfl, _, rfl, _, rfl, _, _, rfl, rfl, _, rfl, z, rfl, hz, ?_⟩
    rw [cut_sg]
    refine ⟨_, rfl, ?_⟩
    rw [sg_let]
    by_cases hm : k < (nameL (TL.tl z) a).length
    · obtain ⟨k7, e⟩ := nameL_go hm
      rw [e]
      refine ⟨true, rfl, iteT ⟨_, rfl, _, rfl, _, _, rfl, rfl, _, _, rfl, rfl, _, rfl, ite2 (fun _ => ?_) (fun h => ?_)⟩⟩
      · refine ⟨_, fun _ _ n => n, _, rfl, _, _, rfl, rfl, m - 1, by omega, k + 1, by omega, rfl, s1⟩
      · exact absurd (decide_eq_true (by omega)) h
    · have e : k = (nameL (TL.tl z) a).length := by omega
      have fin : ∀ H2, Same H1 H2 → tRet (tTup (tCons (tSl rSlS (tVar 0) (tPart (tVar 1)) (tPart (tVar 2))) (tCons (tVar 2) tNil))) { nx := fun _ H' => Q .non H', rt := Q } [some (.str z), some (.int (a : Nat)), some (.int ((a + 1 + k : Nat) : Int))] H2 := fun H2 s2 => by
        refine ⟨_, rfl, _, rfl, _, rfl, _, rfl, _, rfl, z, rfl, hz, _, rfl, (by show 2 ≤ sizeLine; rw [sl]; decide), fun p np => ?_⟩
        refine q _ _ (s1.trans (s2.trans (same_put np))) (.tup (.inl (.inl upd_same)) (.cons ?_ (.cons ?_ .nil)))
        · rw [cut_nat, nameEnd_eq, e]
          exact .str _
        · rw [nameEnd_eq, e]
          exact .int _
      by_cases k7 : k < 7
      · have e2 := nameL_end (l := TL.tl z) (a := a) (by omega)
        rw [← e] at e2
        rw [e2]
        refine ⟨false, rfl, iteF (iteF (fin _ Same.rfl'))⟩
      · cases isLet (TL.tl z) (a + 1 + k) with
        | false => exact ⟨false, rfl, iteF (iteF (fin _ Same.rfl'))⟩
        | true =>
          refine ⟨true, rfl, iteT ⟨_, rfl, _, rfl, _, _, rfl, rfl, _, _, rfl, rfl, _, rfl, ite2 (fun h => ?_) (fun _ => fin _ Same.rfl')⟩⟩
          have h := of_decide_eq_true h
          omega
theorem ok_rm (D : Def K mg "read_number" (topS 16) ["text", "at", "most"]) (R_BadText : Err1 P w K mg base "BadText" cB "position") (nb : NB mg) : CalN (L2.CX P w) P w K mg base 3 "read_number" ["text", "at", "most"] (spRm K cB) := by
  refine D.okN scRm (fun vs H Q E h => ?_) (fun fa cdv A outer sh H vs Q E hr h => ?_)
  · obtain ⟨z, a, most, rfl, _⟩ := h
    rfl
  · obtain ⟨z, a, most, rfl, hz, hm, h9, g⟩ := h
    refine ⟨_, (pss_cons (ps_if (pt_not (pt_chain op_le_str op_le_str pe_str (pe_slice sl_str (pv 0) (po_some (pv 1)) (po_some (pe_op op_add (pv 1) pe_int))) pe_str))
        (pss_one (ps_raise1 R_BadText rfl (hr.mono (by omega)) (by rfl) (takes_of rfl rfl rfl rfl) (pv 1)))
        pss_nil)
      (pss_cons (ps_set (i := 3) scRm.nd rfl (.inl rfl) pe_int)
      (pss_cons (ps_while (passes_of rfl) (PW.pt (pw_and (pt_chain op_le_str op_le_str pe_str (pe_slice sl_str (pv 0) (po_some (pv 1)) (po_some (pe_op op_add (pv 1) pe_int))) pe_str) (pw_and1 (pt_cmpR op_le (pe_op op_add (pe_op op_mul (pv 3) pe_int) (pe_callTy call_int_str (by rfl) nb.at (by decide +kernel) (pa_cons (pe_ix ix_str (pv 0) (pv 1) (fun _ _ => rfl)) pa_nil))) (pv 2) (nomark _)))))
        (pss_cons (ps_set (i := 3) scRm.nd rfl (.inl rfl) (pe_op op_add (pe_op op_mul (pv 3) pe_int) (pe_callTy call_int_str (by rfl) nb.at (by decide +kernel) (pa_cons (pe_ix ix_str (pv 0) (pv 1) (fun _ _ => rfl)) pa_nil))))
        (pss_one (ps_aug (i := 1) scRm.nd rfl (.inl rfl) pe_int ip_add))))
      (pss_one (ps_ret (pe_tup (pa_cons (pv 3) (pa_cons (pv 1) pa_nil)))))))), ?_⟩
    have sl := sizeLine_eq
    have s0 : (Str.ofString "0").cps.toList = [48] := by decide +kernel
    have s1 : (Str.ofString "1").cps.toList = [49] := by decide +kernel
    have sgo : ∀ (σ : L2.St) (a' : Nat) (H1 : Hp), σ[0]? = some (some (.str z)) → σ[1]? = some (some (.int (a' : Nat))) → ∀ Q : VK, Q (.str ⟨(sgN (TL.tl z) a').toArray⟩) H1 → tSl rSlS (tVar 0) (tPart (tVar 1)) (tPart (tOp (rI0 fun i j => .int (i + j)) (tVar 1) (tC (.int 1)))) σ H1 Q := fun σ a' H1 h0 h1 Q q => by
      refine ⟨_, h0, _, h1, _, rfl, _, h1, _, _, rfl, rfl, _, rfl, z, rfl, hz, ?_⟩
      rw [cut_sg]
      exact q
    refine btw_go s1 (sgo _ a _ rfl rfl) ?_
    by_cases hc : ∃ c, (TL.tl z)[a]? = some c ∧ digB c = true ∧ c ≠ 48
    · obtain ⟨c, hc, hd, h48⟩ := hc
      have hb := digB_iff.mp hd
      rw [sgB_some hc, decide_eq_true (by omega), decide_eq_true hb.2]
      unfold rdNum at g
      rw [hc] at g
      dsimp only at g
      rw [if_pos ⟨hd, h48⟩] at g
      refine iteF ?_
      refine ⟨fun m σ' H' => ∃ a' n : Nat, m = (TL.tl z).length - a' ∧ σ' = [some (.str z), some (.int (a' : Nat)), some (.int (most : Nat)), some (.int (n : Nat))] ∧ H' = H ∧ n ≤ most ∧ (numW most n ((TL.tl z).drop a')).1 = (numW most 0 ((TL.tl z).drop a)).1 ∧ a' + (numW most n ((TL.tl z).drop a')).2 = a + (numW most 0 ((TL.tl z).drop a)).2,
        ⟨_, a, 0, rfl, rfl, rfl, Nat.zero_le _, rfl, rfl⟩, ?_⟩
      rintro m σ' H1 ⟨a', n, rfl, rfl, rfl, hn, e1, e2⟩
      refine btw_go s0 (sgo _ a' _ rfl rfl) ?_
      have fin : (numW most n ((TL.tl z).drop a')) = (n, 0) → tRet (tTup (tCons (tVar 3) (tCons (tVar 1) tNil))) { nx := fun _ H' => Q .non H', rt := Q } [some (.str z), some (.int (a' : Nat)), some (.int (most : Nat)), some (.int (n : Nat))] H1 := fun e => by
        rw [e] at e1 e2
        refine ⟨_, rfl, _, rfl, (by show 2 ≤ sizeLine; rw [sl]; decide), fun p np => g _ _ (same_put np) (.tup (.inl (.inl upd_same)) (.cons ?_ (.cons ?_ .nil)))⟩
        · show Da K _ (.int (n : Nat)) (.int ((numW most 0 ((TL.tl z).drop a)).1 : Nat))
          rw [← e1]
          exact .int _
        · show Da K _ (.int (a' : Nat)) (.int ((a + (numW most 0 ((TL.tl z).drop a)).2 : Nat) : Int))
          rw [← e2]
          exact .int _
      have stp := numW_step (l := TL.tl z) (most := most) (n := n) (a := a')
      cases hc' : (TL.tl z)[a']? with
      | none =>
        rw [hc'] at stp
        rw [sgB_none hc']
        exact iteF (iteF (fin stp))
      | some c' =>
        rw [hc'] at stp
        dsimp only at stp
        rw [sgB_some hc']
        by_cases hd' : digB c' = true
        · have hb' := digB_iff.mp hd'
          have hat : atI z.cps.toList ((a' : Nat) : Int) = some c' := atI_nat hc'
          rw [decide_eq_true hb'.1, decide_eq_true hb'.2]
          have hin := dig_int hd'
          have hmul : CMul ((n : Nat) : Int) 10 := .inr ⟨by decide, by decide⟩
          refine iteT ⟨_, rfl, _, _, rfl, rfl, hmul, _, rfl, _, rfl, z, _, c', rfl, rfl, hz, hat, _, _, rfl, hin, (by show 1 ≤ 640; decide), _, _, rfl, rfl, _, rfl, _, _, rfl, rfl, _, rfl, ite2 (fun h => ?_) (fun h => ?_)⟩
          · have h : ((n : Nat) : Int) * 10 + ((c' - 48 : Nat) : Int) ≤ ((most : Nat) : Int) := of_decide_eq_true h
            have h' : n * 10 + (c' - 48) ≤ most := by omega
            rw [if_pos ⟨hd', h'⟩] at stp
            have hl : a' < (TL.tl z).length := (List.getElem?_eq_some_iff.mp hc').1
            rw [stp] at e1 e2
            refine ⟨_, fun _ _ n => n, _, rfl, _, _, rfl, rfl, hmul, _, rfl, _, rfl, z, _, c', rfl, rfl, hz, hat, _, _, rfl, hin, (by show 1 ≤ 640; decide), _, _, rfl, rfl, ?_⟩
            refine ⟨_, rfl, _, _, rfl, rfl, (TL.tl z).length - (a' + 1), by omega, a' + 1, n * 10 + (c' - 48), rfl, ?_, rfl, h', e1, by omega⟩
            show [some (V.str z), some (V.int (((a' : Nat) : Int) + 1)), some (V.int ((most : Nat) : Int)), some (V.int (((n : Nat) : Int) * 10 + ((c' - 48 : Nat) : Int)))] = _
            rw [Int.natCast_add, Int.natCast_add, Int.natCast_mul]
            rfl
          · have h : ¬ ((n : Nat) : Int) * 10 + ((c' - 48 : Nat) : Int) ≤ ((most : Nat) : Int) := of_decide_eq_false (Bool.eq_false_iff.mpr h)
            rw [if_neg (fun x => h (by omega))] at stp
            exact fin stp
        · have hd2 : (decide (48 ≤ c') && decide (c' ≤ 57)) = false := Bool.eq_false_iff.mpr hd'
          rw [hd2]
          rw [if_neg (fun x => hd' x.1)] at stp
          exact iteF (iteF (fin stp))
    · have e : sgB (fun c => decide (49 ≤ c) && decide (c ≤ 57)) (TL.tl z) a = false := by
        cases hc' : (TL.tl z)[a]? with
        | none => exact sgB_none hc'
        | some c =>
          rw [sgB_some hc']
          refine Bool.eq_false_iff.mpr fun h => hc ⟨c, hc', ?_⟩
          rw [Bool.and_eq_true, decide_eq_true_eq, decide_eq_true_eq] at h
          exact ⟨digB_iff.mpr (by omega), by omega⟩
      rw [e]
      have g : RzP cB a H E := by
        unfold rdNum at g
        cases hc' : (TL.tl z)[a]? with
        | none =>
          rw [hc'] at g
          exact g
        | some c =>
          rw [hc'] at g
          dsimp only at g
          rw [if_neg (fun x => hc ⟨c, hc', x⟩)] at g
          exact g
      exact iteT ⟨_, rfl, RzP.go g⟩
theorem ri_line {k d : Nat} {spR : Sp} (D : Def K mg "read_item" (topS 14) ["text", "at", "depth", "room"]) (C_is_letter : CalN CX0 P w K mg base 1 "is_letter" ["text"] spIl) (C_read_name : CalN CX0 P w K mg base 2 "read_name" ["text", "at"] (spRn K))
    (X_behind : CalN (L2.CX P w) P w K mg base 3 "behind" ["text", "at", "signs"] (spBh cB)) (X_read_number : CalN (L2.CX P w) P w K mg base 3 "read_number" ["text", "at", "most"] (spRm K cB)) (X_read_items : CalN (L2.CX P w) P w K mg base k "read_items" ["text", "at", "depth", "room"] spR) (hk : 3 ≤ k)
    (hR : d = 0 ∨ ∃ e, d = e + 1 ∧ spR = spRis K cB e) (R_BadText : Err1 P w K mg base "BadText" cB "position") (g_MOST_TICKS : mg "MOST_TICKS" = some (.int 1000000000000 tT)) (g_MOST_ROUNDS : mg "MOST_ROUNDS" = some (.int 1000000000000000000 tR)) (nb : NB mg) :
    CalN (L2.CX P w) P w K mg base (k + 1) "read_item" ["text", "at", "depth", "room"] (spRi K cB d) := by
  refine D.okN scRi (fun vs H Q E h => ?_) (fun fa cdv A outer sh H vs Q E hr h => ?_)
  · obtain ⟨z, a, r, rfl, _⟩ := h
    rfl
  · obtain ⟨z, a, r, rfl, hz, r1, r2, g⟩ := h
    refine ⟨_, (pss_cons (ps_if (pt_val (pcallO C_is_letter (hr.mono (by omega)) (by rfl) (pa_cons (pe_slice sl_str (pv 0) (po_some (pv 1)) (po_some (pe_op op_add (pv 1) pe_int))) pa_nil)))
        (pss_cons (ps_asg (pcallO C_read_name (hr.mono (by omega)) (by rfl) (pa_cons (pv 0) (pa_cons (pv 1) pa_nil))) (pg_tup rfl (pgs_cons (pg_name (i := 4) scRi.nd rfl (Or.inl rfl)) (pgs_cons (pg_name (i := 1) scRi.nd rfl (Or.inl rfl)) pgs_nil))))
        (pss_cons (ps_asg (pcallN X_read_number (hr.mono (by omega)) (by rfl) (takes_of rfl rfl rfl rfl) (fun _ _ _ _ h => h) (pa_cons (pv 0) (pa_cons (pcallN X_behind (hr.mono (by omega)) (by rfl) (takes_of rfl rfl rfl rfl) (fun _ _ _ _ h => h) (pa_cons (pv 0) (pa_cons (pv 1) (pa_cons pe_str pa_nil)))) (pa_cons (pe_glob (v := .int 1000000000000) rfl g_MOST_TICKS ⟨_, rfl⟩) pa_nil)))) (pg_tup rfl (pgs_cons (pg_name (i := 5) scRi.nd rfl (Or.inl rfl)) (pgs_cons (pg_name (i := 1) scRi.nd rfl (Or.inl rfl)) pgs_nil))))
        (pss_one (ps_ret (pe_tup (pa_cons (pe_tup (pa_cons pe_str (pa_cons (pv 4) (pa_cons (pv 5) pa_nil)))) (pa_cons (pv 1) (pa_cons (pe_op op_sub (pv 3) pe_int) pa_nil))))))))
        pss_nil)
      (pss_cons (ps_if (PW.pt (pw_or (pt_cmpR op_eq (pv 2) pe_int (nomark _)) (pw_or1 (pt_cmpR op_lt (pv 3) pe_int (nomark _)))))
        (pss_one (ps_raise1 R_BadText rfl (hr.mono (by omega)) (by rfl) (takes_of rfl rfl rfl rfl) (pv 1)))
        pss_nil)
      (pss_cons (ps_asg (pcallN X_read_number (hr.mono (by omega)) (by rfl) (takes_of rfl rfl rfl rfl) (fun _ _ _ _ h => h) (pa_cons (pv 0) (pa_cons (pv 1) (pa_cons (pe_glob (v := .int 1000000000000000000) rfl g_MOST_ROUNDS ⟨_, rfl⟩) pa_nil)))) (pg_tup rfl (pgs_cons (pg_name (i := 6) scRi.nd rfl (Or.inl rfl)) (pgs_cons (pg_name (i := 1) scRi.nd rfl (Or.inl rfl)) pgs_nil))))
      (pss_cons (ps_asg (pcallN X_read_items (hr.mono (by omega)) (by rfl) (takes_of rfl rfl rfl rfl) (fun _ _ _ _ h => h) (pa_cons (pv 0) (pa_cons (pcallN X_behind (hr.mono (by omega)) (by rfl) (takes_of rfl rfl rfl rfl) (fun _ _ _ _ h => h) (pa_cons (pv 0) (pa_cons (pv 1) (pa_cons pe_str pa_nil)))) (pa_cons (pe_op op_sub (pv 2) pe_int) (pa_cons (pe_op op_sub (pv 3) pe_int) pa_nil))))) (pg_tup rfl (pgs_cons (pg_name (i := 7) scRi.nd rfl (Or.inl rfl)) (pgs_cons (pg_name (i := 1) scRi.nd rfl (Or.inl rfl)) (pgs_cons (pg_name (i := 3) scRi.nd rfl (Or.inl rfl)) pgs_nil)))))
      (pss_one (ps_ret (pe_tup (pa_cons (pe_tup (pa_cons pe_str (pa_cons (pv 6) (pa_cons (pv 7) pa_nil)))) (pa_cons (pcallN X_behind (hr.mono (by omega)) (by rfl) (takes_of rfl rfl rfl rfl) (fun _ _ _ _ h => h) (pa_cons (pv 0) (pa_cons (pv 1) (pa_cons pe_str pa_nil)))) (pa_cons (pv 3) pa_nil)))))))))), ?_⟩
    have sl := sizeLine_eq
    refine sl1_go hz rfl rfl _ ⟨_, rfl, ?_⟩
    rw [sg_let]
    refine ⟨_, rfl, ite2 (fun e => ?_) (fun e => ?_)⟩
    · have g : RdG (rdLine (TL.tl z) a r) cB H E fun b => ∀ H' u, Same H H' → Da K H' u (.tuple [It.d b.1, .int (b.2.1 : Nat), .int (b.2.2 : Nat)]) → Q u H' := by
        cases d <;> (rw [rdIt] at g; dsimp only at g; rw [if_pos e] at g; exact g)
      unfold rdLine at g
      refine ⟨_, rfl, _, rfl, z, a, rfl, hz, fun H1 u1 s1 hu1 => ?_⟩
      obtain ⟨b1, x1, y1, rfl, hq1, hx1, hy1⟩ := da2 hu1
      cases da_strE hx1
      cases da_intE hy1
      refine ⟨b1, _, rfl, hq1, rfl, _, _, rfl, _, _, rfl, rfl, ?_⟩
      refine ⟨_, rfl, _, rfl, _, rfl, z, Str.ofString ":", _, rfl, hz, by decide +kernel, ?_⟩
      rw [show TL.tl (Str.ofString ":") = [58] from by decide +kernel]
      cases hB : rdBh (TL.tl z) [58] (nameEnd (TL.tl z) a) with
      | error e =>
        rw [hB] at g
        exact RzP.same g s1
      | ok b =>
        rw [hB] at g
        dsimp only at g
        intro H2 s2
        refine ⟨z, b, 1000000000000, rfl, hz, by decide, by decide, ?_⟩
        cases hN : rdNum (TL.tl z) 1000000000000 b with
        | error e =>
          rw [hN] at g
          exact RzP.same g (s1.trans s2)
        | ok tc =>
          obtain ⟨t, c⟩ := tc
          rw [hN] at g
          dsimp only at g
          intro H3 u3 s3 hu3
          obtain ⟨b3, x3, y3, rfl, hq3, hx3, hy3⟩ := da2 hu3
          cases da_intE hx3
          cases da_intE hy3
          refine ⟨b3, _, rfl, hq3, rfl, _, _, rfl, _, _, rfl, rfl, ?_⟩
          refine ⟨_, rfl, _, rfl, (by show 3 ≤ sizeLine; rw [sl]; decide), fun p np => ⟨_, rfl, _, rfl, _, _, rfl, rfl, (by show 3 ≤ sizeLine; rw [sl]; decide), fun p2 np2 => ?_⟩⟩
          refine g _ _ (s1.trans (s2.trans (s3.trans ((same_put np).trans (same_put np2))))) (.tup (.inl (.inl upd_same)) (.cons ?_ (.cons (.int _) (.cons ?_ .nil))))
          · show Da K _ _ (It.d (.line (cutN (TL.tl z) a (nameEnd (TL.tl z) a)) (t : Nat)))
            rw [It.d]
            exact .tup (.inl (.inl (same_put np2 _ _ upd_same))) (.cons (.str _) (.cons (.str _) (.cons (.int _) .nil)))
          · show Da K _ (.int (((r : Nat) : Int) - 1)) (.int ((r - 1 : Nat) : Int))
            rw [show ((r : Nat) : Int) - 1 = ((r - 1 : Nat) : Int) by omega]
            exact .int _
    · refine ⟨_, rfl, rfl, _, rfl, ?_⟩
      cases d with
      | zero =>
        rw [rdIt] at g
        dsimp only at g
        rw [if_neg e] at g
        exact iteT (iteT ⟨_, rfl, RzP.go g⟩)
      | succ d =>
        obtain ⟨d', hd', rfl⟩ : ∃ e, d + 1 = e + 1 ∧ spR = spRis K cB e := by
          rcases hR with h | h
          · cases h
          · exact h
        obtain rfl : d = d' := by omega
        rw [rdIt] at g
        dsimp only at g
        rw [if_neg e] at g
        unfold rdLoop at g
        rw [show decide (V.int (((d + 1 : Nat) : Nat) : Int) = V.int 0) = false from decide_eq_false fun z => by
          have z := V.int.inj z
          omega]
        refine iteF ⟨_, rfl, _, _, rfl, rfl, _, rfl, ite2 (fun h => ?_) (fun h => ?_)⟩
        · have h : ((r : Nat) : Int) < 2 := of_decide_eq_true h
          rw [if_pos (show r < 2 by omega)] at g
          exact ⟨_, rfl, RzP.go g⟩
        · have h : ¬ ((r : Nat) : Int) < 2 := of_decide_eq_false (Bool.eq_false_iff.mpr h)
          rw [if_neg (show ¬ r < 2 by omega)] at g
          refine ⟨_, rfl, _, rfl, z, a, 1000000000000000000, rfl, hz, by decide, by decide, ?_⟩
          cases hN : rdNum (TL.tl z) 1000000000000000000 a with
          | error e =>
            rw [hN] at g
            exact g
          | ok tc =>
            obtain ⟨t, c⟩ := tc
            rw [hN] at g
            dsimp only at g
            intro H1 u1 s1 hu1
            obtain ⟨b1, x1, y1, rfl, hq1, hx1, hy1⟩ := da2 hu1
            cases da_intE hx1
            cases da_intE hy1
            refine ⟨b1, _, rfl, hq1, rfl, _, _, rfl, _, _, rfl, rfl, ?_⟩
            refine ⟨_, rfl, _, rfl, _, rfl, z, Str.ofString "*(", _, rfl, hz, by decide +kernel, ?_⟩
            rw [show TL.tl (Str.ofString "*(") = [42, 40] from by decide +kernel]
            cases hB : rdBh (TL.tl z) [42, 40] c with
            | error e =>
              rw [hB] at g
              exact RzP.same g s1
            | ok b =>
              rw [hB] at g
              dsimp only at g
              intro H2 s2
              refine ⟨_, rfl, _, _, rfl, rfl, _, rfl, _, _, rfl, rfl, z, b, r - 1, ?_, hz, by omega, by omega, ?_⟩
              · show [V.str z, V.int (b : Nat), V.int (((d + 1 : Nat) : Int) - 1), V.int (((r : Nat) : Int) - 1)] = _
                rw [show ((d + 1 : Nat) : Int) - 1 = ((d : Nat) : Int) by omega, show ((r : Nat) : Int) - 1 = ((r - 1 : Nat) : Int) by omega]
              cases hI : rdMany (rdIt (TL.tl z) d) (TL.tl z) b (r - 1) with
              | error e =>
                rw [hI] at g
                exact RzP.same g (s1.trans s2)
              | ok tr =>
                obtain ⟨is, c2, r3⟩ := tr
                rw [hI] at g
                dsimp only at g
                intro H3 u3 s3 hu3
                obtain ⟨b3, x3, y3, v3, rfl, hq3, hx3, hy3, hv3⟩ := da3 hu3
                cases da_intE hy3
                cases da_intE hv3
                refine ⟨b3, _, rfl, hq3, rfl, _, _, rfl, _, _, rfl, _, _, rfl, rfl, ?_⟩
                refine ⟨_, rfl, _, rfl, (by show 3 ≤ sizeLine; rw [sl]; decide), fun p np => ⟨_, rfl, _, rfl, z, Str.ofString ")", _, rfl, hz, by decide +kernel, ?_⟩⟩
                rw [show TL.tl (Str.ofString ")") = [41] from by decide +kernel]
                cases hC : rdBh (TL.tl z) [41] c2 with
                | error e =>
                  rw [hC] at g
                  exact RzP.same g (s1.trans (s2.trans (s3.trans (same_put np))))
                | ok e2 =>
                  rw [hC] at g
                  dsimp only at g
                  intro H4 s4
                  refine ⟨_, rfl, (by show 3 ≤ sizeLine; rw [sl]; decide), fun p2 np2 => ?_⟩
                  have s5 := s4.trans (same_put (o := .tup [.ref p, .int (e2 : Nat), .int (r3 : Nat)]) np2)
                  refine g _ _ (s1.trans (s2.trans (s3.trans ((same_put np).trans s5)))) (.tup (.inl (.inl upd_same)) (.cons ?_ (.cons (.int _) (.cons (.int _) .nil))))
                  show Da K _ _ (It.d (.loop (t : Nat) is))
                  rw [It.d, Its.d_map]
                  exact .tup (.inl (.inl (s5 _ _ upd_same))) (.cons (.str _) (.cons (.int _) (.cons (hx3.mono ((same_put np).trans s5)) .nil)))
theorem ris_step {k d : Nat} (D : Def K mg "read_items" (topS 13) ["text", "at", "depth", "room"]) (X_read_item : CalN (L2.CX P w) P w K mg base k "read_item" ["text", "at", "depth", "room"] (spRi K cB d)) (g_MOST_BESIDE : mg "MOST_BESIDE" = some (.int 20 tE)) (nb : NB mg) :
    CalN (L2.CX P w) P w K mg base (k + 1) "read_items" ["text", "at", "depth", "room"] (spRis K cB d) := by
  refine D.okN scRis (fun vs H Q E h => ?_) (fun fa cdv A outer sh H vs Q E hr h => ?_)
  · obtain ⟨z, a, r, rfl, _⟩ := h
    rfl
  · obtain ⟨z, a, r, rfl, hz, r1, r2, g⟩ := h
    refine ⟨_, (pss_cons (ps_asg (pcallN X_read_item (hr.mono (by omega)) (by rfl) (takes_of rfl rfl rfl rfl) (fun _ _ _ _ h => h) (pa_cons (pv 0) (pa_cons (pv 1) (pa_cons (pv 2) (pa_cons (pv 3) pa_nil))))) (pg_tup rfl (pgs_cons (pg_name (i := 4) scRis.nd rfl (Or.inl rfl)) (pgs_cons (pg_name (i := 1) scRis.nd rfl (Or.inl rfl)) (pgs_cons (pg_name (i := 3) scRis.nd rfl (Or.inl rfl)) pgs_nil)))))
      (pss_cons (ps_set (i := 5) scRis.nd rfl (.inl rfl) (pe_lst (pa_cons (pv 4) pa_nil)))
      (pss_cons (ps_while (passes_of rfl) (PW.pt (pw_and (pt_cmpR op_eq (pe_slice sl_str (pv 0) (po_some (pv 1)) (po_some (pe_op op_add (pv 1) pe_int))) pe_str (nomark _)) (pw_and (pt_cmpR op_lt (pe_callB call_len_seq (by rfl) nb.at PySem.boot_len (pa_cons (pv 5) pa_nil)) (pe_glob (v := .int 20) rfl g_MOST_BESIDE ⟨_, rfl⟩) (nomark _)) (pw_and1 (pt_cmpR op_gt (pv 3) pe_int (nomark _))))))
        (pss_cons (ps_asg (pcallN X_read_item (hr.mono (by omega)) (by rfl) (takes_of rfl rfl rfl rfl) (fun _ _ _ _ h => h) (pa_cons (pv 0) (pa_cons (pe_op op_add (pv 1) pe_int) (pa_cons (pv 2) (pa_cons (pv 3) pa_nil))))) (pg_tup rfl (pgs_cons (pg_name (i := 4) scRis.nd rfl (Or.inl rfl)) (pgs_cons (pg_name (i := 1) scRis.nd rfl (Or.inl rfl)) (pgs_cons (pg_name (i := 3) scRis.nd rfl (Or.inl rfl)) pgs_nil)))))
        (pss_one (ps_expr (pe_bm PySem.F.plainAttrs_list PySem.F.slot_list_append PySem.F.type_list_append mt_append (pv 5) (pa_cons (pv 4) pa_nil))))))
      (pss_one (ps_ret (pe_tup (pa_cons (pe_callTy call_tuple_of (by rfl) nb.at (by decide +kernel) (pa_cons (pv 5) pa_nil)) (pa_cons (pv 1) (pa_cons (pv 3) pa_nil))))))))), ?_⟩
    have sl := sizeLine_eq
    have s32 : Str.ofString " " = ⟨([32] : List Nat).toArray⟩ := by decide +kernel
    rw [rdMany_app] at g
    refine ⟨_, rfl, _, rfl, _, rfl, _, rfl, z, a, r, rfl, hz, r1, r2, ?_⟩
    cases hI : rdIt (TL.tl z) d a r with
    | error e =>
      rw [hI] at g
      exact g
    | ok x =>
      rw [hI] at g
      dsimp only at g
      intro H1 u1 s1 hu1
      obtain ⟨b1, x1, y1, v1, rfl, hq1, hx1, hy1, hv1⟩ := da3 hu1
      cases da_intE hy1
      cases da_intE hv1
      refine ⟨b1, _, rfl, hq1, rfl, _, _, rfl, _, _, rfl, _, _, rfl, rfl, ?_⟩
      refine ⟨_, rfl, (by show 1 ≤ sizeLine; rw [sl]; decide), fun l nl => ?_⟩
      have hro := rdIt_room hI
      refine ⟨fun m σ' H' => ∃ (js : List It) (us : List V) (a2 rr : Nat) (v : V), m + js.length = 20 ∧ 1 ≤ js.length ∧ rr ≤ 60 ∧ σ' = [some (.str z), some (.int (a2 : Nat)), some (.int (d : Nat)), some (.int (rr : Nat)), some v, some (.ref l)] ∧ Same H H' ∧ H' l = some (.lst us) ∧ DaAll K H' us (js.map It.d) ∧
          RdG (rdApp js (rdMore (rdIt (TL.tl z) d) (TL.tl z) m a2 rr)) cB H E fun b => ∀ H' u, Same H H' → Da K H' u (.tuple [.tuple (b.1.map It.d), .int (b.2.1 : Nat), .int (b.2.2 : Nat)]) → Q u H',
        ⟨19, [x.1], [x1], x.2.1, x.2.2, x1, rfl, Nat.le_refl _, by omega, rfl, s1.trans (same_put nl), upd_same, .cons (hx1.mono (same_put nl)) .nil, g⟩, ?_⟩
      rintro m σ' H2 ⟨js, us, a2, rr, v, hm, hj, hrr, rfl, s2, hl2, hd2, g2⟩
      have hul := daAll_len hd2
      rw [List.length_map] at hul
      have fin : (m = 0 ∨ ¬ ((TL.tl z)[a2]? = some 32 ∧ 0 < rr)) → ∀ H3, Same H2 H3 → tRet (tTup (tCons (tCB (rTupOf K) (tCons (tVar 5) tNil)) (tCons (tVar 1) (tCons (tVar 3) tNil)))) { nx := fun _ H' => Q .non H', rt := Q } [some (.str z), some (.int (a2 : Nat)), some (.int (d : Nat)), some (.int (rr : Nat)), some v, some (.ref l)] H3 := fun e H3 s3 => by
        rw [rdMore_no e] at g2
        refine ⟨_, rfl, l, us, rfl, .inl ⟨.inl (.inl (s3 _ _ hl2)), fun t nt => ⟨_, rfl, _, rfl, (by show 3 ≤ sizeLine; rw [sl]; decide), fun p np => ?_⟩⟩⟩
        have s5 := (same_put (o := .tup us) nt).trans (same_put (o := .tup [.ref t, .int (a2 : Nat), .int (rr : Nat)]) np)
        exact g2 _ _ (s2.trans (s3.trans s5)) (.tup (.inl (.inl upd_same)) (.cons (.tup (.inl (.inl (same_put np _ _ upd_same))) (hd2.mono (s3.trans s5))) (.cons (.int _) (.cons (.int _) .nil))))
      refine sl1_go hz rfl rfl _ ⟨rfl, _, rfl, ?_⟩
      rw [s32]
      by_cases e : (TL.tl z)[a2]? = some 32
      · rw [decide_eq_true (str_mk.mpr (sgN_eq.mpr e))]
        refine iteT ⟨_, rfl, l, us, rfl, .inl (.inl (.inl hl2)), _, _, rfl, rfl, _, rfl, ite2 (fun h => ?_) (fun h => ?_)⟩
        · have h : ((us.length : Nat) : Int) < 20 := of_decide_eq_true h
          refine ⟨_, rfl, _, _, rfl, rfl, _, rfl, ite2 (fun h2 => ?_) (fun h2 => ?_)⟩
          · have h2 : (0 : Int) < ((rr : Nat) : Int) := of_decide_eq_true h2
            obtain ⟨m, rfl⟩ : ∃ k, m = k + 1 := ⟨m - 1, by omega⟩
            rw [rdMore_yes ⟨e, by omega⟩] at g2
            refine ⟨_, fun _ _ n => n, _, rfl, _, rfl, _, _, rfl, rfl, _, rfl, _, rfl, z, a2 + 1, rr, ?_, hz, by omega, hrr, ?_⟩
            · show [V.str z, V.int (((a2 : Nat) : Int) + 1), V.int (d : Nat), V.int (rr : Nat)] = _
              rw [Int.natCast_add]
              rfl
            cases hI2 : rdIt (TL.tl z) d (a2 + 1) rr with
            | error e =>
              rw [hI2] at g2
              exact RzP.same g2 s2
            | ok x2 =>
              rw [hI2] at g2
              dsimp only at g2
              intro H3 u3 s3 hu3
              obtain ⟨b3, x3, y3, v3, rfl, hq3, hx3, hy3, hv3⟩ := da3 hu3
              cases da_intE hy3
              cases da_intE hv3
              have hro2 := rdIt_room hI2
              have hl3 : H3 l = some (.lst us) := s3 _ _ hl2
              refine ⟨b3, _, rfl, hq3, rfl, _, _, rfl, _, _, rfl, _, _, rfl, rfl, ?_⟩
              refine ⟨_, rfl, .inl ⟨rfl, _, .inl (.inl hl3)⟩, _, rfl, l, us, _, rfl, rfl, hl3, by omega, ?_⟩
              have kt : Kt H3 (upd H3 l (.lst (us ++ [x3]))) := Kt.put hl3
              have nlH : H l = none := back_none s1 nl
              have s4 : Same H (upd H3 l (.lst (us ++ [x3]))) := fun b o e => by
                rw [upd_ne (ne_of_none e nlH)]
                exact s3 _ _ (s2 _ _ e)
              refine ⟨m, by omega, js ++ [x2.1], us ++ [x3], x2.2.1, x2.2.2, x3, by rw [List.length_append, List.length_singleton]; omega, by rw [List.length_append]; omega, by omega, rfl, s4, upd_same, ?_, g2⟩
              rw [List.map_append]
              have t1 := prog_tup js
              rw [tupD] at t1
              have t2 := prog_tup [x2.1]
              rw [tupD] at t2
              exact da_app (DaAll.kt kt t1 (hd2.mono s3)) (DaAll.kt kt t2 (.cons hx3 .nil))
          · have h2 : ¬ (0 : Int) < ((rr : Nat) : Int) := of_decide_eq_false (Bool.eq_false_iff.mpr h2)
            exact fin (.inr fun x => h2 (by omega)) _ Same.rfl'
        · have h : ¬ ((us.length : Nat) : Int) < 20 := of_decide_eq_false (Bool.eq_false_iff.mpr h)
          exact fin (.inl (by omega)) _ Same.rfl'
      · rw [decide_eq_false (fun h => e (sgN_eq.mp (str_mk.mp h)))]
        exact iteF (iteF (fin (.inr fun x => e x.1) _ Same.rfl'))
theorem no_calN {x : Str} {st : Stmt} {ps : List Str} {k : Nat} (D : Def K mg x st ps) : CalN (L2.CX P w) P w K mg base k x ps (fun _ _ _ _ => False) := by
  obtain ⟨f, fd, F, b, m⟩ := D.ex
  exact ⟨f, fd, no_fn, b, m, F.kp⟩
theorem ok_ris (D_read_item : Def K mg "read_item" (topS 14) ["text", "at", "depth", "room"]) (D_read_items : Def K mg "read_items" (topS 13) ["text", "at", "depth", "room"]) (C_is_letter : CalN CX0 P w K mg base 1 "is_letter" ["text"] spIl) (C_read_name : CalN CX0 P w K mg base 2 "read_name" ["text", "at"] (spRn K))
    (X_behind : CalN (L2.CX P w) P w K mg base 3 "behind" ["text", "at", "signs"] (spBh cB)) (X_read_number : CalN (L2.CX P w) P w K mg base 3 "read_number" ["text", "at", "most"] (spRm K cB)) (R_BadText : Err1 P w K mg base "BadText" cB "position") (g_MOST_TICKS : mg "MOST_TICKS" = some (.int 1000000000000 tT)) (g_MOST_ROUNDS : mg "MOST_ROUNDS" = some (.int 1000000000000000000 tR))
    (g_MOST_BESIDE : mg "MOST_BESIDE" = some (.int 20 tE)) (nb : NB mg) : ∀ d : Nat, CalN (L2.CX P w) P w K mg base (2 * d + 5) "read_items" ["text", "at", "depth", "room"] (spRis K cB d)
  | 0 => ris_step (k := 4) D_read_items (ri_line (k := 3) D_read_item C_is_letter C_read_name X_behind X_read_number (no_calN D_read_items) (Nat.le_refl 3) (.inl rfl) R_BadText g_MOST_TICKS g_MOST_ROUNDS nb) g_MOST_BESIDE nb
  | d + 1 => ris_step (k := 2 * d + 6) D_read_items (ri_line (k := 2 * d + 5) D_read_item C_is_letter C_read_name X_behind X_read_number (ok_ris D_read_item D_read_items C_is_letter C_read_name X_behind X_read_number R_BadText g_MOST_TICKS g_MOST_ROUNDS g_MOST_BESIDE nb d) (by omega) (.inr ⟨d, rfl, rfl⟩) R_BadText g_MOST_TICKS g_MOST_ROUNDS nb) g_MOST_BESIDE nb
theorem ok_rp {tD tI : Tok} (D : Def K mg "read_program" (topS 12) ["text"]) (X_read_items : CalN (L2.CX P w) P w K mg base 15 "read_items" ["text", "at", "depth", "room"] (spRis K cB 5)) (R_BadText : Err1 P w K mg base "BadText" cB "position")
    (g_MOST_DEEP : mg "MOST_DEEP" = some (.int 5 tD)) (g_MOST_ITEMS : mg "MOST_ITEMS" = some (.int 60 tI)) (nb : NB mg) : CalN (L2.CX P w) P w K mg base 16 "read_program" ["text"] (spRp K cB) := by
  refine D.okN scRp (fun vs H Q E h => ?_) (fun fa cdv A outer sh H vs Q E hr h => ?_)
  · obtain ⟨v, dd, rfl, _⟩ := h
    rfl
  · obtain ⟨v, dd, rfl, hd, g1, g2⟩ := h
    refine ⟨_, (pss_cons (ps_if (pt_not (pt_val (pe_isT (.inr (.inr (.inr rfl))) nb.at (fun _ => pv 0) (fun _ => ty_of rfl nb.at (by decide +kernel)))))
        (pss_one (ps_raise1 R_BadText rfl (hr.mono (by omega)) (by rfl) (takes_of rfl rfl rfl rfl) pe_int))
        pss_nil)
      (pss_cons (ps_asg (pcallN X_read_items (hr.mono (by omega)) (by rfl) (takes_of rfl rfl rfl rfl) (fun _ _ _ _ h => h) (pa_cons (pv 0) (pa_cons pe_int (pa_cons (pe_glob (v := .int 5) rfl g_MOST_DEEP ⟨_, rfl⟩) (pa_cons (pe_glob (v := .int 60) rfl g_MOST_ITEMS ⟨_, rfl⟩) pa_nil))))) (pg_tup rfl (pgs_cons (pg_name (i := 1) scRp.nd rfl (Or.inl rfl)) (pgs_cons (pg_name (i := 2) scRp.nd rfl (Or.inl rfl)) (pgs_cons (pg_name (i := 3) scRp.nd rfl (Or.inl rfl)) pgs_nil)))))
      (pss_cons (ps_if (pt_cmpR op_lt (pv 2) (pe_callB call_len_str (by rfl) nb.at (by decide +kernel) (pa_cons (pv 0) pa_nil)) (nomark _))
        (pss_one (ps_raise1 R_BadText rfl (hr.mono (by omega)) (by rfl) (takes_of rfl rfl rfl rfl) (pv 2)))
        pss_nil)
      (pss_one (ps_ret (pv 1)))))), ?_⟩
    have sl := sizeLine_eq
    by_cases hs : ∃ z, dd = .str z
    · obtain ⟨z, rfl⟩ := hs
      obtain ⟨hz, g⟩ := g1 z rfl
      cases da_strE hd
      refine ⟨_, .str z, rfl, .str z, true, congrArg V.bl (by rw [isD_str]), iteF ?_⟩
      unfold rdP at g
      refine ⟨_, rfl, z, 0, 60, rfl, hz, by decide, by decide, ?_⟩
      cases hI : rdMany (rdIt (TL.tl z) 5) (TL.tl z) 0 60 with
      | error e =>
        rw [hI] at g
        exact g
      | ok x =>
        obtain ⟨is, a, r⟩ := x
        rw [hI] at g
        dsimp only at g
        intro H1 u1 s1 hu1
        obtain ⟨b1, x1, y1, v1, rfl, hq1, hx1, hy1, hv1⟩ := da3 hu1
        cases da_intE hy1
        cases da_intE hv1
        refine ⟨b1, _, rfl, hq1, rfl, _, _, rfl, _, _, rfl, _, _, rfl, rfl, ?_⟩
        have hlen : ((z.length : Nat) : Int) = (((TL.tl z).length : Nat) : Int) := by rw [TL.len_tl]
        refine ⟨_, rfl, _, rfl, z, rfl, hz, _, _, rfl, rfl, _, rfl, ite2 (fun h => ?_) (fun h => ?_)⟩
        · have h : ((a : Nat) : Int) < ((z.length : Nat) : Int) := of_decide_eq_true h
          rw [if_pos (show a < (TL.tl z).length by omega)] at g
          exact ⟨_, rfl, RzP.go (RzP.same g s1)⟩
        · have h : ¬ ((a : Nat) : Int) < ((z.length : Nat) : Int) := of_decide_eq_false (Bool.eq_false_iff.mpr h)
          rw [if_neg (show ¬ a < (TL.tl z).length by omega)] at g
          exact ⟨_, rfl, g H1 x1 s1 hx1⟩
    · refine ⟨_, dd, rfl, hd, false, congrArg V.bl ?_, iteT (RzP.go (g2 fun z e => hs ⟨z, e⟩))⟩
      rw [isD_str]
      cases dd with
      | str z => exact absurd ⟨z, rfl⟩ hs
      | _ => rfl
end
end Ev

/-! ## a text so many times -/
namespace Ev
open PySem PySem.Spec PyProof.Rows L2
def repT (n : Nat) (l : List Nat) : List Nat := (List.replicate n l).flatten
theorem fold_cps (c : Array Nat) : ∀ (k : Nat) (acc : Array Nat), ((List.replicate k c).foldl (· ++ ·) acc).toList = acc.toList ++ repT k c.toList
  | 0, acc => by
    show acc.toList = acc.toList ++ []
    rw [List.append_nil]
  | k + 1, acc => by
    rw [List.replicate_succ, List.foldl_cons, fold_cps c k, Array.toList_append, List.append_assoc]
    rfl
theorem mul_repT (z : Str) (n : Nat) : Txt.mul z (n : Nat) = mkS (repT n (TL.tl z)) := by
  refine TL.ext_tl ?_
  rw [tl_mkS]
  unfold Txt.mul
  by_cases h1 : ((n : Nat) : Int) < 1
  · rw [if_pos h1]
    obtain rfl : n = 0 := by omega
    rfl
  · rw [if_neg h1]
    split
    · rename_i hc
      rw [Bool.or_eq_true, beq_iff_eq, beq_iff_eq] at hc
      rcases hc with h | h
      · obtain rfl : n = 1 := by omega
        show _ = (List.replicate 1 (TL.tl z)).flatten
        simp
      · have e : TL.tl z = [] := (TL.len0_tl z).mp h
        rw [e]
        unfold repT
        simp
    · show ((List.replicate ((n : Nat) : Int).toNat z.cps).foldl (· ++ ·) #[]).toList = _
      rw [fold_cps, Int.toNat_natCast]
      rfl
def rMulS : R2 := fun x y H Q => ∃ (z : Str) (n : Nat), x = .str z ∧ y = .int (n : Nat) ∧ z.length ≤ 100 ∧ n ≤ 100000 ∧ Q (.str (mkS (repT n (TL.tl z)))) H
theorem op_mulS {X : Cx} : OpR X (binaryOp .Mult) rMulS := by
  rintro pins s σ H x y v u Q I rx ry ⟨z, n, rfl, rfl, hz, hn, q⟩
  obtain ⟨t, rfl⟩ := rx
  obtain ⟨t', rfl⟩ := ry
  rw [← mul_repT] at q
  exact SB.mul (mulOk_of 100 100000 hz (by omega) (by omega) (by decide) (by decide)) fun t2 k => ⟨.str _, H, I.tok k, ⟨_, rfl⟩, q⟩
end Ev

/-! ## Defs whose code object is known; what stands while a table grows -/
namespace Ev
open PySem PySem.Spec PyProof.Rows L2
open LamX (CodeO TabS Tabs ExtN TabB)
section
variable {P : Program} {w : World} {K : PySem.W.Frag} {mg : Str → Option Value} {base : Heap} {x q : Str} {st : Stmt} {ps N : List Str} {sp : Sp} {k : Nat} {c : Addr}
/-- a def by its body, its code object at c -/
theorem okGc {f : Addr} {fd : FuncData} (F : Fun K x q st f fd) (hc : fd.code = .ref c) (S : FnScope N ps (defScope st)) (len : ∀ vs H Q E, sp vs H Q E → vs.length = ps.length)
    (walk : ∀ (A : Around) (outer : List Env) (s : Shared) (H : Hp) (vs : List V) (Q : VK) (E : XK), Room k (A.deeper (envOfC q (defScope st) s.heap.objs.size f (.ref c))) → A.guards = some [] → sp vs H Q E →
      ∃ t, PSs (cxOf CX0 P w K mg base N q (defScope st) f (.ref c) A outer s H E).nox (defBody st) t ∧ t { nx := fun _ H' => Q .non H', rt := Q } (start N vs) H) : FnG P w K mg base CX0 (k + 1) f fd ps sp := by
  obtain ⟨oc, od, kV, doc, pm, an, cdv, ct, osl, e, lk, hcd⟩ := F.ex
  cases e
  cases (show cdv = .ref c from hc)
  refine fnG_of lk hcd S len fun A outer s H vs Q E hr gd h => ?_
  obtain ⟨t, ht, hq⟩ := walk A outer s H vs Q E hr gd h
  exact ⟨t, ht.nox, hq⟩
/-- a def of the module whose code object is known -/
structure DefC (K : PySem.W.Frag) (mg : Str → Option Value) (x : Str) (st : Stmt) (ps : List Str) (c : Addr) : Prop where
  ex : ∃ (f : Addr) (fd : FuncData), Fun K x x st f fd ∧ Binds K fd ps [] ∧ mg x = some (.ref f) ∧ fd.code = .ref c
theorem DefC.ok (D : DefC K mg x st ps c) (S : FnScope N ps (defScope st)) (len : ∀ vs H Q E, sp vs H Q E → vs.length = ps.length)
    (walk : ∀ (f : Addr) (A : Around) (outer : List Env) (s : Shared) (H : Hp) (vs : List V) (Q : VK) (E : XK), Room k (A.deeper (envOfC x (defScope st) s.heap.objs.size f (.ref c))) → A.guards = some [] → sp vs H Q E →
      ∃ t, PSs (cxOf CX0 P w K mg base N x (defScope st) f (.ref c) A outer s H E).nox (defBody st) t ∧ t { nx := fun _ H' => Q .non H', rt := Q } (start N vs) H) : Cal P w K mg base (k + 1) x ps sp := by
  obtain ⟨f, fd, F, b, m, hc⟩ := D.ex
  exact ⟨f, fd, okGc F hc S len (walk f), b, m, F.kp⟩
/-- a def's table is that of what is written -/
theorem TabF.code {h : Heap} {p : Addr × Addr} {f : Addr} {fd : FuncData} (t : TabF h mg x p) (X : K.In h) (F : Fun K x q st f fd) (m : mg x = some (.ref f)) : fd.code = .ref p.1 := by
  obtain ⟨f', o, fd', h1, h2, h3, h4⟩ := t
  obtain ⟨oc, od, kV, doc, pm, an, cdv, ct, osl, e, lk, hcd⟩ := F.ex
  rw [m] at h1
  cases h1
  have z := X _ _ lk
  rw [h2] at z
  cases z
  cases h3
  exact h4
theorem paired1 {α β : Type} {R : α → β → Prop} {x : α} {cs : List β} (h : Paired R [x] cs) : ∃ p, cs = [p] ∧ R x p := by
  cases h with
  | cons h t =>
    cases t
    exact ⟨_, rfl, h⟩
theorem paired2 {α β : Type} {R : α → β → Prop} {x y : α} {cs : List β} (h : Paired R [x, y] cs) : ∃ p r, cs = [p, r] ∧ R x p ∧ R y r := by
  cases h with
  | cons h t =>
    cases t with
    | cons h2 t =>
      cases t
      exact ⟨_, _, rfl, h, h2⟩
end
/-! ### what stands -/
section
variable {K : PySem.W.Frag} {H H' : Hp} {Pt : Addr} {q : Str}
theorem TabS.kj (t : TabS H Pt q) (k : Kj H H') : TabS H' Pt q := by
  obtain ⟨ps, h1, h2, h3⟩ := t
  refine ⟨ps, k _ _ h1 nofun nofun, h2, fun pos cv hc => ?_⟩
  obtain ⟨c, e1, e2⟩ := h3 pos cv hc
  exact ⟨c, e1, k _ _ e2 nofun nofun⟩
theorem TabS.new (h : H Pt = some (.tbl #[])) : TabS H Pt q := LamX.TabS.nil h
mutual
theorem Da.ext (s : ExtN H H') : ∀ {v : V} {d : PyData}, Da K H v d → Da K H' v d
  | _, _, .non => .non
  | _, _, .bl b => .bl b
  | _, _, .int i => .int i
  | _, _, .str x => .str x
  | _, _, .lst h t => .lst (by
      rcases h with (e | ⟨o, e⟩) | e
      · exact .inl (.inl (s _ _ e nofun))
      · exact .inl (.inr ⟨o, s _ _ e nofun⟩)
      · exact .inr e) (DaAll.ext s t)
  | _, _, .tup h t => .tup (by
      rcases h with (e | ⟨o, e⟩) | e
      · exact .inl (.inl (s _ _ e nofun))
      · exact .inl (.inr ⟨o, s _ _ e nofun⟩)
      · exact .inr e) (DaAll.ext s t)
  | _, _, .dic h t => .dic (s _ _ h nofun) (DaKv.ext s t)
theorem DaAll.ext (s : ExtN H H') : ∀ {vs : List V} {ds : List PyData}, DaAll K H vs ds → DaAll K H' vs ds
  | _, _, .nil => .nil
  | _, _, .cons h t => .cons (Da.ext s h) (DaAll.ext s t)
theorem DaKv.ext (s : ExtN H H') : ∀ {vs : List (Key × V)} {ds : List (PyData × PyData)}, DaKv K H vs ds → DaKv K H' vs ds
  | _, _, .nil => .nil
  | _, _, .cons h t => .cons (Da.ext s h) (DaKv.ext s t)
end
theorem SqL.ext {a : Addr} {xs : List V} (s : ExtN H H') (h : SqL K H a xs) : SqL K H' a xs := by
  rcases h with (e | ⟨o, e⟩) | e
  · exact .inl (.inl (s _ _ e nofun))
  · exact .inl (.inr ⟨o, s _ _ e nofun⟩)
  · exact .inr e
theorem PotA.ext {p : Addr} {n : Nat} (h : PotA p n H) (s : ExtN H H') : PotA p n H' := by
  obtain ⟨xs, e, q⟩ := h
  exact ⟨xs, s _ _ e nofun, q⟩
theorem Scr.seq {a : Addr} {xs : List V} (h : Scr K H a xs) : SqL K H a xs := by
  rcases h with ⟨o, e⟩ | h
  · exact .inl (.inr ⟨o, e⟩)
  · exact h H
theorem Scr.kj {a : Addr} {xs : List V} (h : Scr K H a xs) (k : Kj H H') : Scr K H' a xs := by
  rcases h with ⟨o, e⟩ | h
  · exact .inl ⟨o, k _ _ e nofun nofun⟩
  · exact .inr h
theorem Scr.ext {a : Addr} {xs : List V} (h : Scr K H a xs) (s : ExtN H H') : Scr K H' a xs := by
  rcases h with ⟨o, e⟩ | h
  · exact .inl ⟨o, s _ _ e nofun⟩
  · exact .inr h
end
end Ev

/-! ## Data of tuples, to be compared -/
namespace Ev
open PySem PySem.Spec PyProof.Rows L2
mutual
theorem da_dp2 {K : PySem.W.Frag} {H : Hp} : ∀ {v : V} {d : PyData}, tupD d = true → Da K H v d → Dp K H v d
  | _, .none, _, h => by
    cases h
    exact .non
  | _, .bool b, _, h => by
    cases h
    exact .bl b
  | _, .int i, _, h => by
    cases h
    exact .int i
  | _, .str x, _, h => by
    cases h
    exact .str x
  | _, .list ds, t, _ => by
    rw [tupD] at t
    cases t
  | _, .tuple ds, t, h => by
    rw [tupD] at t
    cases h with
    | tup hs ha => exact .tup hs (daAll_dp2 t ha)
  | _, .dict _, t, _ => by
    rw [tupD] at t
    cases t
theorem daAll_dp2 {K : PySem.W.Frag} {H : Hp} : ∀ {vs : List V} {ds : List PyData}, tupDs ds = true → DaAll K H vs ds → DpAll K H vs ds
  | _, [], _, h => by
    cases h
    exact .nil
  | _, d :: ds, t, h => by
    rw [tupDs, Bool.and_eq_true] at t
    cases h with
    | cons h1 h2 => exact .cons (da_dp2 t.1 h1) (daAll_dp2 t.2 h2)
end
end Ev

/-! ## k61: what reading a page tells -/
namespace Ev
open PySem PySem.Spec PyProof.Rows L2
open LamX (CodeO TabS Tabs ExtN TabB tLam)
abbrev qTo : Str := (envOfC "_law_told" (defScope (topS 24)) 0 0 .none).qual ++ "<lambda>"
def resD (r : Rdx (List It)) : PyData := match r with
  | .ok is => .tuple [.str "told", .tuple (is.map It.d)]
  | .error n => .tuple [.str "text", .int (n : Nat)]
def spTo (K : PySem.W.Frag) (Pt : Addr) : Sp := fun vs H Q _ => ∃ z : Str, vs = [.str z] ∧ z.length ≤ sizeLine ∧ TabS H Pt qTo ∧ ∀ H' u, ExtN H H' → TabS H' Pt qTo → Da K H' u (resD (rdP (TL.tl z))) → Q u H'
theorem scTo : FnScope ["_law_page"] ["_law_page"] (defScope (topS 24)) := ⟨rfl, rfl, rfl, by decide +kernel, rfl, by decide +kernel, by decide +kernel⟩
section
variable {P : Program} {w : World} {K : PySem.W.Frag} {mg : Str → Option Value} {base : Heap} {c Pt cS cB cP cC : Addr}
theorem ok_to (TB : TabB base mg c Pt) (Z : TxC K mg cS cB cP cC) (D : DefC K mg "_law_told" (topS 24) ["_law_page"] c) (D__law_text_caught : Def K mg "_law_text_caught" (topS 23) ["_law_call"]) (X_read_program : CalN (L2.CX P w) P w K mg base 16 "read_program" ["text"] (spRp K cB)) (nb : NB mg) :
    Cal P w K mg base 19 "_law_told" ["_law_page"] (spTo K Pt) := by
  refine D.ok scTo (fun vs H Q E h => ?_) (fun f A outer s H vs Q E hr gd h => ?_)
  · obtain ⟨z, rfl, _⟩ := h
    rfl
  · obtain ⟨z, rfl, hz, hT, q⟩ := h
    refine ⟨_, (pss_one (ps_ret (pe_lamD (k := 16) D__law_text_caught (by rfl) scCx rfl (.inl rfl) (text_gives Z nb) TB rfl (hr.mono (by omega)) (LamX.lamS_by (sc := defScope (topS 24)) (by decide +kernel)) rfl rfl (fun _ _ _ _ _ => rfl) (fun A1 outer1 s1 H1 E1 f1 c1 hr1 => (pcallN X_read_program (hr1.mono (by omega)) (by rfl) (takes_of rfl rfl rfl rfl) (fun _ _ _ _ h => h) (pa_cons (pv 0) pa_nil)))))), ?_⟩
    refine ⟨hT, fun H1 x1 T1 => fun H2 R s2 hR => ?_⟩
    refine ⟨_, rfl, _, .str z, rfl, .str z, fun z' e => ?_, fun no => (no _ rfl).elim⟩
    injection e with e
    subst e
    refine ⟨hz, ?_⟩
    cases hP : rdP (TL.tl z) with
    | ok is =>
      intro H3 u s3 hu
      refine hR _ _ fun H4 t s4 ht => q H4 (.ref t) (x1.trans (ExtN.of (s2.trans (s3.trans s4)))) (T1.ext (s2.trans (s3.trans s4))) ?_
      rw [hP]
      exact .tup (.inl (.inl ht)) (.cons (.str _) (.cons (hu.mono s4) .nil))
    | error n =>
      intro H3 dd s3 hdd
      refine ⟨dd, n, rfl, rfl, hdd, fun H4 t s4 ht => q H4 (.ref t) (x1.trans (ExtN.of (s2.trans (s3.trans s4)))) (T1.ext (s2.trans (s3.trans s4))) ?_⟩
      rw [hP]
      exact .tup (.inl (.inl ht)) (.cons (.str _) (.cons (.int _) .nil))
end
end Ev

/-! ## Expressions that give a text, a number or a list of texts, while only tables change -/
namespace Ev
open PySem PySem.Spec PyProof.Rows L2
open LamX (ExtN)
/-- what stands under new objects -/
abbrev Sts (I : Hp → Prop) : Prop := ∀ H H', I H → Same H H' → I H'
def SE (I : Hp → Prop) (te : TE) (σ : L2.St) (H : Hp) (z : Str) : Prop := ∀ H1 (Q : VK), ExtN H H1 → I H1 → (∀ H2, ExtN H1 H2 → I H2 → Q (.str z) H2) → te σ H1 Q
def IE (I : Hp → Prop) (te : TE) (σ : L2.St) (H : Hp) (n : Int) : Prop := ∀ H1 (Q : VK), ExtN H H1 → I H1 → (∀ H2, ExtN H1 H2 → I H2 → Q (.int n) H2) → te σ H1 Q
def LE (I : Hp → Prop) (te : TE) (σ : L2.St) (H : Hp) (xs : List Str) : Prop := ∀ H1 (Q : VK), ExtN H H1 → I H1 → (∀ H2 p, ExtN H1 H2 → I H2 → H2 p = some (.lst (xs.map V.str)) → Q (.ref p) H2) → te σ H1 Q
def AE (I : Hp → Prop) (ta : TA) (σ : L2.St) (H : Hp) (xs : List Str) : Prop := ∀ H1 (Q : List V → Hp → Prop), ExtN H H1 → I H1 → (∀ H2, ExtN H1 H2 → I H2 → Q (xs.map V.str) H2) → ta σ H1 Q
theorem cut_toV (xs : List V) (i : Nat) : cutV xs none (some (i : Nat)) = xs.take i := by
  unfold cutV
  rw [HT.sIx_none, HT.sIx_nat, List.drop_zero, Nat.sub_zero]
  by_cases h : i ≤ xs.length
  · rw [Nat.min_eq_left h]
  · rw [Nat.min_eq_right (by omega), List.take_of_length_le (Nat.le_refl _), List.take_of_length_le (by omega)]
section
variable {I : Hp → Prop} {σ : L2.St} {H : Hp} {a b o : TE} {ta : TA} {x y z : Str} {xs ys : List Str} {n m : Int} {i : Nat} {K : PySem.W.Frag}
theorem ext_put {H1 : Hp} {p : Addr} {u : HO} (n : H1 p = none) : ExtN H1 (upd H1 p u) := ExtN.of (same_put n)
theorem se_var (h : σ[i]? = some (some (.str z))) : SE I (tVar i) σ H z := fun H1 Q x j q => ⟨_, h, q H1 (ExtN.refl _) j⟩
theorem se_c : SE I (tC (.str z)) σ H z := fun H1 Q x j q => q H1 (ExtN.refl _) j
theorem ie_var (h : σ[i]? = some (some (.int n))) : IE I (tVar i) σ H n := fun H1 Q x j q => ⟨_, h, q H1 (ExtN.refl _) j⟩
theorem ie_c : IE I (tC (.int n)) σ H n := fun H1 Q x j q => q H1 (ExtN.refl _) j
theorem ie_add (ha : IE I a σ H n) (hb : IE I b σ H m) : IE I (tOp (rI0 fun i j => .int (i + j)) a b) σ H (n + m) := fun H1 Q e j q => ha H1 _ e j fun H2 e2 j2 => hb H2 _ (e.trans e2) j2 fun H3 e3 j3 => ⟨n, m, rfl, rfl, q H3 (e2.trans e3) j3⟩
theorem ie_sub (ha : IE I a σ H n) (hb : IE I b σ H m) : IE I (tOp (rI0 fun i j => .int (i - j)) a b) σ H (n - m) := fun H1 Q e j q => ha H1 _ e j fun H2 e2 j2 => hb H2 _ (e.trans e2) j2 fun H3 e3 j3 => ⟨n, m, rfl, rfl, q H3 (e2.trans e3) j3⟩
theorem ie_mul (ha : IE I a σ H n) (hb : IE I b σ H m) (h : CMul n m) : IE I (tOp (rI CMul fun i j => .int (i * j)) a b) σ H (n * m) := fun H1 Q e j q => ha H1 _ e j fun H2 e2 j2 => hb H2 _ (e.trans e2) j2 fun H3 e3 j3 => ⟨n, m, rfl, rfl, h, q H3 (e2.trans e3) j3⟩
theorem ie_min (ha : IE I a σ H n) (hb : IE I b σ H m) : IE I (tCB (fun xs H Q => ∃ i j : Int, xs = [V.int i, V.int j] ∧ Q (.int (if j < i then j else i)) H) (tCons a (tCons b tNil))) σ H (if m < n then m else n) := fun H1 Q e j q => ha H1 _ e j fun H2 e2 j2 => hb H2 _ (e.trans e2) j2 fun H3 e3 j3 => ⟨n, m, rfl, q H3 (e2.trans e3) j3⟩
theorem se_add (ha : SE I a σ H x) (hb : SE I b σ H y) (hl : x.length + y.length ≤ sizeLine) : SE I (tOp (fun x y H Q => ∃ i j, x = .str i ∧ y = .str j ∧ i.length + j.length ≤ sizeLine ∧ Q (.str (i ++ j)) H) a b) σ H (x ++ y) := fun H1 Q e j q =>
  ha H1 _ e j fun H2 e2 j2 => hb H2 _ (e.trans e2) j2 fun H3 e3 j3 => ⟨x, y, rfl, rfl, hl, q H3 (e2.trans e3) j3⟩
theorem se_mul {k : Nat} (ha : SE I a σ H x) (hb : IE I b σ H (k : Nat)) (hl : x.length ≤ 100) (hk : k ≤ 100000) : SE I (tOp rMulS a b) σ H (mkS (repT k (TL.tl x))) := fun H1 Q e j q =>
  ha H1 _ e j fun H2 e2 j2 => hb H2 _ (e.trans e2) j2 fun H3 e3 j3 => ⟨x, k, rfl, rfl, hl, hk, q H3 (e2.trans e3) j3⟩
theorem se_str (ha : IE I a σ H n) (hl : n.natAbs.log2 < 1920) : SE I (tCB (fun xs H Q => ∃ i : Int, xs = [V.int i] ∧ i.natAbs.log2 < 1920 ∧ Q (.str (Str.ofString (toString i))) H) (tCons a tNil)) σ H (Str.ofString (toString n)) := fun H1 Q e j q =>
  ha H1 _ e j fun H2 e2 j2 => ⟨n, rfl, hl, q H2 e2 j2⟩
theorem ie_len (ha : SE I a σ H z) (hl : z.length ≤ sizeLine) : IE I (tCB (fun xs H Q => ∃ z : Str, xs = [.str z] ∧ z.length ≤ sizeLine ∧ Q (.int z.length) H) (tCons a tNil)) σ H (z.length : Nat) := fun H1 Q e j q =>
  ha H1 _ e j fun H2 e2 j2 => ⟨z, rfl, hl, q H2 e2 j2⟩
theorem se_join {d : Str} (ho : SE I o σ H d) (hl : LE I a σ H xs) (hz : (xs.map (·.length)).sum + xs.length * d.length ≤ 16777216) : SE I (tM1 (fun x xs H Q => ∃ a p, ∃ ys : List Str, x = .str a ∧ xs = [.ref p] ∧ (SqL K H p (ys.map V.str) ∨ SqT K H p (ys.map V.str)) ∧
    (ys.map (·.length)).sum + ys.length * a.length ≤ 16777216 ∧ Q (.str (Txt.join a ys)) H) o a) σ H (Txt.join d xs) := fun H1 Q e j q =>
  ho H1 _ e j fun H2 e2 j2 => ⟨⟨_, rfl⟩, hl H2 _ (e.trans e2) j2 fun H3 p e3 j3 hp => ⟨d, p, xs, rfl, rfl, .inl (.inl (.inl hp)), hz, q H3 (e2.trans e3) j3⟩⟩
theorem se_cut (ha : SE I a σ H z) (hb : IE I b σ H n) (hl : z.length ≤ sizeLine) : SE I (tSl rSlS a tNoPart (tPart b)) σ H (cutS z none (some n)) := fun H1 Q e j q =>
  ha H1 _ e j fun H2 e2 j2 => hb H2 _ (e.trans e2) j2 fun H3 e3 j3 => ⟨n, rfl, z, rfl, hl, q H3 (e2.trans e3) j3⟩
theorem le_var {p : Addr} (h : σ[i]? = some (some (.ref p))) (hp : H p = some (.lst (xs.map V.str))) : LE I (tVar i) σ H xs := fun H1 Q e j q => ⟨_, h, q H1 p (ExtN.refl _) j (e _ _ hp nofun)⟩
theorem le_cut (hI : Sts I) (ha : LE I a σ H xs) {k : Nat} : LE I (tSl (rSlL K) a tNoPart (tPart (tC (.int (k : Nat))))) σ H (xs.take k) := fun H1 Q e j q =>
  ha H1 _ e j fun H2 p e2 j2 hp => ⟨(k : Nat), rfl, p, _, rfl, .inl (.inl hp), fun p2 n2 => by
    have e3 : cutV (xs.map V.str) none (some ((k : Nat) : Int)) = (xs.take k).map V.str := by
      rw [show cutV (xs.map V.str) none (some ((k : Nat) : Int)) = (xs.map V.str).take k from cut_toV _ k, List.map_take]
    rw [e3]
    exact q _ p2 (e2.trans (ext_put n2)) (hI _ _ j2 (same_put n2)) upd_same⟩
theorem le_cat (hI : Sts I) (ha : LE I a σ H xs) (hb : LE I b σ H ys) (hl : xs.length + ys.length ≤ 100000) : LE I (tOp rCat a b) σ H (xs ++ ys) := fun H1 Q e j q =>
  ha H1 _ e j fun H2 p e2 j2 hp => hb H2 _ (e.trans e2) j2 fun H3 p3 e3 j3 hp3 => ⟨p, p3, _, _, rfl, rfl, e3 _ _ hp nofun, hp3, by rw [List.length_map, List.length_map, sizeLine_eq]; omega, fun p2 n2 => by
    rw [← List.map_append]
    exact q _ p2 ((e2.trans e3).trans (ext_put n2)) (hI _ _ j3 (same_put n2)) upd_same⟩
theorem ae_nil : AE I tNil σ H [] := fun H1 Q _ j q => q H1 (ExtN.refl _) j
theorem ae_cons (ha : SE I a σ H x) (ht : AE I ta σ H xs) : AE I (tCons a ta) σ H (x :: xs) := fun H1 Q e j q =>
  ha H1 _ e j fun H2 e2 j2 => ht H2 _ (e.trans e2) j2 fun H3 e3 j3 => q H3 (e2.trans e3) j3
theorem le_lst (hI : Sts I) (ht : AE I ta σ H xs) (hl : xs.length ≤ 100000) : LE I (tLst ta) σ H xs := fun H1 Q e j q =>
  ht H1 _ e j fun H2 e2 j2 => ⟨by rw [List.length_map, sizeLine_eq]; omega, fun p2 n2 => q _ p2 (e2.trans (ext_put n2)) (hI _ _ j2 (same_put n2)) upd_same⟩
theorem le_rep (hI : Sts I) (ht : AE I ta σ H xs) {k : Nat} (hl : xs.length ≤ 1000) (hk : k ≤ 1000) : LE I (tOp rRep (tLst ta) (tC (.int (k : Nat)))) σ H (List.replicate k xs).flatten := fun H1 Q e j q =>
  le_lst hI ht (by omega) H1 _ e j fun H2 p e2 j2 hp => ⟨p, (k : Nat), _, rfl, rfl, hp, by omega, by omega, by
    rw [List.length_map, Int.toNat_natCast, sizeLine_eq]
    exact Nat.le_trans (Nat.mul_le_mul hl hk) (by decide), fun p2 n2 => by
    have e3 : (List.replicate ((k : Nat) : Int).toNat (xs.map V.str)).flatten = ((List.replicate k xs).flatten).map V.str := by
      rw [Int.toNat_natCast, List.map_flatten, List.map_replicate]
    rw [e3]
    exact q _ p2 (e2.trans (ext_put n2)) (hI _ _ j2 (same_put n2)) upd_same⟩
theorem se_set {D : Ends} {rest : TS} (ha : SE I a σ H z) (j : I H) (k : ∀ H1, ExtN H H1 → I H1 → rest D (σ.set i (some (.str z))) H1) : tSeq (tAsg a (gName i)) rest D σ H := ha H _ (ExtN.refl _) j k
theorem ie_set {D : Ends} {rest : TS} (ha : IE I a σ H n) (j : I H) (k : ∀ H1, ExtN H H1 → I H1 → rest D (σ.set i (some (.int n))) H1) : tSeq (tAsg a (gName i)) rest D σ H := ha H _ (ExtN.refl _) j k
theorem le_set {D : Ends} {rest : TS} (ha : LE I a σ H xs) (j : I H) (k : ∀ H1 p, ExtN H H1 → I H1 → H1 p = some (.lst (xs.map V.str)) → rest D (σ.set i (some (.ref p))) H1) : tSeq (tAsg a (gName i)) rest D σ H := ha H _ (ExtN.refl _) j k
end
end Ev

/-! ## Pages at the limits -/
namespace Ev
open PySem PySem.Spec PyProof.Rows L2
/-- the place at which reading stops, if it does -/
def rdE (l : List Nat) : Option Nat := match rdP l with
  | .ok _ => none
  | .error n => some n
theorem rdE_some {l : List Nat} {n : Nat} (h : rdE l = some n) : rdP l = .error n := by
  unfold rdE at h
  cases e : rdP l with
  | ok is => rw [e] at h; cases h
  | error m =>
    rw [e] at h
    cases h
    rfl
theorem rdE_none {l : List Nat} (h : rdE l = none) : ∃ is, rdP l = .ok is := by
  unfold rdE at h
  cases e : rdP l with
  | ok is => exact ⟨is, rfl⟩
  | error m => rw [e] at h; cases h
def names3 : List Str := ["a", "zzzzzzzz", "line"]
theorem by3 {p : Str → Prop} (h : ∀ nm ∈ names3, p nm) {nm : Str} (hn : nm ∈ names3) : p nm := h nm hn
def r61 (nm : Str) : Str := nm ++ Str.ofString ":1"
def row61 (nm : Str) : List Str := (List.replicate 20 [r61 nm]).flatten
def inn61 (nm : Str) : Str := Str.ofString "2*(" ++ Txt.join (Str.ofString " ") ((row61 nm).take 19) ++ Str.ofString ")"
def in8_61 (nm : Str) : Str := Str.ofString "2*(" ++ Txt.join (Str.ofString " ") ((row61 nm).take 18) ++ Str.ofString ")"
def full61 (nm : Str) : Str := Txt.join (Str.ofString " ") [inn61 nm, inn61 nm, in8_61 nm, r61 nm]
def last61 (nm : Str) : Str := Txt.join (Str.ofString " ") [inn61 nm, inn61 nm, in8_61 nm] ++ Str.ofString " "
end Ev

/-! ## k61: items, levels and numbers at their limits -/
namespace Ev
open PySem PySem.Spec PyProof.Rows L2
open LamX (CodeO TabS Tabs ExtN TabB tLam)
abbrev I61 (Pt : Addr) : Hp → Prop := fun H => TabS H Pt qTo
theorem i61 {Pt : Addr} : Sts (I61 Pt) := fun _ _ t s => t.ext s
theorem shp_err (n : Nat) : SeqAt.shaped (.tuple [.str "text", .int (n : Nat)]) = true := by
  have h : PyData.strOk "text" = true := by decide +kernel
  show (PyData.canLay0 _ && decide (PyData.depth _ ≤ 64)) = true
  simp [PyData.canLay0, PyData.canLayAll0, PyData.depth, PyData.depthAll, h]
section
variable {K : PySem.W.Frag} {Pt : Addr} {σ : L2.St} {H : Hp} {te ti : TE} {z : Str} {Q : Bool → Hp → Prop} {n : Nat}
/-- _law_told(page)[0] != "told", where it is told -/
theorem t_told (he : SE (I61 Pt) te σ H z) (hz : z.length ≤ sizeLine) (j : I61 Pt H) (ok : rdE (TL.tl z) = none) (q : ∀ H', ExtN H H' → I61 Pt H' → Q false H') :
    tTest (tOp rNe (tOp (rIxT K) (tCall (spTo K Pt) [] E0 (tCons te tNil)) (tC (.int 0))) (tC (.str "told"))) σ H Q := by
  obtain ⟨is, e⟩ := rdE_none ok
  refine he H _ (ExtN.refl _) j fun H2 e2 j2 => ⟨z, rfl, hz, j2, fun H3 u e3 j3 hu => ?_⟩
  rw [e] at hu
  obtain ⟨a, x, y, rfl, hq, hx, _⟩ := da2 hu
  cases da_strE hx
  exact ⟨a, _, 0, _, rfl, rfl, hq, rfl, rfl, false, congrArg V.bl (by decide), q H3 (e2.trans e3) j3⟩
/-- _law_told(page) != ("text", n), where it stops there -/
theorem t_stop (he : SE (I61 Pt) te σ H z) (hz : z.length ≤ sizeLine) (hi : IE (I61 Pt) ti σ H (n : Nat)) (j : I61 Pt H) (ok : rdE (TL.tl z) = some n) (q : ∀ H', ExtN H H' → I61 Pt H' → Q false H') :
    tTest (tOp (rNeD K) (tCall (spTo K Pt) [] E0 (tCons te tNil)) (tTup (tCons (tC (.str "text")) (tCons ti tNil)))) σ H Q := by
  refine he H _ (ExtN.refl _) j fun H2 e2 j2 => ⟨z, rfl, hz, j2, fun H3 u e3 j3 hu => ?_⟩
  rw [rdE_some ok] at hu
  refine hi H3 _ (e2.trans e3) j3 fun H4 e4 j4 => ⟨by show 2 ≤ sizeLine; decide, fun p np => ?_⟩
  have hu4 := (hu.ext e4).mono (same_put (o := .tup [.str "text", .int (n : Nat)]) np)
  have hp4 : Da K (upd H4 p (.tup [.str "text", .int (n : Nat)])) (.ref p) (.tuple [.str "text", .int (n : Nat)]) := .tup (.inl (.inl upd_same)) (.cons (.str _) (.cons (.int _) .nil))
  have ht : tupD (.tuple [.str "text", .int (n : Nat)]) = true := rfl
  refine ⟨_, _, da_dp2 ht hu4, da_dp2 ht hp4, shp_err n, shp_err n, _, rfl, ?_⟩
  rw [PySem.SeqAt.eqv_refl _ (SeqAt.canLay_of_shaped (shp_err n))]
  exact q _ ((e2.trans e3).trans (e4.trans (ext_put np))) (i61 _ _ j4 (same_put np))
/-- _law_told(page) == ("text", n), as a value -/
theorem e_stop {Q : VK} (he : SE (I61 Pt) te σ H z) (hz : z.length ≤ sizeLine) (hi : IE (I61 Pt) ti σ H (n : Nat)) (j : I61 Pt H) (ok : rdE (TL.tl z) = some n) (q : ∀ H', ExtN H H' → I61 Pt H' → Q (.bl true) H') :
    tOp (rEqD K) (tCall (spTo K Pt) [] E0 (tCons te tNil)) (tTup (tCons (tC (.str "text")) (tCons ti tNil))) σ H Q := by
  refine he H _ (ExtN.refl _) j fun H2 e2 j2 => ⟨z, rfl, hz, j2, fun H3 u e3 j3 hu => ?_⟩
  rw [rdE_some ok] at hu
  refine hi H3 _ (e2.trans e3) j3 fun H4 e4 j4 => ⟨by show 2 ≤ sizeLine; decide, fun p np => ?_⟩
  have hu4 := (hu.ext e4).mono (same_put (o := .tup [.str "text", .int (n : Nat)]) np)
  have hp4 : Da K (upd H4 p (.tup [.str "text", .int (n : Nat)])) (.ref p) (.tuple [.str "text", .int (n : Nat)]) := .tup (.inl (.inl upd_same)) (.cons (.str _) (.cons (.int _) .nil))
  have ht : tupD (.tuple [.str "text", .int (n : Nat)]) = true := rfl
  refine ⟨_, _, da_dp2 ht hu4, da_dp2 ht hp4, shp_err n, shp_err n, ?_⟩
  rw [PySem.SeqAt.eqv_refl _ (SeqAt.canLay_of_shaped (shp_err n))]
  exact q _ ((e2.trans e3).trans (e4.trans (ext_put np))) (i61 _ _ j4 (same_put np))
end
end Ev

/-! ## Pages at the limits: how long they are -/
namespace Ev
open PySem PySem.Spec PyProof.Rows L2
theorem len_add (x y : Str) : (x ++ y).length = x.length + y.length := by rw [TL.len_tl, TL.tl_append, List.length_append, ← TL.len_tl, ← TL.len_tl]
theorem joinL_len (S : List Nat) : ∀ ps : List (List Nat), (TL.joinL S ps).length ≤ (ps.map List.length).sum + ps.length * S.length
  | [] => Nat.zero_le _
  | [p] => by
    show p.length ≤ _
    rw [List.map_singleton, List.sum_singleton]
    exact Nat.le_add_right _ _
  | p :: q :: ps => by
    have ih := joinL_len S (q :: ps)
    show (p ++ (S ++ TL.joinL S (q :: ps))).length ≤ _
    rw [List.map_cons, List.sum_cons, List.length_append, List.length_append, List.length_cons, Nat.succ_mul]
    omega
theorem join_len (d : Str) (xs : List Str) : (Txt.join d xs).length ≤ (xs.map (·.length)).sum + xs.length * d.length := by
  have z := joinL_len (TL.tl d) (xs.map TL.tl)
  rw [List.map_map, List.length_map] at z
  rw [TL.len_tl, TL.join_eq, TL.tl_join, TL.len_tl d]
  have e : xs.map (List.length ∘ TL.tl) = xs.map (·.length) := List.map_congr_left fun x _ => (TL.len_tl x).symm
  rw [e] at z
  exact z
theorem sum_le61 {k : Nat} : ∀ {xs : List Str}, (∀ x ∈ xs, x.length ≤ k) → (xs.map (·.length)).sum ≤ xs.length * k
  | [], _ => Nat.zero_le _
  | x :: xs, h => by
    have h1 := h x (List.mem_cons_self ..)
    have h2 := sum_le61 fun y hy => h y (List.mem_cons_of_mem _ hy)
    rw [List.map_cons, List.sum_cons, List.length_cons, Nat.succ_mul]
    omega
theorem c_sp : (Str.ofString " ").length = 1 := by decide +kernel
theorem c_1 : (Str.ofString ":1").length = 2 := by decide +kernel
theorem c_2 : (Str.ofString "2*(").length = 3 := by decide +kernel
theorem c_3 : (Str.ofString "3*(").length = 3 := by decide +kernel
theorem c_c : (Str.ofString ")").length = 1 := by decide +kernel
theorem c_1c : (Str.ofString ":1)").length = 3 := by decide +kernel
theorem c_nm : ∀ nm ∈ names3, nm.length ≤ 8 := by decide +kernel
theorem c_r {nm : Str} (h : nm ∈ names3) : (r61 nm).length ≤ 10 := by
  have := c_nm nm h
  unfold r61
  rw [len_add, c_1]
  omega
theorem row_mem {nm x : Str} (h : x ∈ row61 nm) : x = r61 nm := by
  unfold row61 at h
  obtain ⟨l, hl, hx⟩ := List.mem_flatten.mp h
  rw [List.eq_of_mem_replicate hl] at hx
  exact List.mem_singleton.mp hx
theorem row_len (nm : Str) : (row61 nm).length = 20 := by
  unfold row61
  generalize r61 nm = x
  simp
/-- some of the row -/
theorem part61 {nm : Str} (h : nm ∈ names3) {xs : List Str} (hx : ∀ x ∈ xs, x ∈ row61 nm) (hl : xs.length ≤ 21) : (xs.map (·.length)).sum + xs.length * (Str.ofString " ").length ≤ 231 ∧ (Txt.join (Str.ofString " ") xs).length ≤ 231 := by
  have z : (xs.map (·.length)).sum ≤ xs.length * 10 := sum_le61 fun x hm => by
    rw [row_mem (hx x hm)]
    exact c_r h
  have z2 := join_len (Str.ofString " ") xs
  rw [c_sp] at z2 ⊢
  omega
theorem p_take {nm : Str} (h : nm ∈ names3) (k : Nat) : ((((row61 nm).take k).map (·.length)).sum + ((row61 nm).take k).length * (Str.ofString " ").length ≤ 231 ∧ (Txt.join (Str.ofString " ") ((row61 nm).take k)).length ≤ 231) :=
  part61 h (fun x hx => List.mem_of_mem_take hx) (by rw [List.length_take, row_len]; omega)
theorem p_row {nm : Str} (h : nm ∈ names3) : (((row61 nm).map (·.length)).sum + (row61 nm).length * (Str.ofString " ").length ≤ 231 ∧ (Txt.join (Str.ofString " ") (row61 nm)).length ≤ 231) := part61 h (fun _ h => h) (by rw [row_len]; decide)
theorem p_21 {nm : Str} (h : nm ∈ names3) : (((row61 nm ++ (row61 nm).take 1).map (·.length)).sum + (row61 nm ++ (row61 nm).take 1).length * (Str.ofString " ").length ≤ 231 ∧ (Txt.join (Str.ofString " ") (row61 nm ++ (row61 nm).take 1)).length ≤ 231) :=
  part61 h (fun x hx => (List.mem_append.mp hx).elim id fun h => List.mem_of_mem_take h) (by rw [List.length_append, List.length_take, row_len]; decide)
theorem p_inn {nm : Str} (h : nm ∈ names3) : (inn61 nm).length ≤ 235 ∧ (in8_61 nm).length ≤ 235 := by
  have h1 := (p_take h 19).2
  have h2 := (p_take h 18).2
  unfold inn61 in8_61
  rw [len_add, len_add, len_add, len_add, c_2, c_c]
  omega
theorem p_full {nm : Str} (h : nm ∈ names3) : (([inn61 nm, inn61 nm, in8_61 nm, r61 nm]).map (·.length)).sum + ([inn61 nm, inn61 nm, in8_61 nm, r61 nm]).length * (Str.ofString " ").length ≤ 1000 ∧ (full61 nm).length ≤ 1000 := by
  obtain ⟨h1, h2⟩ := p_inn h
  have h3 := c_r h
  have z := join_len (Str.ofString " ") [inn61 nm, inn61 nm, in8_61 nm, r61 nm]
  unfold full61
  rw [c_sp] at z ⊢
  simp only [List.map_cons, List.map_nil, List.sum_cons, List.sum_nil, List.length_cons, List.length_nil] at z ⊢
  omega
theorem p_last {nm : Str} (h : nm ∈ names3) : ((([inn61 nm, inn61 nm, in8_61 nm]).map (·.length)).sum + ([inn61 nm, inn61 nm, in8_61 nm]).length * (Str.ofString " ").length ≤ 1000 ∧ (Txt.join (Str.ofString " ") [inn61 nm, inn61 nm, in8_61 nm]).length ≤ 1000) ∧ (last61 nm).length ≤ 1001 := by
  obtain ⟨h1, h2⟩ := p_inn h
  have z := join_len (Str.ofString " ") [inn61 nm, inn61 nm, in8_61 nm]
  unfold last61
  rw [len_add, c_sp]
  rw [c_sp] at z
  simp only [List.map_cons, List.map_nil, List.sum_cons, List.sum_nil, List.length_cons, List.length_nil] at z ⊢
  omega
theorem q_r : ∀ nm ∈ names3, (nm).length + (Str.ofString ":1").length ≤ sizeLine := fun nm h => by
  have a0 := c_nm nm h
  rw [c_1]
  rw [sizeLine_eq]
  omega
theorem q_j19 : ∀ nm ∈ names3, (((row61 nm).take 19).map (·.length)).sum + ((row61 nm).take 19).length * (Str.ofString " ").length ≤ 16777216 := fun nm h => Nat.le_trans (p_take h 19).1 (by decide)
theorem q_a19 : ∀ nm ∈ names3, (Str.ofString "2*(").length + (Txt.join (Str.ofString " ") ((row61 nm).take 19)).length ≤ sizeLine := fun nm h => by
  have a0 := (p_take h 19).2
  rw [c_2]
  rw [sizeLine_eq]
  omega
theorem q_b19 : ∀ nm ∈ names3, (Str.ofString "2*(" ++ Txt.join (Str.ofString " ") ((row61 nm).take 19)).length + (Str.ofString ")").length ≤ sizeLine := fun nm h => by
  have a0 := (p_take h 19).2
  rw [len_add, c_2, c_c]
  rw [sizeLine_eq]
  omega
theorem q_j18 : ∀ nm ∈ names3, (((row61 nm).take 18).map (·.length)).sum + ((row61 nm).take 18).length * (Str.ofString " ").length ≤ 16777216 := fun nm h => Nat.le_trans (p_take h 18).1 (by decide)
theorem q_a18 : ∀ nm ∈ names3, (Str.ofString "2*(").length + (Txt.join (Str.ofString " ") ((row61 nm).take 18)).length ≤ sizeLine := fun nm h => by
  have a0 := (p_take h 18).2
  rw [c_2]
  rw [sizeLine_eq]
  omega
theorem q_b18 : ∀ nm ∈ names3, (Str.ofString "2*(" ++ Txt.join (Str.ofString " ") ((row61 nm).take 18)).length + (Str.ofString ")").length ≤ sizeLine := fun nm h => by
  have a0 := (p_take h 18).2
  rw [len_add, c_2, c_c]
  rw [sizeLine_eq]
  omega
theorem q_jf : ∀ nm ∈ names3, (([inn61 nm, inn61 nm, in8_61 nm, r61 nm]).map (·.length)).sum + ([inn61 nm, inn61 nm, in8_61 nm, r61 nm]).length * (Str.ofString " ").length ≤ 16777216 := fun nm h => Nat.le_trans (p_full h).1 (by decide)
theorem q_j20 : ∀ nm ∈ names3, ((row61 nm).map (·.length)).sum + (row61 nm).length * (Str.ofString " ").length ≤ 16777216 := fun nm h => Nat.le_trans (p_row h).1 (by decide)
theorem q_l20 : ∀ nm ∈ names3, (Txt.join (Str.ofString " ") (row61 nm)).length ≤ sizeLine := fun nm h => by
  have a0 := (p_row h).2
  rw [sizeLine_eq]
  omega
theorem q_lf : ∀ nm ∈ names3, (full61 nm).length ≤ sizeLine := fun nm h => by
  have a0 := (p_full h).2
  rw [sizeLine_eq]
  omega
theorem q_j21 : ∀ nm ∈ names3, ((row61 nm ++ (row61 nm).take 1).map (·.length)).sum + (row61 nm ++ (row61 nm).take 1).length * (Str.ofString " ").length ≤ 16777216 := fun nm h => Nat.le_trans (p_21 h).1 (by decide)
theorem q_l21 : ∀ nm ∈ names3, (Txt.join (Str.ofString " ") (row61 nm ++ (row61 nm).take 1)).length ≤ sizeLine := fun nm h => by
  have a0 := (p_21 h).2
  rw [sizeLine_eq]
  omega
theorem q_n21 : ∀ nm ∈ names3, (row61 nm).length + ((row61 nm).take 1).length ≤ 100000 := fun nm h => by
  have h1 := row_len nm
  have h2 := List.length_take_le 1 (row61 nm)
  omega
theorem q_a21 : ∀ nm ∈ names3, (Str.ofString "3*(").length + (Txt.join (Str.ofString " ") (row61 nm ++ (row61 nm).take 1)).length ≤ sizeLine := fun nm h => by
  have a0 := (p_21 h).2
  rw [c_3]
  rw [sizeLine_eq]
  omega
theorem q_b21 : ∀ nm ∈ names3, (Str.ofString "3*(" ++ Txt.join (Str.ofString " ") (row61 nm ++ (row61 nm).take 1)).length + (Str.ofString ")").length ≤ sizeLine := fun nm h => by
  have a0 := (p_21 h).2
  rw [len_add, c_3, c_c]
  rw [sizeLine_eq]
  omega
theorem q_c21 : ∀ nm ∈ names3, (Str.ofString "3*(" ++ Txt.join (Str.ofString " ") (row61 nm ++ (row61 nm).take 1) ++ Str.ofString ")").length ≤ sizeLine := fun nm h => by
  have a0 := (p_21 h).2
  rw [len_add, len_add, c_3, c_c]
  rw [sizeLine_eq]
  omega
theorem q_a20 : ∀ nm ∈ names3, (Str.ofString "3*(").length + (Txt.join (Str.ofString " ") (row61 nm)).length ≤ sizeLine := fun nm h => by
  have a0 := (p_row h).2
  rw [c_3]
  rw [sizeLine_eq]
  omega
theorem q_b20 : ∀ nm ∈ names3, (Str.ofString "3*(" ++ Txt.join (Str.ofString " ") (row61 nm)).length ≤ sizeLine := fun nm h => by
  have a0 := (p_row h).2
  rw [len_add, c_3]
  rw [sizeLine_eq]
  omega
theorem q_f1 : ∀ nm ∈ names3, (full61 nm).length + (Str.ofString " ").length ≤ sizeLine := fun nm h => by
  have a0 := (p_full h).2
  rw [c_sp]
  rw [sizeLine_eq]
  omega
theorem q_f2 : ∀ nm ∈ names3, (full61 nm ++ Str.ofString " ").length + (nm).length ≤ sizeLine := fun nm h => by
  have a0 := (p_full h).2
  have a1 := c_nm nm h
  rw [len_add, c_sp]
  rw [sizeLine_eq]
  omega
theorem q_f3 : ∀ nm ∈ names3, (full61 nm ++ Str.ofString " " ++ nm).length + (Str.ofString ":1").length ≤ sizeLine := fun nm h => by
  have a0 := (p_full h).2
  have a1 := c_nm nm h
  rw [len_add, len_add, c_sp, c_1]
  rw [sizeLine_eq]
  omega
theorem q_f4 : ∀ nm ∈ names3, (full61 nm ++ Str.ofString " " ++ nm ++ Str.ofString ":1").length ≤ sizeLine := fun nm h => by
  have a0 := (p_full h).2
  have a1 := c_nm nm h
  rw [len_add, len_add, len_add, c_sp, c_1]
  rw [sizeLine_eq]
  omega
theorem q_jl : ∀ nm ∈ names3, (([inn61 nm, inn61 nm, in8_61 nm]).map (·.length)).sum + ([inn61 nm, inn61 nm, in8_61 nm]).length * (Str.ofString " ").length ≤ 16777216 := fun nm h => Nat.le_trans (p_last h).1.1 (by decide)
theorem q_la : ∀ nm ∈ names3, (Txt.join (Str.ofString " ") ([inn61 nm, inn61 nm, in8_61 nm])).length + (Str.ofString " ").length ≤ sizeLine := fun nm h => by
  have a0 := (p_last h).1.2
  rw [c_sp]
  rw [sizeLine_eq]
  omega
theorem q_ll : ∀ nm ∈ names3, (last61 nm).length ≤ sizeLine := fun nm h => by
  have a0 := (p_last h).2
  rw [sizeLine_eq]
  omega
theorem q_l1 : ∀ nm ∈ names3, (last61 nm).length + (Str.ofString "2*(").length ≤ sizeLine := fun nm h => by
  have a0 := (p_last h).2
  rw [c_2]
  rw [sizeLine_eq]
  omega
theorem q_l2 : ∀ nm ∈ names3, (last61 nm ++ Str.ofString "2*(").length + (nm).length ≤ sizeLine := fun nm h => by
  have a0 := (p_last h).2
  have a1 := c_nm nm h
  rw [len_add, c_2]
  rw [sizeLine_eq]
  omega
theorem q_l3 : ∀ nm ∈ names3, (last61 nm ++ Str.ofString "2*(" ++ nm).length + (Str.ofString ":1)").length ≤ sizeLine := fun nm h => by
  have a0 := (p_last h).2
  have a1 := c_nm nm h
  rw [len_add, len_add, c_2, c_1c]
  rw [sizeLine_eq]
  omega
theorem q_l4 : ∀ nm ∈ names3, (last61 nm ++ Str.ofString "2*(" ++ nm ++ Str.ofString ":1)").length ≤ sizeLine := fun nm h => by
  have a0 := (p_last h).2
  have a1 := c_nm nm h
  rw [len_add, len_add, len_add, c_2, c_1c]
  rw [sizeLine_eq]
  omega
end Ev

/-! ## Pages at the limits -/
namespace Ev
open PySem PySem.Spec PyProof.Rows L2
theorem pg1 : ∀ nm ∈ names3, rdE (TL.tl (Txt.join (Str.ofString " ") (row61 nm))) = none := by decide +kernel
end Ev

/-! ## Pages at the limits -/
namespace Ev
open PySem PySem.Spec PyProof.Rows L2
theorem pg2 : ∀ nm ∈ names3, rdE (TL.tl (full61 nm)) = none := by decide +kernel
end Ev

/-! ## Pages at the limits -/
namespace Ev
open PySem PySem.Spec PyProof.Rows L2
theorem pg3 : ∀ nm ∈ names3, rdE (TL.tl (Txt.join (Str.ofString " ") (row61 nm ++ (row61 nm).take 1))) = some (Txt.join (Str.ofString " ") (row61 nm)).length := by decide +kernel
end Ev

/-! ## Pages at the limits -/
namespace Ev
open PySem PySem.Spec PyProof.Rows L2
theorem pg4 : ∀ nm ∈ names3, rdE (TL.tl (Str.ofString "3*(" ++ Txt.join (Str.ofString " ") (row61 nm ++ (row61 nm).take 1) ++ Str.ofString ")")) = some (Str.ofString "3*(" ++ Txt.join (Str.ofString " ") (row61 nm)).length := by decide +kernel
end Ev

/-! ## Pages at the limits -/
namespace Ev
open PySem PySem.Spec PyProof.Rows L2
theorem pg5 : ∀ nm ∈ names3, rdE (TL.tl (full61 nm ++ Str.ofString " " ++ nm ++ Str.ofString ":1")) = some (full61 nm).length := by decide +kernel
end Ev

/-! ## Pages at the limits -/
namespace Ev
open PySem PySem.Spec PyProof.Rows L2
theorem pg6 : ∀ nm ∈ names3, rdE (TL.tl (last61 nm ++ Str.ofString "2*(" ++ nm ++ Str.ofString ":1)")) = some (last61 nm).length := by decide +kernel
end Ev

/-! ## Pages at the limits -/
namespace Ev
open PySem PySem.Spec PyProof.Rows L2
theorem pg7 : ∀ nm ∈ names3, rdE (TL.tl (last61 nm)) = some (last61 nm).length := by decide +kernel
end Ev

/-! ## k61: twenty items beside, sixty in all -/
namespace Ev
open PySem PySem.Spec PyProof.Rows L2
open LamX (CodeO TabS Tabs ExtN TabB tLam)
def spRt61 (Pt : Addr) : Sp := fun vs H Q _ => ∃ nm : Str, vs = [.str nm] ∧ nm ∈ names3 ∧ TabS H Pt qTo ∧ ∀ H', ExtN H H' → TabS H' Pt qTo → Q (.bl true) H'
theorem scItR : FnScope ["_law_name", "_law_row", "_law_inner", "_law_full", "_law_last"] ["_law_name"] (defScope (topS 25)) := ⟨rfl, rfl, rfl, by decide +kernel, rfl, by decide +kernel, by decide +kernel⟩
section
variable {P : Program} {w : World} {K : PySem.W.Frag} {mg : Str → Option Value} {base : Heap} {Pt : Addr}
theorem ok_itR (D : Def K mg "_law_items_right" (topS 25) ["_law_name"]) (C__law_told : Cal P w K mg base 19 "_law_told" ["_law_page"] (spTo K Pt)) (nb : NB mg) : Cal P w K mg base 20 "_law_items_right" ["_law_name"] (spRt61 Pt) := by
  refine D.ok scItR (fun vs H Q E h => ?_) (fun fa cdv A outer sh H vs Q E hr gd h => ?_)
  · obtain ⟨nm, rfl, _⟩ := h
    rfl
  · obtain ⟨nm, rfl, hn, hT, q⟩ := h
    refine ⟨_, (pss_cons (ps_set (i := 1) scItR.nd rfl (.inl rfl) (pe_op op_rep (pe_lst (pa_cons (pe_op op_add_str (pv 0) pe_str) pa_nil)) pe_int))
      (pss_cons (ps_set (i := 2) scItR.nd rfl (.inl rfl) (pe_op op_add_str (pe_op op_add_str pe_str (pe_join pe_str (pe_slice sl_list (pv 1) po_none (po_some pe_int)))) pe_str))
      (pss_cons (ps_set (i := 3) scItR.nd rfl (.inl rfl) (pe_join pe_str (pe_lst (pa_cons (pv 2) (pa_cons (pv 2) (pa_cons (pe_op op_add_str (pe_op op_add_str pe_str (pe_join pe_str (pe_slice sl_list (pv 1) po_none (po_some pe_int)))) pe_str) (pa_cons (pe_op op_add_str (pv 0) pe_str) pa_nil)))))))
      (pss_cons (ps_if (PW.pt (pw_or (pt_cmpR op_ne (pe_ix ix_tup (pcall C__law_told (hr.mono (by omega)) gd (by rfl) (pa_cons (pe_join pe_str (pv 1)) pa_nil)) pe_int (fun _ _ => rfl)) pe_str (nomark _)) (pw_or1 (pt_cmpR op_ne (pe_ix ix_tup (pcall C__law_told (hr.mono (by omega)) gd (by rfl) (pa_cons (pv 3) pa_nil)) pe_int (fun _ _ => rfl)) pe_str (nomark _)))))
        (pss_one (ps_ret pe_bl))
        pss_nil)
      (pss_cons (ps_if (pt_cmpR (op_neD hr.units) (pcall C__law_told (hr.mono (by omega)) gd (by rfl) (pa_cons (pe_join pe_str (pe_op op_cat (pv 1) (pe_slice sl_list (pv 1) po_none (po_some pe_int)))) pa_nil)) (pe_tup (pa_cons pe_str (pa_cons (pe_callB call_len_str (by rfl) nb.at (by decide +kernel) (pa_cons (pe_join pe_str (pv 1)) pa_nil)) pa_nil))) (nomark _))
        (pss_one (ps_ret pe_bl))
        pss_nil)
      (pss_cons (ps_if (pt_cmpR (op_neD hr.units) (pcall C__law_told (hr.mono (by omega)) gd (by rfl) (pa_cons (pe_op op_add_str (pe_op op_add_str pe_str (pe_join pe_str (pe_op op_cat (pv 1) (pe_slice sl_list (pv 1) po_none (po_some pe_int))))) pe_str) pa_nil)) (pe_tup (pa_cons pe_str (pa_cons (pe_callB call_len_str (by rfl) nb.at (by decide +kernel) (pa_cons (pe_op op_add_str pe_str (pe_join pe_str (pv 1))) pa_nil)) pa_nil))) (nomark _))
        (pss_one (ps_ret pe_bl))
        pss_nil)
      (pss_cons (ps_if (pt_cmpR (op_neD hr.units) (pcall C__law_told (hr.mono (by omega)) gd (by rfl) (pa_cons (pe_op op_add_str (pe_op op_add_str (pe_op op_add_str (pv 3) pe_str) (pv 0)) pe_str) pa_nil)) (pe_tup (pa_cons pe_str (pa_cons (pe_callB call_len_str (by rfl) nb.at (by decide +kernel) (pa_cons (pv 3) pa_nil)) pa_nil))) (nomark _))
        (pss_one (ps_ret pe_bl))
        pss_nil)
      (pss_cons (ps_set (i := 4) scItR.nd rfl (.inl rfl) (pe_op op_add_str (pe_join pe_str (pe_lst (pa_cons (pv 2) (pa_cons (pv 2) (pa_cons (pe_op op_add_str (pe_op op_add_str pe_str (pe_join pe_str (pe_slice sl_list (pv 1) po_none (po_some pe_int)))) pe_str) pa_nil))))) pe_str))
      (pss_one (ps_ret (pe_and (pe_cmpR (op_eqD hr.units) (pcall C__law_told (hr.mono (by omega)) gd (by rfl) (pa_cons (pe_op op_add_str (pe_op op_add_str (pe_op op_add_str (pv 4) pe_str) (pv 0)) pe_str) pa_nil)) (pe_tup (pa_cons pe_str (pa_cons (pe_callB call_len_str (by rfl) nb.at (by decide +kernel) (pa_cons (pv 4) pa_nil)) pa_nil))) (nomark _)) (pe_one (pe_cmpR (op_eqD hr.units) (pcall C__law_told (hr.mono (by omega)) gd (by rfl) (pa_cons (pv 4) pa_nil)) (pe_tup (pa_cons pe_str (pa_cons (pe_callB call_len_str (by rfl) nb.at (by decide +kernel) (pa_cons (pv 4) pa_nil)) pa_nil))) (nomark _)))))))))))))), ?_⟩
    have sR : ∀ {σ : L2.St} {H1 : Hp}, σ[0]? = some (some (.str nm)) → SE (I61 Pt) (tOp (fun x y H Q => ∃ i j, x = .str i ∧ y = .str j ∧ i.length + j.length ≤ sizeLine ∧ Q (.str (i ++ j)) H) (tVar 0) (tC (.str (Str.ofString ":1")))) σ H1 (r61 nm) := fun h => se_add (se_var h) se_c (q_r nm hn)
    refine le_set (xs := row61 nm) (I := I61 Pt) (le_rep (k := 20) i61 (ae_cons (sR rfl) ae_nil) (by show 1 ≤ 1000; decide) (by decide)) hT fun H1 p1 e1 j1 hp1 => ?_
    refine se_set (z := inn61 nm) (I := I61 Pt) (se_add (se_add se_c (se_join se_c (le_cut (k := 19) i61 (le_var rfl hp1)) (q_j19 nm hn)) (q_a19 nm hn)) se_c (q_b19 nm hn)) j1 fun H2 e2 j2 => ?_
    have hp2 := e2 _ _ hp1 nofun
    refine se_set (z := full61 nm) (I := I61 Pt) (se_join se_c (le_lst i61 (ae_cons (se_var rfl) (ae_cons (se_var rfl) (ae_cons (se_add (se_add se_c (se_join se_c (le_cut (k := 18) i61 (le_var rfl hp2)) (q_j18 nm hn)) (q_a18 nm hn)) se_c (q_b18 nm hn)) (ae_cons (sR rfl) ae_nil)))) (by show 4 ≤ 100000; decide)) (q_jf nm hn)) j2 fun H3 e3 j3 => ?_
    have hp3 := e3 _ _ hp2 nofun
    have jn20 : ∀ {H' : Hp} {σ : L2.St}, σ[1]? = some (some (.ref p1)) → H' p1 = some (.lst ((row61 nm).map V.str)) → SE (I61 Pt) (tM1 (fun x xs H Q => ∃ a p, ∃ ys : List Str, x = .str a ∧ xs = [.ref p] ∧ (SqL K H p (ys.map V.str) ∨ SqT K H p (ys.map V.str)) ∧ (ys.map (·.length)).sum + ys.length * a.length ≤ 16777216 ∧ Q (.str (Txt.join a ys)) H) (tC (.str (Str.ofString " "))) (tVar 1)) σ H' (Txt.join (Str.ofString " ") (row61 nm)) := fun h hp => se_join se_c (le_var h hp) (q_j20 nm hn)
    have jn21 : ∀ {H' : Hp} {σ : L2.St}, σ[1]? = some (some (.ref p1)) → H' p1 = some (.lst ((row61 nm).map V.str)) → SE (I61 Pt) (tM1 (fun x xs H Q => ∃ a p, ∃ ys : List Str, x = .str a ∧ xs = [.ref p] ∧ (SqL K H p (ys.map V.str) ∨ SqT K H p (ys.map V.str)) ∧ (ys.map (·.length)).sum + ys.length * a.length ≤ 16777216 ∧ Q (.str (Txt.join a ys)) H) (tC (.str (Str.ofString " "))) (tOp rCat (tVar 1) (tSl (rSlL K) (tVar 1) tNoPart (tPart (tC (.int (1 : Nat))))))) σ H' (Txt.join (Str.ofString " ") (row61 nm ++ (row61 nm).take 1)) := fun h hp => se_join se_c (le_cat i61 (le_var h hp) (le_cut (k := 1) i61 (le_var h hp)) (q_n21 nm hn)) (q_j21 nm hn)
    refine t_told (jn20 rfl hp3) (q_l20 nm hn) j3 (pg1 nm hn) fun H4 e4 j4 => iteF (t_told (se_var rfl) (q_lf nm hn) j4 (pg2 nm hn) fun H5 e5 j5 => iteF ?_)
    have hp5 := e5 _ _ (e4 _ _ hp3 nofun) nofun
    refine t_stop (jn21 rfl hp5) (q_l21 nm hn) (ie_len (jn20 rfl hp5) (q_l20 nm hn)) j5 (pg3 nm hn) fun H6 e6 j6 => iteF ?_
    have hp6 := e6 _ _ hp5 nofun
    refine t_stop (se_add (se_add se_c (jn21 rfl hp6) (q_a21 nm hn)) se_c (q_b21 nm hn)) (q_c21 nm hn) (ie_len (se_add se_c (jn20 rfl hp6) (q_a20 nm hn)) (q_b20 nm hn)) j6 (pg4 nm hn) fun H7 e7 j7 => iteF ?_
    have hp7 := e7 _ _ hp6 nofun
    refine t_stop (se_add (se_add (se_add (se_var rfl) se_c (q_f1 nm hn)) (se_var rfl) (q_f2 nm hn)) se_c (q_f3 nm hn)) (q_f4 nm hn) (ie_len (se_var rfl) (q_lf nm hn)) j7 (pg5 nm hn) fun H8 e8 j8 => iteF ?_
    have hp8 := e8 _ _ hp7 nofun
    refine se_set (z := last61 nm) (I := I61 Pt) (se_add (se_join se_c (le_lst i61 (ae_cons (se_var rfl) (ae_cons (se_var rfl) (ae_cons (se_add (se_add se_c (se_join se_c (le_cut (k := 18) i61 (le_var rfl hp8)) (q_j18 nm hn)) (q_a18 nm hn)) se_c (q_b18 nm hn)) ae_nil))) (by show 3 ≤ 100000; decide)) (q_jl nm hn)) se_c (q_la nm hn)) j8 fun H9 e9 j9 => ?_
    refine e_stop (se_add (se_add (se_add (se_var rfl) se_c (q_l1 nm hn)) (se_var rfl) (q_l2 nm hn)) se_c (q_l3 nm hn)) (q_l4 nm hn) (ie_len (se_var rfl) (q_ll nm hn)) j9 (pg6 nm hn) fun HA eA jA => ⟨_, rfl, iteT ?_⟩
    refine e_stop (se_var rfl) (q_ll nm hn) (ie_len (se_var rfl) (q_ll nm hn)) jA (pg7 nm hn) fun HB eB jB => q HB ?_ jB
    exact (((e1.trans (e2.trans e3)).trans (e4.trans (e5.trans e6))).trans ((e7.trans e8).trans (e9.trans eA))).trans eB
end
end Ev

/-! ## Pages of many levels -/
namespace Ev
open PySem PySem.Spec PyProof.Rows L2
theorem deep1 (rest : List Nat) : rdP (49 :: 42 :: 40 :: 49 :: 42 :: 40 :: 49 :: 42 :: 40 :: 49 :: 42 :: 40 :: 49 :: 42 :: 40 :: 49 :: 42 :: 40 :: rest) = .error 15 := by kernel_rfl
theorem deep9 (rest : List Nat) : rdP (57 :: 42 :: 40 :: 57 :: 42 :: 40 :: 57 :: 42 :: 40 :: 57 :: 42 :: 40 :: 57 :: 42 :: 40 :: 57 :: 42 :: 40 :: rest) = .error 15 := by kernel_rfl
theorem rep_succ (n : Nat) (l : List Nat) : repT (n + 1) l = l ++ repT n l := rfl
theorem rep6 (n a b c : Nat) : repT (n + 6) [a, b, c] = a :: b :: c :: a :: b :: c :: a :: b :: c :: a :: b :: c :: a :: b :: c :: a :: b :: c :: repT n [a, b, c] := rfl
theorem rep_len (n : Nat) (l : List Nat) : (repT n l).length = n * l.length := by
  unfold repT
  rw [List.length_flatten, List.map_replicate]
  generalize l.length = m
  simp
theorem t_1 : TL.tl (Str.ofString "1*(") = [49, 42, 40] := by decide +kernel
theorem t_9 : TL.tl (Str.ofString "9*(") = [57, 42, 40] := by decide +kernel
theorem t_c : TL.tl (Str.ofString ")") = [41] := by decide +kernel
theorem t_o1 : TL.tl (Str.ofString ":1") = [58, 49] := by decide +kernel
/-- a page with so many loops one in another -/
def lev61 (k : Nat) (nm : Str) : Str := mkS (repT k (TL.tl (Str.ofString "1*("))) ++ nm ++ Str.ofString ":1" ++ mkS (repT k (TL.tl (Str.ofString ")")))
def nest61 (nm : Str) : Nat → It
  | 0 => .line nm 1
  | k + 1 => .loop 1 [nest61 nm k]
theorem names_ok : ∀ nm ∈ names3, okN nm := fun nm h => by
  have z : ∀ nm ∈ names3, 1 ≤ nm.cps.size ∧ nm.cps.size ≤ 8 ∧ (nm.cps.toList.all letB) = true := by decide +kernel
  obtain ⟨h1, h2, h3⟩ := z nm h
  exact ⟨h1, h2, fun c hc => List.all_eq_true.mp h3 c hc⟩
theorem nest_vt {nm : Str} (h : okN nm) : ∀ k, Vt k (nest61 nm k)
  | 0 => ⟨h, by decide, by decide⟩
  | k + 1 => ⟨by decide, by decide, Nat.le_refl _, (by show 1 ≤ 20; decide), fun i hi => by
    rw [List.mem_singleton.mp hi]
    exact nest_vt h k⟩
theorem vt_up : ∀ (n : Nat) (i : It), Vt n i → Vt (n + 1) i
  | n, .line x t, h => vt_line.mpr (vt_line.mp h)
  | 0, .loop r is, h => h.elim
  | n + 1, .loop r is, h => by
    obtain ⟨h1, h2, h3, h4, h5⟩ : 1 ≤ r ∧ r ≤ 1000000000000000000 ∧ 1 ≤ is.length ∧ is.length ≤ 20 ∧ ∀ i ∈ is, Vt n i := h
    exact ⟨h1, h2, h3, h4, fun i hi => vt_up n i (h5 i hi)⟩
theorem nest_ni (nm : Str) : ∀ k, It.ni (nest61 nm k) = k + 1
  | 0 => by rw [nest61, It.ni]
  | k + 1 => by
    rw [nest61, It.ni, Its.ni, Its.ni, nest_ni nm k]
    omega
theorem lev_tx4 : ∀ nm ∈ names3, TL.tl (lev61 4 nm) = Its.tx [nest61 nm 4] := by decide +kernel
theorem lev_tx5 : ∀ nm ∈ names3, TL.tl (lev61 5 nm) = Its.tx [nest61 nm 5] := by decide +kernel
theorem lev_ok {nm : Str} (h : nm ∈ names3) {k : Nat} (hk : k = 4 ∨ k = 5) : rdP (TL.tl (lev61 k nm)) = .ok [nest61 nm k] := by
  have hv := nest_vt (names_ok nm h) k
  have hv5 : Vt 5 (nest61 nm k) := by
    rcases hk with rfl | rfl
    · exact vt_up 4 _ hv
    · exact hv
  have e : TL.tl (lev61 k nm) = Its.tx [nest61 nm k] := by
    rcases hk with rfl | rfl
    · exact lev_tx4 nm h
    · exact lev_tx5 nm h
  rw [e]
  refine rdP_ok (Nat.le_refl 1) (by show 1 ≤ 20; decide) ?_ fun i hi => ?_
  · rw [Its.ni, Its.ni, nest_ni]
    rcases hk with rfl | rfl <;> decide
  · rw [List.mem_singleton.mp hi]
    exact hv5
theorem lev_no {nm : Str} {k : Nat} (hk : 5 < k) : rdP (TL.tl (lev61 k nm)) = .error 15 := by
  obtain ⟨j, rfl⟩ : ∃ j, k = j + 6 := ⟨k - 6, by omega⟩
  unfold lev61
  rw [TL.tl_append, TL.tl_append, TL.tl_append, tl_mkS, t_1, rep6]
  exact deep1 _
theorem open4 : rdP (repT 4 [57, 42, 40]) = .error 12 := by kernel_rfl
theorem open5 : rdP (repT 5 [57, 42, 40]) = .error 15 := by kernel_rfl
theorem open_no {k : Nat} (hk : 4 ≤ k) : rdP (repT k [57, 42, 40]) = .error (if 3 * k < 15 then 3 * k else 15) := by
  by_cases h4 : k = 4
  · subst h4
    exact open4
  · by_cases h5 : k = 5
    · subst h5
      exact open5
    · obtain ⟨j, rfl⟩ : ∃ j, k = j + 6 := ⟨k - 6, by omega⟩
      rw [rep6, if_neg (by omega)]
      exact deep9 _
theorem shp_lev4 : ∀ nm ∈ names3, SeqAt.shaped (.tuple [.str "told", .tuple [It.d (nest61 nm 4)]]) = true := by decide +kernel
theorem shp_lev5 : ∀ nm ∈ names3, SeqAt.shaped (.tuple [.str "told", .tuple [It.d (nest61 nm 5)]]) = true := by decide +kernel
theorem tup_lev (nm : Str) (k : Nat) : tupD (.tuple [.str "told", .tuple [It.d (nest61 nm k)]]) = true := by
  have h := prog_tup [nest61 nm k]
  rw [List.map_singleton] at h
  rw [tupD, tupDs, tupDs, tupDs, h]
  rfl
theorem lev_len {nm : Str} (h : nm ∈ names3) {k : Nat} (hk : k ≤ 3000) : (mkS (repT k (TL.tl (Str.ofString "1*(")))).length ≤ 9000 ∧ (mkS (repT k (TL.tl (Str.ofString ")")))).length ≤ 3000 ∧ (mkS (repT k (TL.tl (Str.ofString "9*(")))).length ≤ 9000 := by
  rw [TL.len_tl, TL.len_tl, TL.len_tl, tl_mkS, tl_mkS, tl_mkS, rep_len, rep_len, rep_len, t_1, t_9, t_c]
  simp only [List.length_cons, List.length_nil]
  omega
end Ev

/-! ## k61: five levels, and more -/
namespace Ev
open PySem PySem.Spec PyProof.Rows L2
open LamX (CodeO TabS Tabs ExtN TabB tLam)
/-- what is neither a list, an instance nor a table stays -/
def Kx (H H' : Hp) : Prop := ∀ b o, H b = some o → (∀ xs, o ≠ .lst xs) → (∀ C dx fs, o ≠ .ins C dx fs) → (∀ ps, o ≠ .tbl ps) → H' b = some o
theorem Kx.trans {H H1 H2 : Hp} (a : Kx H H1) (b : Kx H1 H2) : Kx H H2 := fun c o h n1 n2 n3 => b c o (a c o h n1 n2 n3) n1 n2 n3
theorem Kx.ext {H H' : Hp} (e : ExtN H H') : Kx H H' := fun c o h _ _ n => e c o h n
theorem Kx.kj {H H' : Hp} (k : Kj H H') : Kx H H' := fun c o h n1 n2 _ => k c o h n1 n2
theorem Kx.same {H H' : Hp} (k : Same H H') : Kx H H' := fun c o h _ _ _ => k c o h
theorem Scr.kx {K : PySem.W.Frag} {H H' : Hp} {a : Addr} {xs : List V} (h : Scr K H a xs) (k : Kx H H') : Scr K H' a xs := by
  rcases h with ⟨o, e⟩ | h
  · exact .inl ⟨o, k _ _ e nofun nofun nofun⟩
  · exact .inr h
def spLv61 (Pt : Addr) : Sp := fun vs H Q _ => ∃ (p : Addr) (n : Nat) (nm : Str), vs = [.ref p, .str nm] ∧ PotA p n H ∧ n + 2 ≤ 10000 ∧ nm ∈ names3 ∧ TabS H Pt qTo ∧ ∀ H', Kx H H' → TabS H' Pt qTo → Q (.bl true) H'
theorem scLv : FnScope ["_law_stream_here", "_law_name", "_law_many", "_law_page", "_law_inner", "_law_turn"] ["_law_stream_here", "_law_name"] (defScope (topS 26)) := ⟨rfl, rfl, rfl, by decide +kernel, rfl, by decide +kernel, by decide +kernel⟩
section
variable {P : Program} {w : World} {K : PySem.W.Frag} {mg : Str → Option Value} {base : Heap} {Pt : Addr}
theorem ok_lv (D : Def K mg "_law_levels_right" (topS 26) ["_law_stream_here", "_law_name"]) (C__law_told : Cal P w K mg base 19 "_law_told" ["_law_page"] (spTo K Pt)) (C__law_draw : Cal P w K mg base 1 "_law_draw" ["_law_stream_here", "_law_many"] spDraw) (nb : NB mg) : Cal P w K mg base 20 "_law_levels_right" ["_law_stream_here", "_law_name"] (spLv61 Pt) := by
  refine D.ok scLv (fun vs H Q E h => ?_) (fun fa cdv A outer sh H vs Q E hr gd h => ?_)
  · obtain ⟨p, n, nm, rfl, _⟩ := h
    rfl
  · obtain ⟨p, n, nm, rfl, hp, hn, hm, hT, q⟩ := h
    refine ⟨_, (pss_cons (ps_for PassesOwn.never rfl (pi_tup (pe_tup (pa_cons pe_int (pa_cons pe_int (pa_cons pe_int (pa_cons pe_int (pa_cons (pe_op op_add pe_int (pcall C__law_draw (hr.mono (by omega)) gd (by rfl) (pa_cons (pv 0) (pa_cons pe_int pa_nil)))) pa_nil))))))) (pg_name (i := 2) scLv.nd rfl (Or.inl rfl))
        (pss_cons (ps_set (i := 3) scLv.nd rfl (.inl rfl) (pe_op op_add_str (pe_op op_add_str (pe_op op_add_str (pe_op op_mulS pe_str (pv 2)) (pv 1)) pe_str) (pe_op op_mulS pe_str (pv 2))))
        (pss_cons (ps_set (i := 4) scLv.nd rfl (.inl rfl) (pe_tup (pa_cons pe_str (pa_cons (pv 1) (pa_cons pe_int pa_nil)))))
        (pss_cons (ps_for PassesOwn.never rfl (pi_range1 rfl nb.at (pa_cons (pe_callB (call_min2 rfl) (by rfl) nb.at (by decide +kernel) (pa_cons (pv 2) (pa_cons pe_int pa_nil))) pa_nil)) (pg_name (i := 5) scLv.nd rfl (Or.inl rfl))
          (pss_one (ps_set (i := 4) scLv.nd rfl (.inl rfl) (pe_tup (pa_cons pe_str (pa_cons pe_int (pa_cons (pe_tup (pa_cons (pv 4) pa_nil)) pa_nil)))))))
        (pss_cons (ps_if (pt_cmpR (op_neD hr.units) (pcall C__law_told (hr.mono (by omega)) gd (by rfl) (pa_cons (pv 3) pa_nil)) (pe_ifExp (pt_cmpR op_gt (pv 2) pe_int (nomark _)) (pe_tup (pa_cons pe_str (pa_cons pe_int pa_nil))) (pe_tup (pa_cons pe_str (pa_cons (pe_tup (pa_cons (pv 4) pa_nil)) pa_nil)))) (nomark _))
          (pss_one (ps_ret pe_bl))
          pss_nil)
        (pss_one (ps_if (pt_cmpR (op_neD hr.units) (pcall C__law_told (hr.mono (by omega)) gd (by rfl) (pa_cons (pe_op op_mulS pe_str (pv 2)) pa_nil)) (pe_tup (pa_cons pe_str (pa_cons (pe_callB (call_min2 rfl) (by rfl) nb.at (by decide +kernel) (pa_cons pe_int (pa_cons (pe_op op_mul pe_int (pv 2)) pa_nil))) pa_nil))) (nomark _))
          (pss_one (ps_ret pe_bl))
          pss_nil)))))))
      (pss_one (ps_ret pe_bl))), ?_⟩
    have sl := sizeLine_eq
    refine ⟨_, rfl, p, 2000, n, rfl, hp, by omega, by decide, by decide +kernel, fun H1 d1 hb1 hp1 d0 d2 => ⟨_, _, rfl, rfl, (by show 5 ≤ sizeLine; rw [sl]; decide), fun t nt => ?_⟩⟩
    obtain ⟨dn, rfl⟩ := Int.eq_ofNat_of_zero_le d0
    have hT1 : TabS H1 Pt qTo := Ev.TabS.kj hT fun b o e n1 _ => hp.kt hb1 b o e n1
    have hT2 : TabS (upd H1 t (.tup [.int 4, .int 5, .int 6, .int 7, .int (1000 + (dn : Nat))])) Pt qTo := hT1.ext (same_put nt)
    have k2 : Kx H (upd H1 t (.tup [.int 4, .int 5, .int 6, .int 7, .int (1000 + (dn : Nat))])) := (Kx.kj (.kt (hp.kt hb1))).trans (.same (same_put nt))
    refine ⟨t, rfl, ⟨_, .inl (.inl upd_same)⟩, ?_⟩
    refine for_it (walk_tup (xs := [.int 4, .int 5, .int 6, .int 7, .int (1000 + (dn : Nat))])) (fun i σ' H' => ∃ y2 y3 y4 y5 : Option V, σ' = [some (.ref p), some (.str nm), y2, y3, y4, y5] ∧ H' t = some (.tup [.int 4, .int 5, .int 6, .int 7, .int (1000 + (dn : Nat))]) ∧ TabS H' Pt qTo ∧ Kx H H')
      ⟨_, _, _, _, rfl, upd_same, hT2, k2⟩ (fun i σ' H' _ ⟨_, _, _, _, _, h, _⟩ => .inl (.inl h)) ?_ ?_
    · rintro i x σ' H2 H3 hi ⟨y2, y3, y4, y5, rfl, ht2, j2, x2⟩ ⟨rfl, hx⟩
      obtain ⟨k, rfl, k4, k3⟩ : ∃ k : Nat, x = .int (k : Nat) ∧ 4 ≤ k ∧ k ≤ 3000 := by
        have hx := List.mem_of_getElem? hx
        simp only [List.mem_cons, List.not_mem_nil, or_false] at hx
        rcases hx with rfl | rfl | rfl | rfl | rfl
        · exact ⟨4, rfl, by decide, by decide⟩
        · exact ⟨5, rfl, by decide, by decide⟩
        · exact ⟨6, rfl, by decide, by decide⟩
        · exact ⟨7, rfl, by decide, by decide⟩
        · exact ⟨1000 + dn, by rw [Int.natCast_add]; rfl, by omega, by omega⟩
      obtain ⟨l1, l2, l3⟩ := lev_len hm k3
      have hnm := c_nm nm hm
      have z1 : (Str.ofString "1*(").length = 3 := by decide +kernel
      have z9 : (Str.ofString "9*(").length = 3 := by decide +kernel
      have a1 : (mkS (repT k (TL.tl (Str.ofString "1*("))) ++ nm).length ≤ 9008 := by
        rw [len_add]
        omega
      have a2 : (mkS (repT k (TL.tl (Str.ofString "1*("))) ++ nm ++ Str.ofString ":1").length ≤ 9010 := by
        rw [len_add, c_1]
        omega
      have a3 : (lev61 k nm).length ≤ 12010 := by
        unfold lev61
        rw [len_add]
        omega
      refine se_set (z := lev61 k nm) (I := I61 Pt) (se_add (se_add (se_add (se_mul se_c (ie_var rfl) (by omega) (by omega)) (se_var rfl) (by omega)) se_c (by rw [c_1]; omega)) (se_mul se_c (ie_var rfl) (by rw [c_c]; decide) (by omega)) (by omega)) j2 fun H4 e4 j4 => ?_
      have ht4 := e4 _ _ ht2 nofun
      refine ⟨_, rfl, (by show 3 ≤ sizeLine; rw [sl]; decide), fun p5 np5 => ?_⟩
      have j5 : I61 Pt (upd H4 p5 (.tup [.str "line", .str nm, .int 1])) := i61 _ _ j4 (same_put np5)
      have ht5 := same_put (o := .tup [.str "line", .str nm, .int 1]) np5 _ _ ht4
      have x5 : Kx H (upd H4 p5 (.tup [.str "line", .str nm, .int 1])) := (x2.trans (.ext e4)).trans (.same (same_put np5))
      have d5 : Da K (upd H4 p5 (.tup [.str "line", .str nm, .int 1])) (.ref p5) (It.d (nest61 nm 0)) := by
        rw [nest61, It.d]
        exact .tup (.inl (.inl upd_same)) (.cons (.str _) (.cons (.str _) (.cons (.int _) .nil)))
      obtain ⟨m5, hm5, e5⟩ : ∃ m5 : Nat, m5 = (if 5 < k then 5 else k) ∧ (if (5 : Int) < ((k : Nat) : Int) then (5 : Int) else ((k : Nat) : Int)) = ((m5 : Nat) : Int) := by
        by_cases h : 5 < k
        · exact ⟨5, by rw [if_pos h], by rw [if_pos (by omega)]; rfl⟩
        · exact ⟨k, by rw [if_neg h], by rw [if_neg (by omega)]⟩
      refine ⟨_, rfl, _, _, rfl, _, rfl, ?_⟩
      rw [e5]
      have hm6 : m5 ≤ 5 := by
        rw [hm5]
        by_cases h : 5 < k
        · rw [if_pos h]
          exact Nat.le_refl _
        · rw [if_neg h]
          omega
      refine ⟨by omega, by omega, ?_⟩
      rw [Int.toNat_natCast]
      refine for_range (lo := 0) (n := m5) (fun i σ' H' => ∃ (v : V) (y5 : Option V), σ' = [some (.ref p), some (.str nm), some (.int (k : Nat)), some (.str (lev61 k nm)), some v, y5] ∧ Da K H' v (It.d (nest61 nm i)) ∧ H' t = some (.tup [.int 4, .int 5, .int 6, .int 7, .int (1000 + (dn : Nat))]) ∧ TabS H' Pt qTo ∧ Kx H H')
        ⟨_, _, rfl, d5, ht5, j5, x5⟩ ?_ ?_
      · rintro i' σ' H6 hi' ⟨v, y5', rfl, hv, ht6, j6, x6⟩
        refine ⟨_, rfl, (by show 1 ≤ sizeLine; rw [sl]; decide), fun p7 np7 => ⟨(by show 3 ≤ sizeLine; rw [sl]; decide), fun p8 np8 => ?_⟩⟩
        have s78 := (same_put (o := .tup [v]) np7).trans (same_put (o := .tup [.str "loop", .int 1, .ref p7]) np8)
        refine ⟨_, _, rfl, ?_, s78 _ _ ht6, j6.ext s78, x6.trans (.same s78)⟩
        rw [nest61, It.d, Its.d, Its.d]
        exact .tup (.inl (.inl upd_same)) (.cons (.str _) (.cons (.int _) (.cons (.tup (.inl (.inl (same_put np8 _ _ upd_same))) (.cons (hv.mono s78) .nil)) .nil)))
      · rintro σ' H6 ⟨v, y5', rfl, hv, ht6, j6, x6⟩
        have fin : ∀ (y5' : Option V) (H7 : Hp) (Q' : Bool → Hp → Prop), I61 Pt H7 → (∀ H8, ExtN H7 H8 → I61 Pt H8 → Q' false H8) → tTest (tOp (rNeD K) (tCall (spTo K Pt) [] E0 (tCons (tOp rMulS (tC (.str (Str.ofString "9*("))) (tVar 2)) tNil)) (tTup (tCons (tC (.str "text")) (tCons (tCB (fun xs H Q => ∃ i j : Int, xs = [V.int i, V.int j] ∧ Q (.int (if j < i then j else i)) H) (tCons (tC (.int 15)) (tCons (tOp (rI CMul fun i j => .int (i * j)) (tC (.int 3)) (tVar 2)) tNil))) tNil))))
            [some (.ref p), some (.str nm), some (.int (k : Nat)), some (.str (lev61 k nm)), some v, y5'] H7 Q' := fun y5' H7 Q' j7 qq => by
          have hz : (mkS (repT k (TL.tl (Str.ofString "9*(")))).length ≤ sizeLine := by omega
          have eI : (if (3 : Int) * ((k : Nat) : Int) < 15 then (3 : Int) * ((k : Nat) : Int) else 15) = ((if 3 * k < 15 then 3 * k else 15 : Nat) : Int) := by
            by_cases h : 3 * k < 15
            · rw [if_pos h, if_pos (by omega)]
              omega
            · rw [if_neg h, if_neg (by omega)]
              rfl
          refine t_stop (z := mkS (repT k (TL.tl (Str.ofString "9*(")))) (n := if 3 * k < 15 then 3 * k else 15) (se_mul se_c (ie_var rfl) (by omega) (by omega)) hz ?_ j7 ?_ qq
          · rw [← eI]
            exact ie_min ie_c (ie_mul ie_c (ie_var rfl) (.inl ⟨by decide, by decide⟩))
          · unfold rdE
            rw [tl_mkS, t_9, open_no k4]
        have hz : (lev61 k nm).length ≤ sizeLine := by omega
        refine ⟨_, rfl, lev61 k nm, rfl, hz, j6, fun H7 u e7 j7 hu => ⟨_, rfl, _, _, rfl, rfl, _, rfl, ite2 (fun h => ?_) (fun h => ?_)⟩⟩
        · have h : (5 : Int) < ((k : Nat) : Int) := of_decide_eq_true h
          rw [lev_no (by omega)] at hu
          refine ⟨(by show 2 ≤ sizeLine; rw [sl]; decide), fun p8 np8 => ?_⟩
          have hu8 := hu.mono (same_put (o := .tup [.str "text", .int 15]) np8)
          have hp8 : Da K (upd H7 p8 (.tup [.str "text", .int 15])) (.ref p8) (.tuple [.str "text", .int ((15 : Nat) : Int)]) := .tup (.inl (.inl upd_same)) (.cons (.str _) (.cons (.int _) .nil))
          have htp : tupD (.tuple [.str "text", .int ((15 : Nat) : Int)]) = true := rfl
          refine ⟨_, _, da_dp2 htp hu8, da_dp2 htp hp8, shp_err 15, shp_err 15, _, rfl, ?_⟩
          rw [PySem.SeqAt.eqv_refl _ (SeqAt.canLay_of_shaped (shp_err 15))]
          refine iteF (fin _ _ _ (i61 _ _ j7 (same_put np8)) fun H9 e9 j9 => iteF ⟨_, _, _, _, rfl, ?_, j9, ((x6.trans (.ext e7)).trans (.same (same_put np8))).trans (.ext e9)⟩)
          exact e9 _ _ (same_put np8 _ _ (e7 _ _ ht6 nofun)) nofun
        · have h : ¬ (5 : Int) < ((k : Nat) : Int) := of_decide_eq_false (Bool.eq_false_iff.mpr h)
          have h45 : k = 4 ∨ k = 5 := by omega
          rw [lev_ok hm h45] at hu
          obtain rfl : m5 = k := by rw [hm5, if_neg (by omega)]
          have shp : SeqAt.shaped (.tuple [.str "told", .tuple [It.d (nest61 nm m5)]]) = true := by
            rcases h45 with e | e <;> rw [e]
            · exact shp_lev4 nm hm
            · exact shp_lev5 nm hm
          refine ⟨_, rfl, (by show 1 ≤ sizeLine; rw [sl]; decide), fun p8 np8 => ⟨(by show 2 ≤ sizeLine; rw [sl]; decide), fun p9 np9 => ?_⟩⟩
          have s89 := (same_put (o := .tup [v]) np8).trans (same_put (o := .tup [.str "told", .ref p8]) np9)
          have hu9 := hu.mono s89
          have hp9 : Da K (upd (upd H7 p8 (.tup [v])) p9 (.tup [.str "told", .ref p8])) (.ref p9) (.tuple [.str "told", .tuple [It.d (nest61 nm m5)]]) := .tup (.inl (.inl upd_same)) (.cons (.str _) (.cons (.tup (.inl (.inl (same_put np9 _ _ upd_same))) (.cons ((hv.ext e7).mono s89) .nil)) .nil))
          have htp := tup_lev nm m5
          refine ⟨_, _, da_dp2 htp hu9, da_dp2 htp hp9, shp, shp, _, rfl, ?_⟩
          rw [PySem.SeqAt.eqv_refl _ (SeqAt.canLay_of_shaped shp)]
          refine iteF (fin _ _ _ (i61 _ _ j7 s89) fun HA eA jA => iteF ⟨_, _, _, _, rfl, ?_, jA, ((x6.trans (.ext e7)).trans (.same s89)).trans (.ext eA)⟩)
          exact eA _ _ (s89 _ _ (e7 _ _ ht6 nofun)) nofun
    · rintro σ' H2 ⟨y2, y3, y4, y5, rfl, _, j2, x2⟩
      exact q H2 x2 j2
end
end Ev

/-! ## Pages with numbers at their limits -/
namespace Ev
open PySem PySem.Spec PyProof.Rows L2
abbrev sN (n : Nat) : Str := Str.ofString (toString ((n : Nat) : Int))
/-- what stands ahead of a number and behind it, and the most it may be -/
def num61 (nm : Str) : List (Nat × Str × Str) := [(10 ^ 12, nm ++ Str.ofString ":", Str.ofString ""), (10 ^ 18, Str.ofString "", Str.ofString "*(" ++ nm ++ Str.ofString ":1)")]
def over61 (m : Nat) : List Nat := [m + 1, m + 9, 2 * m, 10 * m]
def due61 (m : Nat) (a : Str) (n : Nat) : Nat := a.length + (sN m).length - 1 + (if cutS (sN n) none (some ((sN m).length : Nat)) = sN m then 1 else 0)
theorem nu1 : ∀ nm ∈ names3, ∀ r ∈ num61 nm, rdE (TL.tl (r.2.1 ++ sN r.1 ++ r.2.2)) = none := by decide +kernel
theorem nu2 : ∀ nm ∈ names3, ∀ r ∈ num61 nm, rdE (TL.tl (r.2.1 ++ sN (r.1 - 1) ++ r.2.2)) = none := by decide +kernel
theorem nu3 : ∀ nm ∈ names3, ∀ r ∈ num61 nm, ∀ n ∈ over61 r.1, rdE (TL.tl (r.2.1 ++ sN n ++ r.2.2)) = some (due61 r.1 r.2.1 n) := by decide +kernel
theorem nu4 : ∀ nm ∈ names3, ∀ r ∈ num61 nm, rdE (TL.tl (r.2.1 ++ Str.ofString "0" ++ r.2.2)) = some r.2.1.length := by decide +kernel
theorem nu5 : ∀ nm ∈ names3, ∀ r ∈ num61 nm, r.2.1.length ≤ 100 ∧ r.2.2.length ≤ 100 ∧ 1 ≤ (sN r.1).length ∧ (sN r.1).length ≤ 100 ∧ (sN (r.1 - 1)).length ≤ 100 ∧ 1 ≤ r.1 ∧ r.1 ≤ 10 ^ 18 := by decide +kernel
theorem nu6 : ∀ nm ∈ names3, ∀ r ∈ num61 nm, ∀ n ∈ over61 r.1, (sN n).length ≤ 100 ∧ n ≤ 10 ^ 20 := by decide +kernel
theorem nu7 : rdE (TL.tl (Str.ofString "abcdefghi:1")) = some 8 := by decide +kernel
theorem nu8 : rdE (TL.tl (Str.ofString "abcdefgh:1")) = none := by decide +kernel
end Ev

/-! ## k61: numbers at their limits -/
namespace Ev
open PySem PySem.Spec PyProof.Rows L2
open LamX (CodeO TabS Tabs ExtN TabB tLam)
def spNu61 (Pt : Addr) : Sp := fun vs H Q _ => ∃ nm : Str, vs = [.str nm] ∧ nm ∈ names3 ∧ TabS H Pt qTo ∧ ∀ H', ExtN H H' → TabS H' Pt qTo → Q (.bl true) H'
theorem ie_same {I : Hp → Prop} {a b : TE} {σ : L2.St} {H : Hp} {x y : Str} (ha : SE I a σ H x) (hb : SE I b σ H y) : IE I (tCB (fun xs H Q => (∃ i, xs = [V.int i] ∧ Q (V.int i) H) ∨ ∃ k, xs = [V.bl k] ∧ Q (V.int (if k = true then 1 else 0)) H) (tCons (tOp rEq a b) tNil)) σ H (if x = y then 1 else 0) := fun H1 Q e j q =>
  ha H1 _ e j fun H2 e2 j2 => hb H2 _ (e.trans e2) j2 fun H3 e3 j3 => ⟨rfl, .inr ⟨_, rfl, by
    have z := q H3 (e2.trans e3) j3
    by_cases h : x = y
    · rw [if_pos h] at z
      rw [if_pos (decide_eq_true (congrArg V.str h))]
      exact z
    · rw [if_neg h] at z
      rw [if_neg (fun e => h (by injection of_decide_eq_true e))]
      exact z⟩⟩
theorem lgN {n : Nat} (h : n ≤ 10 ^ 20) : ((n : Nat) : Int).natAbs.log2 < 1920 := by
  rw [Int.natAbs_natCast]
  have : n.log2 ≤ 67 := by
    by_cases z : n = 0
    · rw [z]; decide
    · have h2 := (Nat.log2_lt (k := 68) z).mpr (Nat.lt_of_le_of_lt h (by decide))
      omega
  omega
theorem scNu : FnScope ["_law_name", "_law_most", "_law_ahead", "_law_behind", "_law_good", "_law_spot", "_law_number", "_law_page", "_law_due"] ["_law_name"] (defScope (topS 27)) := ⟨rfl, rfl, rfl, by decide +kernel, rfl, by decide +kernel, by decide +kernel⟩
section
variable {P : Program} {w : World} {K : PySem.W.Frag} {mg : Str → Option Value} {base : Heap} {Pt : Addr}
theorem ok_nu (D : Def K mg "_law_numbers_right" (topS 27) ["_law_name"]) (C__law_told : Cal P w K mg base 19 "_law_told" ["_law_page"] (spTo K Pt)) (nb : NB mg) : Cal P w K mg base 20 "_law_numbers_right" ["_law_name"] (spNu61 Pt) := by
  refine D.ok scNu (fun vs H Q E h => ?_) (fun fa cdv A outer sh H vs Q E hr gd h => ?_)
  · obtain ⟨nm, rfl, _⟩ := h
    rfl
  · obtain ⟨nm, rfl, hm, hT, q⟩ := h
    refine ⟨_, (pss_cons (ps_for PassesOwn.never rfl (pi_tup (pe_tup (pa_cons (pe_tup (pa_cons (pe_op op_pow pe_int pe_int) (pa_cons (pe_op op_add_str (pv 0) pe_str) (pa_cons pe_str pa_nil)))) (pa_cons (pe_tup (pa_cons (pe_op op_pow pe_int pe_int) (pa_cons pe_str (pa_cons (pe_op op_add_str (pe_op op_add_str pe_str (pv 0)) pe_str) pa_nil)))) pa_nil)))) (pg_tup rfl (pgs_cons (pg_name (i := 1) scNu.nd rfl (Or.inl rfl)) (pgs_cons (pg_name (i := 2) scNu.nd rfl (Or.inl rfl)) (pgs_cons (pg_name (i := 3) scNu.nd rfl (Or.inl rfl)) pgs_nil))))
        (pss_cons (ps_set (i := 4) scNu.nd rfl (.inl rfl) (pe_op op_add_str (pe_op op_add_str (pv 2) (pe_callTy call_str_int (by rfl) nb.at (by decide +kernel) (pa_cons (pv 1) pa_nil))) (pv 3)))
        (pss_cons (ps_if (PW.pt (pw_or (pt_cmpR op_ne (pe_ix ix_tup (pcall C__law_told (hr.mono (by omega)) gd (by rfl) (pa_cons (pv 4) pa_nil)) pe_int (fun _ _ => rfl)) pe_str (nomark _)) (pw_or1 (pt_cmpR op_ne (pe_ix ix_tup (pcall C__law_told (hr.mono (by omega)) gd (by rfl) (pa_cons (pe_op op_add_str (pe_op op_add_str (pv 2) (pe_callTy call_str_int (by rfl) nb.at (by decide +kernel) (pa_cons (pe_op op_sub (pv 1) pe_int) pa_nil))) (pv 3)) pa_nil)) pe_int (fun _ _ => rfl)) pe_str (nomark _)))))
          (pss_one (ps_ret pe_bl))
          pss_nil)
        (pss_cons (ps_set (i := 5) scNu.nd rfl (.inl rfl) (pe_op op_sub (pe_op op_add (pe_callB call_len_str (by rfl) nb.at (by decide +kernel) (pa_cons (pv 2) pa_nil)) (pe_callB call_len_str (by rfl) nb.at (by decide +kernel) (pa_cons (pe_callTy call_str_int (by rfl) nb.at (by decide +kernel) (pa_cons (pv 1) pa_nil)) pa_nil))) pe_int))
        (pss_cons (ps_for PassesOwn.never rfl (pi_tup (pe_tup (pa_cons (pe_op op_add (pv 1) pe_int) (pa_cons (pe_op op_add (pv 1) pe_int) (pa_cons (pe_op op_mul pe_int (pv 1)) (pa_cons (pe_op op_mul pe_int (pv 1)) pa_nil)))))) (pg_name (i := 6) scNu.nd rfl (Or.inl rfl))
          (pss_cons (ps_set (i := 7) scNu.nd rfl (.inl rfl) (pe_op op_add_str (pe_op op_add_str (pv 2) (pe_callTy call_str_int (by rfl) nb.at (by decide +kernel) (pa_cons (pv 6) pa_nil))) (pv 3)))
          (pss_cons (ps_set (i := 8) scNu.nd rfl (.inl rfl) (pe_op op_add (pv 5) (pe_callTy call_int1 (by rfl) nb.at (by decide +kernel) (pa_cons (pe_cmpR op_eq (pe_slice sl_str (pe_callTy call_str_int (by rfl) nb.at (by decide +kernel) (pa_cons (pv 6) pa_nil)) po_none (po_some (pe_callB call_len_str (by rfl) nb.at (by decide +kernel) (pa_cons (pe_callTy call_str_int (by rfl) nb.at (by decide +kernel) (pa_cons (pv 1) pa_nil)) pa_nil)))) (pe_callTy call_str_int (by rfl) nb.at (by decide +kernel) (pa_cons (pv 1) pa_nil)) (nomark _)) pa_nil))))
          (pss_one (ps_if (pt_cmpR (op_neD hr.units) (pcall C__law_told (hr.mono (by omega)) gd (by rfl) (pa_cons (pv 7) pa_nil)) (pe_tup (pa_cons pe_str (pa_cons (pv 8) pa_nil))) (nomark _))
            (pss_one (ps_ret pe_bl))
            pss_nil)))))
        (pss_one (ps_if (pt_cmpR (op_neD hr.units) (pcall C__law_told (hr.mono (by omega)) gd (by rfl) (pa_cons (pe_op op_add_str (pe_op op_add_str (pv 2) pe_str) (pv 3)) pa_nil)) (pe_tup (pa_cons pe_str (pa_cons (pe_callB call_len_str (by rfl) nb.at (by decide +kernel) (pa_cons (pv 2) pa_nil)) pa_nil))) (nomark _))
          (pss_one (ps_ret pe_bl))
          pss_nil)))))))
      (pss_one (ps_ret pe_bl))), ?_⟩
    have sl := sizeLine_eq
    have hnm := c_nm nm hm
    have e12 : (10 : Int) ^ (12 : Int).toNat = ((10 ^ 12 : Nat) : Int) := by decide +kernel
    have e18 : (10 : Int) ^ (18 : Int).toNat = ((10 ^ 18 : Nat) : Int) := by decide +kernel
    have z1 : (Str.ofString ":").length = 1 := by decide +kernel
    have z2 : (Str.ofString "*(").length = 2 := by decide +kernel
    have z3 : (Str.ofString ":1)").length = 3 := by decide +kernel
    refine ⟨10, 12, rfl, rfl, ⟨by decide, by decide, by decide⟩, _, rfl, _, _, rfl, rfl, (by rw [z1]; omega), (by show 3 ≤ sizeLine; rw [sl]; decide), fun t1 n1 => ?_⟩
    refine ⟨10, 18, rfl, rfl, ⟨by decide, by decide, by decide⟩, _, rfl, _, _, rfl, rfl, (by rw [z2]; omega), _, _, rfl, rfl, (by rw [z3, len_add, z2]; omega), (by show 3 ≤ sizeLine; rw [sl]; decide), fun t2 n2 => ?_⟩
    refine ⟨(by show 2 ≤ sizeLine; rw [sl]; decide), fun t nt => ?_⟩
    have b1 := same_put (o := .tup [V.ref t1, V.ref t2]) nt _ _ (same_put n2 _ _ upd_same)
    have b2 := same_put (o := .tup [V.ref t1, V.ref t2]) nt _ _ upd_same
    have sb := (same_put (o := .tup [(fun i j : Int => V.int (i ^ j.toNat)) 10 12, V.str (nm ++ Str.ofString ":"), V.str (Str.ofString "")]) n1).trans ((same_put n2).trans (same_put (o := .tup [V.ref t1, V.ref t2]) nt))
    have jb : I61 Pt _ := i61 _ _ hT sb
    have eb := ExtN.of sb
    have bt : upd (upd (upd H t1 (.tup [(fun i j : Int => V.int (i ^ j.toNat)) 10 12, V.str (nm ++ Str.ofString ":"), V.str (Str.ofString "")])) t2 (.tup [(fun i j : Int => V.int (i ^ j.toNat)) 10 18, V.str (Str.ofString ""), V.str (Str.ofString "*(" ++ nm ++ Str.ofString ":1)")])) t (.tup [V.ref t1, V.ref t2]) t = _ := upd_same
    generalize upd (upd (upd H t1 _) t2 _) t _ = Hb at b1 b2 bt jb eb ⊢
    clear sb n1 n2 nt
    dsimp only at b1 b2
    rw [e12] at b1
    rw [e18] at b2
    refine ⟨t, rfl, ⟨_, .inl (.inl bt)⟩, ?_⟩
    refine for_it (walk_tup (xs := [.ref t1, .ref t2])) (fun i σ' H' => ∃ y1 y2 y3 y4 y5 y6 y7 y8 : Option V, σ' = [some (.str nm), y1, y2, y3, y4, y5, y6, y7, y8] ∧ ExtN Hb H' ∧ I61 Pt H')
      ⟨_, _, _, _, _, _, _, _, rfl, ExtN.refl _, jb⟩ (fun i σ' H' _ ⟨_, _, _, _, _, _, _, _, _, x, _⟩ => .inl (.inl (x _ _ bt nofun))) ?_ ?_
    · rintro i x σ' H2 H3 hi ⟨y1, y2, y3, y4, y5, y6, y7, y8, rfl, x2, j2⟩ ⟨rfl, hx⟩
      obtain ⟨tk, ⟨m, ah, be⟩, hr, rfl, hk⟩ : ∃ (tk : Addr) (r : Nat × Str × Str), r ∈ num61 nm ∧ x = .ref tk ∧ Hb tk = some (.tup [.int (r.1 : Nat), .str r.2.1, .str r.2.2]) := by
        have hx := List.mem_of_getElem? hx
        simp only [List.mem_cons, List.not_mem_nil, or_false] at hx
        rcases hx with rfl | rfl
        · exact ⟨t1, _, List.mem_cons_self .., rfl, b1⟩
        · exact ⟨t2, _, List.mem_cons_of_mem _ (List.mem_cons_self ..), rfl, b2⟩
      have hk2 := x2 _ _ hk nofun
      have f5 := nu5 nm hm (m, ah, be) hr
      have f6 := nu6 nm hm (m, ah, be) hr
      have f1 := nu1 nm hm (m, ah, be) hr
      have f2 := nu2 nm hm (m, ah, be) hr
      have f3 := nu3 nm hm (m, ah, be) hr
      have f4 := nu4 nm hm (m, ah, be) hr
      dsimp only at f1 f2 f3 f4 f5 f6 hk2
      clear hr hk hx b1 b2
      obtain ⟨l1, l2, l3, l4, l5, l6, l7⟩ := f5
      refine ⟨tk, _, rfl, .inl (.inl hk2), rfl, _, _, rfl, _, _, rfl, _, _, rfl, rfl, ?_⟩
      have z0 : (Str.ofString "0").length = 1 := by decide +kernel
      refine se_set (z := ah ++ sN m ++ be) (I := I61 Pt) (se_add (se_add (se_var rfl) (se_str (ie_var rfl) (lgN (Nat.le_trans l7 (by decide)))) (by omega)) (se_var rfl) (by rw [len_add]; omega)) j2 fun H4 e4 j4 => ?_
      have hs : ∀ {σ : L2.St} {H1 : Hp}, σ[1]? = some (some (.int (m : Nat))) → SE (I61 Pt) (tCB (fun xs H Q => ∃ i : Int, xs = [V.int i] ∧ i.natAbs.log2 < 1920 ∧ Q (.str (Str.ofString (toString i))) H) (tCons (tOp (rI0 fun i j => .int (i - j)) (tVar 1) (tC (.int 1))) tNil)) σ H1 (sN (m - 1)) := fun {σ H1} h => by
        have e : ((m : Nat) : Int) - 1 = ((m - 1 : Nat) : Int) := by omega
        have z := se_str (I := I61 Pt) (H := H1) (ie_sub (ie_var h) (ie_c (n := 1))) (by rw [e]; exact lgN (by omega))
        rw [e] at z
        exact z
      refine t_told (se_var rfl) (by rw [len_add, len_add]; omega) j4 f1 fun H5 e5 j5 => iteF (t_told (se_add (se_add (se_var rfl) (hs rfl) (by omega)) (se_var rfl) (by rw [len_add]; omega)) (by rw [len_add, len_add]; omega) j5 f2 fun H6 e6 j6 => iteF ?_)
      refine ie_set (n := ((ah.length : Nat) : Int) + (((sN m).length : Nat) : Int) - 1) (I := I61 Pt) (ie_sub (ie_add (ie_len (se_var rfl) (by omega)) (ie_len (se_str (ie_var rfl) (lgN (Nat.le_trans l7 (by decide)))) (by omega))) ie_c) j6 fun H7 e7 j7 => ?_
      refine ⟨_, rfl, _, _, rfl, rfl, _, rfl, _, _, rfl, rfl, _, rfl, _, _, rfl, rfl, .inl ⟨by decide, by decide⟩, _, rfl, _, _, rfl, rfl, .inl ⟨by decide, by decide⟩, (by show 4 ≤ sizeLine; rw [sl]; decide), fun t4 n4 => ?_⟩
      have j8 : I61 Pt _ := i61 _ _ j7 (same_put (o := .tup [(.int (((m : Nat) : Int) + 1)), .int (((m : Nat) : Int) + 9), .int (2 * ((m : Nat) : Int)), .int (10 * ((m : Nat) : Int))]) n4)
      have b4 : (upd H7 t4 (.tup [.int (((m : Nat) : Int) + 1), .int (((m : Nat) : Int) + 9), .int (2 * ((m : Nat) : Int)), .int (10 * ((m : Nat) : Int))])) t4 = _ := upd_same
      have e8 := ExtN.of (same_put (o := .tup [(.int (((m : Nat) : Int) + 1)), .int (((m : Nat) : Int) + 9), .int (2 * ((m : Nat) : Int)), .int (10 * ((m : Nat) : Int))]) n4)
      have x8 := x2.trans ((e4.trans (e5.trans e6)).trans (e7.trans e8))
      generalize upd H7 t4 _ = H8 at j8 b4 e8 x8 ⊢
      clear n4
      refine ⟨t4, rfl, ⟨_, .inl (.inl b4)⟩, ?_⟩
      refine for_it (walk_tup (xs := [.int (((m : Nat) : Int) + 1), .int (((m : Nat) : Int) + 9), .int (2 * ((m : Nat) : Int)), .int (10 * ((m : Nat) : Int))])) (fun i σ' H' => ∃ y6 y7 y8 : Option V, σ' = [some (.str nm), some (.int (m : Nat)), some (.str ah), some (.str be), some (.str (ah ++ sN m ++ be)), some (.int (((ah.length : Nat) : Int) + (((sN m).length : Nat) : Int) - 1)), y6, y7, y8] ∧ ExtN H8 H' ∧ I61 Pt H')
        ⟨_, _, _, rfl, ExtN.refl _, j8⟩ (fun i σ' H' _ ⟨_, _, _, _, x, _⟩ => .inl (.inl (x _ _ b4 nofun))) ?_ ?_
      · rintro i' x σ' H9 H10 hi' ⟨y6', y7', y8', rfl, x9, j9⟩ ⟨rfl, hx⟩
        obtain ⟨n, hn, rfl⟩ : ∃ n ∈ over61 m, x = .int (n : Nat) := by
          have hx := List.mem_of_getElem? hx
          simp only [List.mem_cons, List.not_mem_nil, or_false] at hx
          rcases hx with rfl | rfl | rfl | rfl
          · exact ⟨m + 1, by simp [over61], by rw [Int.natCast_add]; rfl⟩
          · exact ⟨m + 9, by simp [over61], by rw [Int.natCast_add]; rfl⟩
          · exact ⟨2 * m, by simp [over61], by rw [Int.natCast_mul]; rfl⟩
          · exact ⟨10 * m, by simp [over61], by rw [Int.natCast_mul]; rfl⟩
        obtain ⟨g1, g2⟩ := f6 n hn
        refine se_set (z := ah ++ sN n ++ be) (I := I61 Pt) (se_add (se_add (se_var rfl) (se_str (ie_var rfl) (lgN g2)) (by omega)) (se_var rfl) (by rw [len_add]; omega)) j9 fun H11 e11 j11 => ?_
        have hd : ((ah.length : Nat) : Int) + (((sN m).length : Nat) : Int) - 1 + (if cutS (sN n) none (some ((sN m).length : Nat)) = sN m then 1 else 0) = ((due61 m ah n : Nat) : Int) := by
          unfold due61
          split <;> omega
        refine ie_set (n := ((due61 m ah n : Nat) : Int)) (I := I61 Pt) ?_ j11 fun H12 e12 j12 => ?_
        · rw [← hd]
          exact ie_add (ie_var rfl) (ie_same (se_cut (se_str (ie_var rfl) (lgN g2)) (ie_len (se_str (ie_var rfl) (lgN (Nat.le_trans l7 (by decide)))) (by omega)) (by omega)) (se_str (ie_var rfl) (lgN (Nat.le_trans l7 (by decide)))))
        · exact t_stop (se_var rfl) (by rw [len_add, len_add]; omega) (ie_var rfl) j12 (f3 n hn) fun H13 e13 j13 => iteF ⟨_, _, _, rfl, x9.trans (e11.trans (e12.trans e13)), j13⟩
      · rintro σ' H9 ⟨y6', y7', y8', rfl, x9, j9⟩
        exact t_stop (se_add (se_add (se_var rfl) se_c (by omega)) (se_var rfl) (by rw [len_add]; omega)) (by rw [len_add, len_add]; omega) (ie_len (se_var rfl) (by omega)) j9 f4 fun H13 e13 j13 => iteF ⟨_, _, _, _, _, _, _, _, rfl, x8.trans (x9.trans e13), j13⟩
    · rintro σ' H2 ⟨y1, y2, y3, y4, y5, y6, y7, y8, rfl, x2, j2⟩
      exact q _ (eb.trans x2) j2
end
end Ev

/-! ## What the script is drawn from -/
namespace Ev
open PySem PySem.Spec PyProof.Rows L2
theorem scSt : FnScope ["_law_script", "_law_k", "_law_cell", "_law_own"] ["_law_script", "_law_k"] (defScope (topS 20)) := ⟨rfl, rfl, rfl, by decide +kernel, rfl, by decide +kernel, by decide +kernel⟩
theorem scDr : FnScope ["_law_stream_here", "_law_many", "_law_digit", "_law_prime", "_law_mixed"] ["_law_stream_here", "_law_many"] (defScope (topS 21)) := ⟨rfl, rfl, rfl, by decide +kernel, rfl, by decide +kernel, by decide +kernel⟩
theorem scPk : FnScope ["_law_stream_here", "_law_some"] ["_law_stream_here", "_law_some"] (defScope (topS 22)) := ⟨rfl, rfl, rfl, by decide +kernel, rfl, by decide +kernel, by decide +kernel⟩
theorem bigS : (0 : Int) < (10 ^ (60 : Int).toNat) ^ (5 : Int).toNat := by decide +kernel
section
variable {P : Program} {w : World} {K : PySem.W.Frag} {mg : Str → Option Value} {base : Heap}
theorem ok_stream (D : Def K mg "_law_stream" (topS 20) ["_law_script", "_law_k"]) (nb : NB mg) : Cal P w K mg base 1 "_law_stream" ["_law_script", "_law_k"] (spPotS K) := by
  refine D.ok scSt (fun vs H Q E h => ?_) (fun f cdv A outer s H vs Q E hr gd h => ?_)
  · obtain ⟨a, ns, k, rfl, _⟩ := h
    rfl
  · obtain ⟨a, ns, k, rfl, hS, k0, k1, q⟩ := h
    refine ⟨_, (pss_cons (ps_set (i := 2) scSt.nd rfl (.inl rfl) (pe_ifExp (pt_cmpR op_lt (pv 1) (pe_callB call_len_seq (by rfl) nb.at PySem.boot_len (pa_cons (pv 0) pa_nil)) (nomark _)) (pe_ix ix_list (pv 0) (pv 1) (fun _ _ => rfl)) (pe_op op_add (pe_op op_mul pe_int (pv 1)) pe_int)))
      (pss_cons (ps_set (i := 3) scSt.nd rfl (.inl rfl) (pe_op op_mul (pe_op op_mod (pe_callB call_abs (by rfl) nb.at (by decide +kernel) (pa_cons (pv 2) pa_nil)) (pe_op op_powG (pe_op op_pow pe_int pe_int) pe_int)) (pe_callTy call_int1 (by rfl) nb.at (by decide +kernel) (pa_cons (pe_cmpR op_ge (pe_callB call_abs (by rfl) nb.at (by decide +kernel) (pa_cons (pv 2) pa_nil)) (pe_op op_pow pe_int pe_int) (nomark _)) pa_nil))))
      (pss_one (ps_ret (pe_lst (pa_cons (pv 3) (pa_cons (pe_op op_mod (pe_op op_add (pe_op op_add (pe_op op_mul (pe_op op_mod (pv 2) pe_int) pe_int) (pe_op op_mul (pe_op op_mul pe_int (pv 1)) (pv 1))) pe_int) pe_int) (pa_cons pe_int pa_nil)))))))), ?_⟩
    refine ⟨_, rfl, _, rfl, a, _, rfl, .inl hS, k, _, rfl, rfl, _, rfl, ite2 (fun e => ?a) (fun e => ?b)⟩
    case' a =>
      have hk : k < ((ns.map V.int).length : Int) := of_decide_eq_true e
      rw [List.length_map] at hk
      have hk' : k.toNat < ns.length := by omega
      have g : atI (ns.map V.int) k = some (.int ns[k.toNat]) := by
        have z : (ns.map V.int)[k.toNat]? = some (.int ns[k.toNat]) := by
          rw [List.getElem?_map, List.getElem?_eq_getElem hk']
          rfl
        have y := atI_nat z
        rw [Int.toNat_of_nonneg k0] at y
        exact y
      refine ⟨_, rfl, _, rfl, a, _, k, _, rfl, rfl, hS, g, ?_⟩
    case' b =>
      refine ⟨_, rfl, 13, k, rfl, rfl, .inl ⟨by decide, by decide⟩, _, _, rfl, rfl, ?_⟩
    all_goals
      refine ⟨_, rfl, _, rfl, 10, 60, rfl, rfl, ⟨by decide, by decide, by decide⟩, _, 5, rfl, rfl, ⟨by decide, by decide +kernel⟩, _, _, rfl, rfl, bigS, ?_⟩
      refine ⟨_, rfl, _, rfl, 10, 18, rfl, rfl, ⟨by decide, by decide, by decide⟩, _, _, rfl, rfl, .inr ⟨_, rfl, _, _, rfl, rfl, .inr (flag_in _), ?_⟩⟩
      refine ⟨_, rfl, _, rfl, _, _, rfl, rfl, (show (0 : Int) < 2305843009213693951 by decide), _, _, rfl, rfl, .inr ⟨by decide, by decide⟩, _, rfl, _, _, rfl, rfl, .inl ⟨by decide, by decide⟩, _, rfl, _, _, rfl, rfl, .inr ⟨by omega, by omega⟩, ?_⟩
      refine ⟨_, _, rfl, rfl, _, _, rfl, rfl, _, _, rfl, rfl, (show (0 : Int) < 2305843009213693921 by decide), (by show 3 ≤ sizeLine; decide), fun p np => q _ p np (same_put np) ⟨_, upd_same, ?_⟩⟩
      exact ⟨_, _, 0, rfl, own_nn _ _ _ bigS, Int.emod_nonneg _ (by decide), Int.emod_lt_of_pos _ (by decide), Int.le_refl 0, by decide⟩
theorem ok_draw (D : Def K mg "_law_draw" (topS 21) ["_law_stream_here", "_law_many"]) (nb : NB mg) : Cal P w K mg base 1 "_law_draw" ["_law_stream_here", "_law_many"] spDraw := by
  refine D.ok scDr (fun vs H Q E h => ?_) (fun f cdv A outer s H vs Q E hr gd h => ?_)
  · obtain ⟨p, m, n, rfl, _⟩ := h
    rfl
  · obtain ⟨p, m, n, rfl, ⟨xs, hp, x, y, c, rfl, x0, y0, y1, c0, c1⟩, hn, m0, m1, q⟩ := h
    have hL : SqL K H p [.int x, .int y, .int c] := .inl (.inl hp)
    refine ⟨_, (pss_cons (ps_if (pt_cmpR op_gt (pe_ix ix_list (pv 0) pe_int (fun _ _ => rfl)) pe_int (nomark _))
        (pss_cons (ps_set (i := 2) scDr.nd rfl (.inl rfl) (pe_op op_mod (pe_ix ix_list (pv 0) pe_int (fun _ _ => rfl)) (pv 1)))
        (pss_cons (ps_asg (pe_op op_fdivW (pe_ix ix_list (pv 0) pe_int (fun _ _ => rfl)) (pv 1)) (pg_sub (pv 0) pe_int set_list))
        (pss_one (ps_ret (pv 2)))))
        pss_nil)
      (pss_cons (ps_asg (pe_op op_add (pe_ix ix_list (pv 0) pe_int (fun _ _ => rfl)) pe_int) (pg_sub (pv 0) pe_int set_list))
      (pss_cons (ps_set (i := 3) scDr.nd rfl (.inl rfl) (pe_ix ix_list (pe_lst (pa_cons pe_int (pa_cons pe_int (pa_cons pe_int (pa_cons pe_int (pa_cons pe_int pa_nil)))))) (pe_op op_mod (pe_ix ix_list (pv 0) pe_int (fun _ _ => rfl)) pe_int) (fun _ _ => rfl)))
      (pss_cons (ps_set (i := 4) scDr.nd rfl (.inl rfl) (pe_op op_mod (pe_op op_pow (pe_op op_add (pe_op op_add (pe_ix ix_list (pv 0) pe_int (fun _ _ => rfl)) (pe_op op_mul (pe_op op_mul pe_int (pe_ix ix_list (pv 0) pe_int (fun _ _ => rfl))) (pe_ix ix_list (pv 0) pe_int (fun _ _ => rfl)))) pe_int) pe_int) (pv 3)))
      (pss_one (ps_ret (pe_op op_mod (pe_op op_fdivW (pe_op op_mod (pe_op op_mul (pv 4) (pe_op op_add (pe_op op_mod (pv 4) pe_int) (pe_op op_mul pe_int (pe_ix ix_list (pv 0) pe_int (fun _ _ => rfl))))) pe_int) pe_int) (pv 1)))))))), ?_⟩
    refine ⟨_, rfl, p, _, 0, .int x, rfl, rfl, hL, rfl, _, _, rfl, rfl, _, rfl, ite2 (fun e => ?_) (fun e => ?_)⟩
    · have hx : 0 < x := of_decide_eq_true e
      refine ⟨_, rfl, p, _, 0, .int x, rfl, rfl, hL, rfl, _, rfl, _, _, rfl, rfl, m0, ?_⟩
      refine ⟨_, rfl, p, _, 0, .int x, rfl, rfl, hL, rfl, _, rfl, _, _, rfl, rfl, ⟨m0, m1⟩, _, rfl, p, _, 0, 0, rfl, rfl, hp, rfl, _, rfl, ?_⟩
      exact q _ _ Bu.put ⟨_, upd_same, _, _, _, rfl, Int.ediv_nonneg x0 (Int.le_of_lt m0), y0, y1, c0, by omega⟩ (Int.emod_nonneg _ (by omega)) (Int.emod_lt_of_pos _ m0)
    · refine ⟨_, rfl, p, _, 2, .int c, rfl, rfl, hL, rfl, _, _, rfl, rfl, _, rfl, p, _, 2, 2, rfl, rfl, hp, rfl, ?_⟩
      have c0' : 0 ≤ c + 1 := by omega
      have c1' : c + 1 ≤ 10000001 := by omega
      refine ⟨(by show 5 ≤ sizeLine; decide), fun t nt => ?_⟩
      have npt : p ≠ t := fun z => by
        rw [← z, upd_same] at nt
        cases nt
      let H2 : Hp := upd (upd H p (.lst [.int x, .int y, .int (c + 1)])) t (.lst [.int 2147483647, .int 2147483629, .int 2147483587, .int 2147483579, .int 2147483563])
      have h2 : H2 p = some (.lst [.int x, .int y, .int (c + 1)]) := by
        show upd _ t _ p = _
        rw [upd_ne npt, upd_same]
      have hL2 : SqL K H2 p [.int x, .int y, .int (c + 1)] := .inl (.inl h2)
      have hb : Bu p H H2 := Bu.trans Bu.put (Bu.new nt)
      have hT : SqL K H2 t [.int 2147483647, .int 2147483629, .int 2147483587, .int 2147483579, .int 2147483563] := .inl (.inl upd_same)
      obtain ⟨pr, hpr, p1, p2⟩ : ∃ pr : Int, atI [V.int 2147483647, .int 2147483629, .int 2147483587, .int 2147483579, .int 2147483563] ((c + 1) % 5) = some (.int pr) ∧ 0 < pr ∧ pr < 2147483648 := by
        have r0 : 0 ≤ (c + 1) % 5 := Int.emod_nonneg _ (by decide)
        have r1 : (c + 1) % 5 < 5 := Int.emod_lt_of_pos _ (by decide)
        generalize (c + 1) % 5 = r at r0 r1
        have : r = 0 ∨ r = 1 ∨ r = 2 ∨ r = 3 ∨ r = 4 := by omega
        rcases this with rfl | rfl | rfl | rfl | rfl <;> exact ⟨_, rfl, by decide, by decide⟩
      refine ⟨_, rfl, p, _, 2, .int (c + 1), rfl, rfl, hL2, rfl, _, _, rfl, rfl, (show (0 : Int) < 5 by decide), t, _, _, _, rfl, rfl, hT, hpr, ?_⟩
      have m3 : 0 ≤ 65537 * (c + 1) := by omega
      have m4 : 65537 * (c + 1) * (c + 1) ≤ 65537 * 10000001 * 10000001 := Int.mul_le_mul (Int.mul_le_mul_of_nonneg_left c1' (by decide)) c1' c0' (by decide)
      have m5 : 0 ≤ 65537 * (c + 1) * (c + 1) := Int.mul_nonneg m3 c0'
      refine ⟨_, rfl, p, _, 1, .int y, rfl, rfl, hL2, rfl, _, rfl, p, _, 2, .int (c + 1), rfl, rfl, hL2, rfl, _, _, rfl, rfl, .inl ⟨by decide, by decide⟩, _, rfl, p, _, 2, .int (c + 1), rfl, rfl, hL2, rfl, _, _, rfl, rfl, .inr ⟨by omega, by omega⟩, ?_⟩
      have pb : CPow (y + 65537 * (c + 1) * (c + 1) + 37) 3 := ⟨by decide, by decide, by omega⟩
      refine ⟨_, _, rfl, rfl, _, _, rfl, rfl, _, _, rfl, rfl, pb, _, rfl, _, _, rfl, rfl, p1, ?_⟩
      have u0 : 0 ≤ (y + 65537 * (c + 1) * (c + 1) + 37) ^ (3 : Int).toNat % pr := Int.emod_nonneg _ (by omega)
      have u1 : (y + 65537 * (c + 1) * (c + 1) + 37) ^ (3 : Int).toNat % pr < pr := Int.emod_lt_of_pos _ p1
      have fin := fun d => q H2 d hb ⟨_, h2, x, y, c + 1, rfl, x0, y0, y1, c0', by omega⟩
      show gName 4 (V.int ((y + 65537 * (c + 1) * (c + 1) + 37) ^ (3 : Int).toNat % pr)) _ _ _
      generalize (y + 65537 * (c + 1) * (c + 1) + 37) ^ (3 : Int).toNat % pr = u at u0 u1 ⊢
      have v0 : 0 ≤ u % 10007 := Int.emod_nonneg _ (by decide)
      have v1 : u % 10007 < 10007 := Int.emod_lt_of_pos _ (by decide)
      refine ⟨_, rfl, _, rfl, _, _, rfl, rfl, (show (0 : Int) < 10007 by decide), _, rfl, p, _, 2, .int (c + 1), rfl, rfl, hL2, rfl, _, _, rfl, rfl, .inl ⟨by decide, by decide⟩, _, _, rfl, rfl, ?_⟩
      refine ⟨_, _, rfl, rfl, .inl ⟨by omega, by omega⟩, _, _, rfl, rfl, (show (0 : Int) < 2305843009213693907 by decide), _, _, rfl, rfl, ⟨by decide, by decide +kernel⟩, _, rfl, _, _, rfl, rfl, m0, ?_⟩
      exact fin _ (Int.emod_nonneg _ (by omega)) (Int.emod_lt_of_pos _ m0)
theorem ok_pick (D : Def K mg "_law_pick" (topS 22) ["_law_stream_here", "_law_some"]) (C__law_draw : Cal P w K mg base 1 "_law_draw" ["_law_stream_here", "_law_many"] spDraw) (nb : NB mg) :
    Cal P w K mg base 2 "_law_pick" ["_law_stream_here", "_law_some"] (spPick K) := by
  refine D.ok scPk (fun vs H Q E h => ?_) (fun f cdv A outer s H vs Q E hr gd h => ?_)
  · obtain ⟨p, r, zs, n, rfl, _⟩ := h
    rfl
  · obtain ⟨p, r, zs, n, rfl, hp, hn, ne, hS, z0, z1, q⟩ := h
    refine ⟨_, (pss_one (ps_ret (pe_ix ix_list (pv 1) (pcall C__law_draw (hr.mono (by omega)) gd (by rfl) (pa_cons (pv 0) (pa_cons (pe_callB call_len_seq (by rfl) nb.at PySem.boot_len (pa_cons (pv 1) pa_nil)) pa_nil))) (fun _ _ => rfl)))), ?_⟩
    have hz : 0 < zs.length := by
      cases zs with
      | nil => exact absurd rfl z0
      | cons _ _ => exact Nat.succ_pos _
    refine ⟨_, rfl, _, rfl, _, rfl, r, zs, rfl, .inl hS, p, _, n, rfl, hp, hn, by omega, log_i (k := 20) (by omega) (by omega) (by decide) (by decide), fun H' d hb hy d0 d1 => ?_⟩
    have hd : d.toNat < zs.length := by omega
    have g : atI zs d = some zs[d.toNat] := by
      have y := atI_nat (List.getElem?_eq_getElem hd)
      rw [Int.toNat_of_nonneg d0] at y
      exact y
    exact ⟨r, zs, d, _, rfl, rfl, bu_seq ne.symm hb hS, g, q H' _ hb hy (List.getElem_mem hd)⟩
end
end Ev

/-! ## k61: the law -/
namespace Ev
open PySem PySem.Spec PyProof.Rows L2
open LamX (CodeO TabS Tabs ExtN TabB tLam)
def spLaw (K : PySem.W.Frag) (ps : List Addr) : Sp := fun vs H Q _ => ∃ (a : Addr) (ns : List Int), vs = [.ref a] ∧ (∀ P ∈ ps, H P = some (.tbl #[])) ∧ Scr K H a (ns.map V.int) ∧ ∀ H', Q (.bl true) H'
theorem scLaw : FnScope ["_law_script", "_law_k", "_law_stream_here", "_law_name"] ["_law_script"] (defScope (topS 28)) := ⟨rfl, rfl, rfl, by decide +kernel, rfl, by decide +kernel, by decide +kernel⟩
theorem mm2 (n : Int) : -(2 ^ 62) ≤ (if (if n < 2 then n else 2) > 1 then (if n < 2 then n else 2) else 1) ∧ (if (if n < 2 then n else 2) > 1 then (if n < 2 then n else 2) else 1) < 2 ^ 62 ∧ (if (if n < 2 then n else 2) > 1 then (if n < 2 then n else 2) else 1).toNat ≤ 2 := by
  split <;> split <;> omega
section
variable {P : Program} {w : World} {K : PySem.W.Frag} {mg : Str → Option Value} {base : Heap} {Pt : Addr}
theorem ok_law (hm : ∃ mm, base.Ns sysModules mm) {f : Addr} {fd : FuncData} (F : Fun K "law" "law" (topS 28) f fd) (C__law_stream : Cal P w K mg base 1 "_law_stream" ["_law_script", "_law_k"] (spPotS K)) (C__law_pick : Cal P w K mg base 2 "_law_pick" ["_law_stream_here", "_law_some"] (spPick K))
    (C__law_told : Cal P w K mg base 19 "_law_told" ["_law_page"] (spTo K Pt)) (C__law_items_right : Cal P w K mg base 20 "_law_items_right" ["_law_name"] (spRt61 Pt)) (C__law_levels_right : Cal P w K mg base 20 "_law_levels_right" ["_law_stream_here", "_law_name"] (spLv61 Pt)) (C__law_numbers_right : Cal P w K mg base 20 "_law_numbers_right" ["_law_name"] (spNu61 Pt)) (nb : NB mg) :
    FnG P w K mg base CX0 22 f fd ["_law_script"] (spLaw K [Pt]) := by
  refine okG F scLaw (fun vs H Q E h => ?_) (fun cdv A outer s H vs Q E hr gd h => ?_)
  · obtain ⟨a, ns, rfl, _⟩ := h
    rfl
  · obtain ⟨a, ns, rfl, hT, hS, q⟩ := h
    refine ⟨_, (pss_cons (ps_for PassesOwn.never rfl (pi_range1 rfl nb.at (pa_cons (pe_callB (call_max2 rfl) (by rfl) nb.at (by decide +kernel) (pa_cons pe_int (pa_cons (pe_callB (call_min2 rfl) (by rfl) nb.at (by decide +kernel) (pa_cons pe_int (pa_cons (pe_callB call_len_seq (by rfl) nb.at PySem.boot_len (pa_cons (pv 0) pa_nil)) pa_nil))) pa_nil))) pa_nil)) (pg_name (i := 1) scLaw.nd rfl (Or.inl rfl))
        (pss_cons (ps_set (i := 2) scLaw.nd rfl (.inl rfl) (pcall C__law_stream (hr.mono (by omega)) gd (by rfl) (pa_cons (pv 0) (pa_cons (pv 1) pa_nil))))
        (pss_cons (ps_set (i := 3) scLaw.nd rfl (.inl rfl) (pcall C__law_pick (hr.mono (by omega)) gd (by rfl) (pa_cons (pv 2) (pa_cons (pe_lst (pa_cons pe_str (pa_cons pe_str (pa_cons pe_str pa_nil)))) pa_nil))))
        (pss_cons (ps_if (PW.pt (pw_or (pt_not (pt_val (pcall C__law_items_right (hr.mono (by omega)) gd (by rfl) (pa_cons (pv 3) pa_nil)))) (pw_or (pt_not (pt_val (pcall C__law_levels_right (hr.mono (by omega)) gd (by rfl) (pa_cons (pv 2) (pa_cons (pv 3) pa_nil))))) (pw_or1 (pt_not (pt_val (pcall C__law_numbers_right (hr.mono (by omega)) gd (by rfl) (pa_cons (pv 3) pa_nil))))))))
          (pss_one (ps_ret pe_bl))
          pss_nil)
        (pss_one (ps_if (PW.pt (pw_or (pt_cmpR (op_neD hr.units) (pcall C__law_told (hr.mono (by omega)) gd (by rfl) (pa_cons pe_str pa_nil)) (pe_tup (pa_cons pe_str (pa_cons pe_int pa_nil))) (nomark _)) (pw_or1 (pt_cmpR op_ne (pe_ix ix_tup (pcall C__law_told (hr.mono (by omega)) gd (by rfl) (pa_cons pe_str pa_nil)) pe_int (fun _ _ => rfl)) pe_str (nomark _)))))
          (pss_one (ps_ret pe_bl))
          pss_nil))))))
      (pss_one (ps_ret pe_bl))), ?_⟩
    have y := sizeLine_eq
    have T0 : TabS H Pt qTo := TabS.new (hT Pt (List.mem_singleton.mpr rfl))
    refine ⟨_, rfl, a, _, rfl, .inl hS.seq, 2, _, rfl, 1, _, rfl, _, rfl, (mm2 _).1, (mm2 _).2.1, for_range (lo := 0) (fun i σ' H' => ∃ y1 y2 y3 : Option V, σ' = [some (.ref a), y1, y2, y3] ∧ Scr K H' a (ns.map V.int) ∧ TabS H' Pt qTo)
      ⟨_, _, _, rfl, hS, T0⟩ ?_ ?_⟩
    · rintro i σ' H1 hi ⟨y1, y2, y3, rfl, hS1, hT1⟩
      have hi2 : i < 2 := Nat.lt_of_lt_of_le hi (mm2 _).2.2
      refine ⟨_, rfl, _, rfl, a, ns, _, rfl, hS1.seq, by omega, by omega, fun H2 p np s2 hp2 => ?_⟩
      refine ⟨_, rfl, (by show 3 ≤ sizeLine; rw [y]; decide), fun l nl => ⟨p, l, _, _, rfl, hp2.new nl, by omega, hp2.ne nl, .inl (.inl upd_same), by simp, by show 3 ≤ 1000000; decide, fun H3 v b3 hp3 hv => ?_⟩⟩
      obtain ⟨nm, rfl, hm3⟩ : ∃ nm : Str, v = .str nm ∧ nm ∈ names3 := by
        simp only [List.mem_cons, List.not_mem_nil, or_false] at hv
        rcases hv with rfl | rfl | rfl
        · exact ⟨_, rfl, by simp [names3]⟩
        · exact ⟨_, rfl, by simp [names3]⟩
        · exact ⟨_, rfl, by simp [names3]⟩
      have k3 : Kx H1 H3 := (Kx.same (s2.trans (same_put (o := .lst [.str "a", .str "zzzzzzzz", .str "line"]) nl))).trans (.kj (.kt ((hp2.new nl).kt b3)))
      have T3 : TabS H3 Pt qTo := Ev.TabS.kj (hT1.ext (s2.trans (same_put (o := .lst [.str "a", .str "zzzzzzzz", .str "line"]) nl))) (.kt ((hp2.new nl).kt b3))
      refine ⟨_, rfl, nm, rfl, hm3, T3, fun H4 e4 T4 => ⟨_, rfl, iteF ?_⟩⟩
      refine ⟨_, rfl, _, rfl, p, _, nm, rfl, hp3.ext e4, by omega, hm3, T4, fun H5 k5 T5 => ⟨_, rfl, iteF ?_⟩⟩
      refine ⟨_, rfl, nm, rfl, hm3, T5, fun H6 e6 T6 => ⟨_, rfl, iteF ?_⟩⟩
      have z1 : (Str.ofString "abcdefghi:1").length = 11 := by decide +kernel
      have z2 : (Str.ofString "abcdefgh:1").length = 10 := by decide +kernel
      refine t_stop (n := 8) se_c (by rw [z1, y]; decide) ie_c T6 nu7 fun H7 e7 T7 => iteF (t_told se_c (by rw [z2, y]; decide) T7 nu8 fun H8 e8 T8 => iteF ⟨_, _, _, rfl, ?_, T8⟩)
      exact hS1.kx ((k3.trans (.ext e4)).trans ((k5.trans (.ext e6)).trans (.ext (e7.trans e8))))
    · exact fun σ H _ => q H
end
end Ev

/-! ## The errors' __init__ -/
namespace Ev
open PySem PySem.Spec PyProof.Rows L2
section
variable {P : Program} {w : World} {K : PySem.W.Frag} {mg : Str → Option Value} {base : Heap} {f : Addr} {fd : FuncData} {S C : Addr}
theorem scBadProgram : FnScope ["self", "value"] ["self", "value"] (defScope (inClass (topS 2) 0)) :=
  ⟨rfl, rfl, rfl, by decide +kernel, rfl, by decide +kernel, by decide +kernel⟩
theorem initBadProgram (F : Fun K "__init__" "BadProgram.__init__" (inClass (topS 2) 0) f fd) (B : BaseT K mg S) (T : ErrC K C)
    (no : PySem.W.findIn K (.ref C) "value" = some none) : FnOk P w K mg base CX0 1 f fd ["self", "value"] (spInit1 C "value") := by
  refine F.ok scBadProgram (fun vs H Q E h => ?_) (fun cdv A outer s H vs Q E hr h => ?_)
  · obtain ⟨a, v, rfl, _⟩ := h
    rfl
  · obtain ⟨a, v, rfl, ha, q⟩ := h
    refine ⟨_, pss_cons (ps_expr (pe_seInit (by rfl) B.g B.sg B.rd B.vV (pa_cons (pv 0) (pa_cons pe_str pa_nil)))) (pss_one (ps_ost (pv 0) (pv 1))), ?_⟩
    exact ⟨_, rfl, a, C, [_], rfl, (by show 1 ≤ 1000; decide), T.ox, ha, _, rfl, _, rfl, a, C, rfl, T.ox, no, .inl ⟨ha, q⟩⟩
theorem scBadText : FnScope ["self", "position"] ["self", "position"] (defScope (inClass (topS 3) 0)) :=
  ⟨rfl, rfl, rfl, by decide +kernel, rfl, by decide +kernel, by decide +kernel⟩
theorem initBadText (F : Fun K "__init__" "BadText.__init__" (inClass (topS 3) 0) f fd) (B : BaseT K mg S) (T : ErrC K C)
    (no : PySem.W.findIn K (.ref C) "position" = some none) : FnOk P w K mg base CX0 1 f fd ["self", "position"] (spInit1 C "position") := by
  refine F.ok scBadText (fun vs H Q E h => ?_) (fun cdv A outer s H vs Q E hr h => ?_)
  · obtain ⟨a, v, rfl, _⟩ := h
    rfl
  · obtain ⟨a, v, rfl, ha, q⟩ := h
    refine ⟨_, pss_cons (ps_expr (pe_seInit (by rfl) B.g B.sg B.rd B.vV (pa_cons (pv 0) (pa_cons pe_str pa_nil)))) (pss_one (ps_ost (pv 0) (pv 1))), ?_⟩
    exact ⟨_, rfl, a, C, [_], rfl, (by show 1 ≤ 1000; decide), T.ox, ha, _, rfl, _, rfl, a, C, rfl, T.ox, no, .inl ⟨ha, q⟩⟩
theorem scBadCommand : FnScope ["self", "line"] ["self", "line"] (defScope (inClass (topS 4) 0)) :=
  ⟨rfl, rfl, rfl, by decide +kernel, rfl, by decide +kernel, by decide +kernel⟩
theorem initBadCommand (F : Fun K "__init__" "BadCommand.__init__" (inClass (topS 4) 0) f fd) (B : BaseT K mg S) (T : ErrC K C)
    (no : PySem.W.findIn K (.ref C) "line" = some none) : FnOk P w K mg base CX0 1 f fd ["self", "line"] (spInit1 C "line") := by
  refine F.ok scBadCommand (fun vs H Q E h => ?_) (fun cdv A outer s H vs Q E hr h => ?_)
  · obtain ⟨a, v, rfl, _⟩ := h
    rfl
  · obtain ⟨a, v, rfl, ha, q⟩ := h
    refine ⟨_, pss_cons (ps_expr (pe_seInit (by rfl) B.g B.sg B.rd B.vV (pa_cons (pv 0) (pa_cons pe_str pa_nil)))) (pss_one (ps_ost (pv 0) (pv 1))), ?_⟩
    exact ⟨_, rfl, a, C, [_], rfl, (by show 1 ≤ 1000; decide), T.ox, ha, _, rfl, _, rfl, a, C, rfl, T.ox, no, .inl ⟨ha, q⟩⟩

end
end Ev

/-! ## What the top has written -/
namespace Ev
open PySem PySem.Spec PyProof.Rows L2
open PySem.W (typeIn keepIn codeIn nsIn)
def initB (K : PySem.W.Frag) (fI : Addr) (cd : Value) (q : Str) : Bool := (typeIn K (.ref fI) == some (.type "function")) && (codeIn K cd q && keepIn K (.ref fI))
theorem initB_ok {K : PySem.W.Frag} {fI : Addr} {cd : Value} {q : Str} (h : initB K fI cd q = true) : typeIn K (.ref fI) = some (.type "function") ∧ codeIn K cd q = true ∧ keepIn K (.ref fI) = true := by
  unfold initB at h
  simpa only [Bool.and_eq_true, beq_iff_eq] using h
open PySem.W (findIn subIn specialIn takesIn mroIn clsIn hasDictIn readsIn findCls)
def errB (K : PySem.W.Frag) (C : Addr) : Bool :=
  (findIn K (.ref C) "__setattr__" == some (some (.builtin "object.__setattr__"))) && ((subIn K (.ref C) (.type "BaseException") == some true) &&
  ((typeIn K (.ref C) == some (.type "type")) && (keepIn K (.ref C) && ((findIn K (.ref C) "__getattribute__" == some (some (.builtin "BaseException.__getattribute__"))) &&
  ((findIn K (.ref C) "__getattr__" == some none) && ((findIn K (.ref C) "__class__" == some (some (.builtin "object.__class__"))) &&
  ((specialIn K (.builtin "object.__class__") "__get__" == some (some (.builtin "getset_descriptor.__get__"))) && ((takesIn K (.builtin "object.__class__") == some true) &&
  ((mroIn K C (.type "object") == some true) && ((clsIn K C).isSome && hasDictIn K C))))))))))
theorem errB_ok {K : PySem.W.Frag} {C : Addr} (h : errB K C = true)
    (x : ∃ nm q N bs bm sn sub ab col dd k0 k1 k2 k3 k5, K.lookup C = some (excClassObj nm q C N bs bm true sn sub ab col dd k0 k1 k2 k3 k5 "ValueError.__new__") ∧ PySem.HandSPX.refsVE bm = true) : ErrC K C := by
  unfold errB at h
  simp only [Bool.and_eq_true, beq_iff_eq] at h
  obtain ⟨h1, h2, h3, h4, h5, h6, h7, h8, h9, h10, h11, h12⟩ := h
  exact ⟨⟨x, h1, h2, h3, h4⟩, h5, h6, h7, h8, h9, h10, h11, h12⟩
def baseB (K : PySem.W.Frag) (S : Addr) : Bool := (specialIn K (.ref S) "__getattribute__" == some (some (.builtin "type.__getattribute__"))) && readsIn K S (.type "type")
theorem all_mk {P : Program} {w : World} {K : PySem.W.Frag} {h : Heap} {mg : Str → Option Value} {fa : Addr} (X : K.In h) (G : h.Ns mainGlobals mg) (hfa : mg "law" = some (.ref fa))
    (cs : List (Addr × Addr)) (hcs : Paired (TabF h mg) ["_law_told"] cs)
    {g12 : Addr} {ode12 ane12 : Option Addr} {sle12 : Array (Option Value)} {oce12 kVe12 dce12 pme12 cde12 cte12 : Value}
    {g13 : Addr} {ode13 ane13 : Option Addr} {sle13 : Array (Option Value)} {oce13 kVe13 dce13 pme13 cde13 cte13 : Value}
    {g14 : Addr} {ode14 ane14 : Option Addr} {sle14 : Array (Option Value)} {oce14 kVe14 dce14 pme14 cde14 cte14 : Value}
    {g15 : Addr} {ode15 ane15 : Option Addr} {sle15 : Array (Option Value)} {oce15 kVe15 dce15 pme15 cde15 cte15 : Value}
    {g16 : Addr} {ode16 ane16 : Option Addr} {sle16 : Array (Option Value)} {oce16 kVe16 dce16 pme16 cde16 cte16 : Value}
    {g17 : Addr} {ode17 ane17 : Option Addr} {sle17 : Array (Option Value)} {oce17 kVe17 dce17 pme17 cde17 cte17 : Value}
    {g18 : Addr} {ode18 ane18 : Option Addr} {sle18 : Array (Option Value)} {oce18 kVe18 dce18 pme18 cde18 cte18 : Value}
    {g20 : Addr} {ode20 ane20 : Option Addr} {sle20 : Array (Option Value)} {oce20 kVe20 dce20 pme20 cde20 cte20 : Value}
    {g21 : Addr} {ode21 ane21 : Option Addr} {sle21 : Array (Option Value)} {oce21 kVe21 dce21 pme21 cde21 cte21 : Value}
    {g22 : Addr} {ode22 ane22 : Option Addr} {sle22 : Array (Option Value)} {oce22 kVe22 dce22 pme22 cde22 cte22 : Value}
    {g23 : Addr} {ode23 ane23 : Option Addr} {sle23 : Array (Option Value)} {oce23 kVe23 dce23 pme23 cde23 cte23 : Value}
    {g24 : Addr} {ode24 ane24 : Option Addr} {sle24 : Array (Option Value)} {oce24 kVe24 dce24 pme24 cde24 cte24 : Value}
    {g25 : Addr} {ode25 ane25 : Option Addr} {sle25 : Array (Option Value)} {oce25 kVe25 dce25 pme25 cde25 cte25 : Value}
    {g26 : Addr} {ode26 ane26 : Option Addr} {sle26 : Array (Option Value)} {oce26 kVe26 dce26 pme26 cde26 cte26 : Value}
    {g27 : Addr} {ode27 ane27 : Option Addr} {sle27 : Array (Option Value)} {oce27 kVe27 dce27 pme27 cde27 cte27 : Value}
    {g28 : Addr} {ode28 ane28 : Option Addr} {sle28 : Array (Option Value)} {oce28 kVe28 dce28 pme28 cde28 cte28 : Value}
    {t_MOST_LETTERS : Tok}
    {t_MOST_TICKS : Tok}
    {t_MOST_ROUNDS : Tok}
    {t_MOST_BESIDE : Tok}
    {t_MOST_ITEMS : Tok}
    {t_MOST_DEEP : Tok}
    {cS : Addr} {nmS qnS : Str} {NS : Addr} {bsS : List Value} {snS : List Str} {subS : List Value} {abS : Bool} {colS : Option Bool} {ddS : Option Addr} {pS rS sS tS_ wS : Option Value}
    {c2 : Addr} {nm2 qn2 : Str} {N2 : Addr} {bs2 : List Value} {sn2 : List Str} {sub2 : List Value} {ab2 : Bool} {col2 : Option Bool} {dd2 : Option Addr} {p2 r2 s2 t2_ w2 : Option Value}
    {c3 : Addr} {nm3 qn3 : Str} {N3 : Addr} {bs3 : List Value} {sn3 : List Str} {sub3 : List Value} {ab3 : Bool} {col3 : Option Bool} {dd3 : Option Addr} {p3 r3 s3 t3_ w3 : Option Value}
    {j3 : Addr} {od3 an3 : Option Addr} {sl3 : Array (Option Value)} {oc3 kV3 dc3 pm3 cd3 ct3 : Value}
    {c4 : Addr} {nm4 qn4 : Str} {N4 : Addr} {bs4 : List Value} {sn4 : List Str} {sub4 : List Value} {ab4 : Bool} {col4 : Option Bool} {dd4 : Option Addr} {p4 r4 s4 t4_ w4 : Option Value}
    (A12 : nsIn K mainGlobals "read_program" = some (some (.ref g12)))
    (L12 : K.lookup g12 = some ⟨oce12, ode12, .func (PySem.W.fnOf "read_program" "read_program" (defArgs (topS 12)) (defBody (topS 12)) (defScope (topS 12)) .none kVe12 dce12 pme12 ane12 cde12 cte12), sle12⟩)
    (H12 : initB K g12 cde12 "read_program" = true)
    (A13 : nsIn K mainGlobals "read_items" = some (some (.ref g13)))
    (L13 : K.lookup g13 = some ⟨oce13, ode13, .func (PySem.W.fnOf "read_items" "read_items" (defArgs (topS 13)) (defBody (topS 13)) (defScope (topS 13)) .none kVe13 dce13 pme13 ane13 cde13 cte13), sle13⟩)
    (H13 : initB K g13 cde13 "read_items" = true)
    (A14 : nsIn K mainGlobals "read_item" = some (some (.ref g14)))
    (L14 : K.lookup g14 = some ⟨oce14, ode14, .func (PySem.W.fnOf "read_item" "read_item" (defArgs (topS 14)) (defBody (topS 14)) (defScope (topS 14)) .none kVe14 dce14 pme14 ane14 cde14 cte14), sle14⟩)
    (H14 : initB K g14 cde14 "read_item" = true)
    (A15 : nsIn K mainGlobals "read_name" = some (some (.ref g15)))
    (L15 : K.lookup g15 = some ⟨oce15, ode15, .func (PySem.W.fnOf "read_name" "read_name" (defArgs (topS 15)) (defBody (topS 15)) (defScope (topS 15)) .none kVe15 dce15 pme15 ane15 cde15 cte15), sle15⟩)
    (H15 : initB K g15 cde15 "read_name" = true)
    (A16 : nsIn K mainGlobals "read_number" = some (some (.ref g16)))
    (L16 : K.lookup g16 = some ⟨oce16, ode16, .func (PySem.W.fnOf "read_number" "read_number" (defArgs (topS 16)) (defBody (topS 16)) (defScope (topS 16)) .none kVe16 dce16 pme16 ane16 cde16 cte16), sle16⟩)
    (H16 : initB K g16 cde16 "read_number" = true)
    (A17 : nsIn K mainGlobals "is_letter" = some (some (.ref g17)))
    (L17 : K.lookup g17 = some ⟨oce17, ode17, .func (PySem.W.fnOf "is_letter" "is_letter" (defArgs (topS 17)) (defBody (topS 17)) (defScope (topS 17)) .none kVe17 dce17 pme17 ane17 cde17 cte17), sle17⟩)
    (H17 : initB K g17 cde17 "is_letter" = true)
    (A18 : nsIn K mainGlobals "behind" = some (some (.ref g18)))
    (L18 : K.lookup g18 = some ⟨oce18, ode18, .func (PySem.W.fnOf "behind" "behind" (defArgs (topS 18)) (defBody (topS 18)) (defScope (topS 18)) .none kVe18 dce18 pme18 ane18 cde18 cte18), sle18⟩)
    (H18 : initB K g18 cde18 "behind" = true)
    (A20 : nsIn K mainGlobals "_law_stream" = some (some (.ref g20)))
    (L20 : K.lookup g20 = some ⟨oce20, ode20, .func (PySem.W.fnOf "_law_stream" "_law_stream" (defArgs (topS 20)) (defBody (topS 20)) (defScope (topS 20)) .none kVe20 dce20 pme20 ane20 cde20 cte20), sle20⟩)
    (H20 : initB K g20 cde20 "_law_stream" = true)
    (A21 : nsIn K mainGlobals "_law_draw" = some (some (.ref g21)))
    (L21 : K.lookup g21 = some ⟨oce21, ode21, .func (PySem.W.fnOf "_law_draw" "_law_draw" (defArgs (topS 21)) (defBody (topS 21)) (defScope (topS 21)) .none kVe21 dce21 pme21 ane21 cde21 cte21), sle21⟩)
    (H21 : initB K g21 cde21 "_law_draw" = true)
    (A22 : nsIn K mainGlobals "_law_pick" = some (some (.ref g22)))
    (L22 : K.lookup g22 = some ⟨oce22, ode22, .func (PySem.W.fnOf "_law_pick" "_law_pick" (defArgs (topS 22)) (defBody (topS 22)) (defScope (topS 22)) .none kVe22 dce22 pme22 ane22 cde22 cte22), sle22⟩)
    (H22 : initB K g22 cde22 "_law_pick" = true)
    (A23 : nsIn K mainGlobals "_law_text_caught" = some (some (.ref g23)))
    (L23 : K.lookup g23 = some ⟨oce23, ode23, .func (PySem.W.fnOf "_law_text_caught" "_law_text_caught" (defArgs (topS 23)) (defBody (topS 23)) (defScope (topS 23)) .none kVe23 dce23 pme23 ane23 cde23 cte23), sle23⟩)
    (H23 : initB K g23 cde23 "_law_text_caught" = true)
    (A24 : nsIn K mainGlobals "_law_told" = some (some (.ref g24)))
    (L24 : K.lookup g24 = some ⟨oce24, ode24, .func (PySem.W.fnOf "_law_told" "_law_told" (defArgs (topS 24)) (defBody (topS 24)) (defScope (topS 24)) .none kVe24 dce24 pme24 ane24 cde24 cte24), sle24⟩)
    (H24 : initB K g24 cde24 "_law_told" = true)
    (A25 : nsIn K mainGlobals "_law_items_right" = some (some (.ref g25)))
    (L25 : K.lookup g25 = some ⟨oce25, ode25, .func (PySem.W.fnOf "_law_items_right" "_law_items_right" (defArgs (topS 25)) (defBody (topS 25)) (defScope (topS 25)) .none kVe25 dce25 pme25 ane25 cde25 cte25), sle25⟩)
    (H25 : initB K g25 cde25 "_law_items_right" = true)
    (A26 : nsIn K mainGlobals "_law_levels_right" = some (some (.ref g26)))
    (L26 : K.lookup g26 = some ⟨oce26, ode26, .func (PySem.W.fnOf "_law_levels_right" "_law_levels_right" (defArgs (topS 26)) (defBody (topS 26)) (defScope (topS 26)) .none kVe26 dce26 pme26 ane26 cde26 cte26), sle26⟩)
    (H26 : initB K g26 cde26 "_law_levels_right" = true)
    (A27 : nsIn K mainGlobals "_law_numbers_right" = some (some (.ref g27)))
    (L27 : K.lookup g27 = some ⟨oce27, ode27, .func (PySem.W.fnOf "_law_numbers_right" "_law_numbers_right" (defArgs (topS 27)) (defBody (topS 27)) (defScope (topS 27)) .none kVe27 dce27 pme27 ane27 cde27 cte27), sle27⟩)
    (H27 : initB K g27 cde27 "_law_numbers_right" = true)
    (A28 : nsIn K mainGlobals "law" = some (some (.ref g28)))
    (L28 : K.lookup g28 = some ⟨oce28, ode28, .func (PySem.W.fnOf "law" "law" (defArgs (topS 28)) (defBody (topS 28)) (defScope (topS 28)) .none kVe28 dce28 pme28 ane28 cde28 cte28), sle28⟩)
    (H28 : initB K g28 cde28 "law" = true)
    (c_MOST_LETTERS : nsIn K mainGlobals "MOST_LETTERS" = some (some (.int 8 t_MOST_LETTERS)))
    (c_MOST_TICKS : nsIn K mainGlobals "MOST_TICKS" = some (some (.int 1000000000000 t_MOST_TICKS)))
    (c_MOST_ROUNDS : nsIn K mainGlobals "MOST_ROUNDS" = some (some (.int 1000000000000000000 t_MOST_ROUNDS)))
    (c_MOST_BESIDE : nsIn K mainGlobals "MOST_BESIDE" = some (some (.int 20 t_MOST_BESIDE)))
    (c_MOST_ITEMS : nsIn K mainGlobals "MOST_ITEMS" = some (some (.int 60 t_MOST_ITEMS)))
    (c_MOST_DEEP : nsIn K mainGlobals "MOST_DEEP" = some (some (.int 5 t_MOST_DEEP)))
    (eaS : nsIn K mainGlobals "SampleError" = some (some (.ref cS)))
    (exS : K.lookup cS = some (excClassObj nmS qnS cS NS bsS [.type "ValueError", .type "Exception", .type "BaseException", .type "object"] true snS subS abS colS ddS pS rS sS tS_ wS "ValueError.__new__"))
    (HbS : baseB K cS = true)
    (vS : findCls K (.ref cS) (.type "type") "__init__" = some (.val (.builtin "ValueError.__init__")))
    (ea2 : nsIn K mainGlobals "BadProgram" = some (some (.ref c2)))
    (ex2 : K.lookup c2 = some (excClassObj nm2 qn2 c2 N2 bs2 [.ref cS, .type "ValueError", .type "Exception", .type "BaseException", .type "object"] true sn2 sub2 ab2 col2 dd2 p2 r2 s2 t2_ w2 "ValueError.__new__"))
    (He2 : errB K c2 = true)
    (ea3 : nsIn K mainGlobals "BadText" = some (some (.ref c3)))
    (ex3 : K.lookup c3 = some (excClassObj nm3 qn3 c3 N3 bs3 [.ref cS, .type "ValueError", .type "Exception", .type "BaseException", .type "object"] true sn3 sub3 ab3 col3 dd3 p3 r3 s3 t3_ w3 "ValueError.__new__"))
    (He3 : errB K c3 = true)
    (ei3 : findIn K (.ref c3) "__init__" = some (some (.ref j3)))
    (el3 : K.lookup j3 = some ⟨oc3, od3, .func (PySem.W.fnOf "__init__" "BadText.__init__" (defArgs (inClass (topS 3) 0)) (defBody (inClass (topS 3) 0)) (defScope (inClass (topS 3) 0)) .none kV3 dc3 pm3 an3 cd3 ct3), sl3⟩)
    (Hi3 : initB K j3 cd3 "BadText.__init__" = true)
    (en3 : findIn K (.ref c3) "position" = some none)
    (ea4 : nsIn K mainGlobals "BadCommand" = some (some (.ref c4)))
    (ex4 : K.lookup c4 = some (excClassObj nm4 qn4 c4 N4 bs4 [.ref cS, .type "ValueError", .type "Exception", .type "BaseException", .type "object"] true sn4 sub4 ab4 col4 dd4 p4 r4 s4 t4_ w4 "ValueError.__new__"))
    (He4 : errB K c4 = true)
    (Hk_up : (PySem.W.exmOne K (.ref c3) (.ref cS) == some true) = true)
    (Hk_own : (PySem.W.kitOne K (.ref c3) (.ref c3) == some true) = true)
    (Hk_oth : (PySem.W.kitAny K (.ref c3) [.ref c2, .ref c4] == some false) = true)
    (Hk_val : (PySem.W.kitOne K (.ref c3) (.type "ValueError") == some true) = true)
    (z_ValueError : nsIn K mainGlobals "ValueError" = some none)
    (z_len : nsIn K mainGlobals "len" = some none)
    (z_abs : nsIn K mainGlobals "abs" = some none)
    (z_int : nsIn K mainGlobals "int" = some none)
    (z_bool : nsIn K mainGlobals "bool" = some none)
    (z_isinstance : nsIn K mainGlobals "isinstance" = some none)
    (z_range : nsIn K mainGlobals "range" = some none)
    (z_max : nsIn K mainGlobals "max" = some none)
    (z_min : nsIn K mainGlobals "min" = some none)
    (z_sum : nsIn K mainGlobals "sum" = some none)
    (z_repr : nsIn K mainGlobals "repr" = some none)
    (z_divmod : nsIn K mainGlobals "divmod" = some none)
    (z_tuple : nsIn K mainGlobals "tuple" = some none)
    (z_sorted : nsIn K mainGlobals "sorted" = some none)
    (z_set : nsIn K mainGlobals "set" = some none)
    (z_enumerate : nsIn K mainGlobals "enumerate" = some none)
    (z_zip : nsIn K mainGlobals "zip" = some none)
    (z_list : nsIn K mainGlobals "list" = some none)
    (z_dict : nsIn K mainGlobals "dict" = some none)
    (z_any : nsIn K mainGlobals "any" = some none)
    (z_all : nsIn K mainGlobals "all" = some none)
    (z_str : nsIn K mainGlobals "str" = some none)
    (z_reversed : nsIn K mainGlobals "reversed" = some none)
    : ∃ fd : FuncData, (∀ (s : Shared) (u : Value), BindsTo s fd ⟨[u], []⟩ [("_law_script", u)]) ∧
      ∀ base : Heap, K.In base → base.Ns mainGlobals mg → (∃ mm, base.Ns sysModules mm) → (∀ p ∈ cs, LamX.TabB base mg p.1 p.2) → FnG P w K mg base CX0 22 fa fd ["_law_script"] (spLaw K (cs.map (·.2))) := by
  have e := hfa.symm.trans (PySem.W.mg_of X G A28)
  cases e
  obtain ⟨t12, u12, v12⟩ := initB_ok H12
  have F12 := fun_mk (st := topS 12) L12 u12 v12
  have m12 := PySem.W.mg_of X G A12
  have b12 := F12.binds (ps := ["text"]) fun _ _ _ _ _ _ us hl => match us, hl with | [_], _ => rfl
  obtain ⟨t13, u13, v13⟩ := initB_ok H13
  have F13 := fun_mk (st := topS 13) L13 u13 v13
  have m13 := PySem.W.mg_of X G A13
  have b13 := F13.binds (ps := ["text", "at", "depth", "room"]) fun _ _ _ _ _ _ us hl => match us, hl with | [_, _, _, _], _ => rfl
  obtain ⟨t14, u14, v14⟩ := initB_ok H14
  have F14 := fun_mk (st := topS 14) L14 u14 v14
  have m14 := PySem.W.mg_of X G A14
  have b14 := F14.binds (ps := ["text", "at", "depth", "room"]) fun _ _ _ _ _ _ us hl => match us, hl with | [_, _, _, _], _ => rfl
  obtain ⟨t15, u15, v15⟩ := initB_ok H15
  have F15 := fun_mk (st := topS 15) L15 u15 v15
  have m15 := PySem.W.mg_of X G A15
  have b15 := F15.binds (ps := ["text", "at"]) fun _ _ _ _ _ _ us hl => match us, hl with | [_, _], _ => rfl
  obtain ⟨t16, u16, v16⟩ := initB_ok H16
  have F16 := fun_mk (st := topS 16) L16 u16 v16
  have m16 := PySem.W.mg_of X G A16
  have b16 := F16.binds (ps := ["text", "at", "most"]) fun _ _ _ _ _ _ us hl => match us, hl with | [_, _, _], _ => rfl
  obtain ⟨t17, u17, v17⟩ := initB_ok H17
  have F17 := fun_mk (st := topS 17) L17 u17 v17
  have m17 := PySem.W.mg_of X G A17
  have b17 := F17.binds (ps := ["text"]) fun _ _ _ _ _ _ us hl => match us, hl with | [_], _ => rfl
  obtain ⟨t18, u18, v18⟩ := initB_ok H18
  have F18 := fun_mk (st := topS 18) L18 u18 v18
  have m18 := PySem.W.mg_of X G A18
  have b18 := F18.binds (ps := ["text", "at", "signs"]) fun _ _ _ _ _ _ us hl => match us, hl with | [_, _, _], _ => rfl
  obtain ⟨t20, u20, v20⟩ := initB_ok H20
  have F20 := fun_mk (st := topS 20) L20 u20 v20
  have m20 := PySem.W.mg_of X G A20
  have b20 := F20.binds (ps := ["_law_script", "_law_k"]) fun _ _ _ _ _ _ us hl => match us, hl with | [_, _], _ => rfl
  obtain ⟨t21, u21, v21⟩ := initB_ok H21
  have F21 := fun_mk (st := topS 21) L21 u21 v21
  have m21 := PySem.W.mg_of X G A21
  have b21 := F21.binds (ps := ["_law_stream_here", "_law_many"]) fun _ _ _ _ _ _ us hl => match us, hl with | [_, _], _ => rfl
  obtain ⟨t22, u22, v22⟩ := initB_ok H22
  have F22 := fun_mk (st := topS 22) L22 u22 v22
  have m22 := PySem.W.mg_of X G A22
  have b22 := F22.binds (ps := ["_law_stream_here", "_law_some"]) fun _ _ _ _ _ _ us hl => match us, hl with | [_, _], _ => rfl
  obtain ⟨t23, u23, v23⟩ := initB_ok H23
  have F23 := fun_mk (st := topS 23) L23 u23 v23
  have m23 := PySem.W.mg_of X G A23
  have b23 := F23.binds (ps := ["_law_call"]) fun _ _ _ _ _ _ us hl => match us, hl with | [_], _ => rfl
  obtain ⟨t24, u24, v24⟩ := initB_ok H24
  have F24 := fun_mk (st := topS 24) L24 u24 v24
  have m24 := PySem.W.mg_of X G A24
  have b24 := F24.binds (ps := ["_law_page"]) fun _ _ _ _ _ _ us hl => match us, hl with | [_], _ => rfl
  obtain ⟨t25, u25, v25⟩ := initB_ok H25
  have F25 := fun_mk (st := topS 25) L25 u25 v25
  have m25 := PySem.W.mg_of X G A25
  have b25 := F25.binds (ps := ["_law_name"]) fun _ _ _ _ _ _ us hl => match us, hl with | [_], _ => rfl
  obtain ⟨t26, u26, v26⟩ := initB_ok H26
  have F26 := fun_mk (st := topS 26) L26 u26 v26
  have m26 := PySem.W.mg_of X G A26
  have b26 := F26.binds (ps := ["_law_stream_here", "_law_name"]) fun _ _ _ _ _ _ us hl => match us, hl with | [_, _], _ => rfl
  obtain ⟨t27, u27, v27⟩ := initB_ok H27
  have F27 := fun_mk (st := topS 27) L27 u27 v27
  have m27 := PySem.W.mg_of X G A27
  have b27 := F27.binds (ps := ["_law_name"]) fun _ _ _ _ _ _ us hl => match us, hl with | [_], _ => rfl
  obtain ⟨t28, u28, v28⟩ := initB_ok H28
  have F28 := fun_mk (st := topS 28) L28 u28 v28
  have m28 := PySem.W.mg_of X G A28
  obtain ⟨sgS, rdS⟩ := by
    have h := HbS
    unfold baseB at h
    simpa only [Bool.and_eq_true, beq_iff_eq] using h
  have g_SampleError := PySem.W.mg_of X G eaS
  have n_ValueError := PySem.W.mg_none_of X G z_ValueError
  have BT : BaseT K mg cS := ⟨g_SampleError, sgS, rdS, vS⟩
  have g_BadProgram := PySem.W.mg_of X G ea2
  have T_BadProgram : ErrC K c2 := errB_ok He2 ⟨_, _, _, _, _, _, _, _, _, _, _, _, _, _, _, ex2, rfl⟩
  have g_BadText := PySem.W.mg_of X G ea3
  have T_BadText : ErrC K c3 := errB_ok He3 ⟨_, _, _, _, _, _, _, _, _, _, _, _, _, _, _, ex3, rfl⟩
  obtain ⟨ti3, ui3, vi3⟩ := initB_ok Hi3
  have Fi3 := fun_mk (st := inClass (topS 3) 0) el3 ui3 vi3
  have bi3 := Fi3.binds (ps := ["self", "position"]) fun _ _ _ _ _ _ us hl => match us, hl with | [_, _], _ => rfl
  have R_BadText : ∀ base : Heap, Err1 P w K mg base "BadText" c3 "position" := fun base => ⟨g_BadText, T_BadText, en3, j3, _, ei3, ti3, initBadText (P := P) (w := w) (base := base) Fi3 BT T_BadText en3, bi3⟩
  have g_BadCommand := PySem.W.mg_of X G ea4
  have T_BadCommand : ErrC K c4 := errB_ok He4 ⟨_, _, _, _, _, _, _, _, _, _, _, _, _, _, _, ex4, rfl⟩
  have k_MOST_LETTERS := PySem.W.mg_of X G c_MOST_LETTERS
  have k_MOST_TICKS := PySem.W.mg_of X G c_MOST_TICKS
  have k_MOST_ROUNDS := PySem.W.mg_of X G c_MOST_ROUNDS
  have k_MOST_BESIDE := PySem.W.mg_of X G c_MOST_BESIDE
  have k_MOST_ITEMS := PySem.W.mg_of X G c_MOST_ITEMS
  have k_MOST_DEEP := PySem.W.mg_of X G c_MOST_DEEP
  have n_len := PySem.W.mg_none_of X G z_len
  have n_abs := PySem.W.mg_none_of X G z_abs
  have n_int := PySem.W.mg_none_of X G z_int
  have n_bool := PySem.W.mg_none_of X G z_bool
  have n_isinstance := PySem.W.mg_none_of X G z_isinstance
  have n_range := PySem.W.mg_none_of X G z_range
  have n_max := PySem.W.mg_none_of X G z_max
  have n_min := PySem.W.mg_none_of X G z_min
  have n_sum := PySem.W.mg_none_of X G z_sum
  have n_repr := PySem.W.mg_none_of X G z_repr
  have n_divmod := PySem.W.mg_none_of X G z_divmod
  have n_tuple := PySem.W.mg_none_of X G z_tuple
  have n_sorted := PySem.W.mg_none_of X G z_sorted
  have n_set := PySem.W.mg_none_of X G z_set
  have n_enumerate := PySem.W.mg_none_of X G z_enumerate
  have n_zip := PySem.W.mg_none_of X G z_zip
  have n_list := PySem.W.mg_none_of X G z_list
  have n_dict := PySem.W.mg_none_of X G z_dict
  have n_any := PySem.W.mg_none_of X G z_any
  have n_all := PySem.W.mg_none_of X G z_all
  have n_str := PySem.W.mg_none_of X G z_str
  have n_reversed := PySem.W.mg_none_of X G z_reversed
  have nb : NB mg := fun x hx => by
    rw [nbs] at hx
    rcases List.mem_cons.mp hx with rfl | hx
    · exact n_len
    rcases List.mem_cons.mp hx with rfl | hx
    · exact n_abs
    rcases List.mem_cons.mp hx with rfl | hx
    · exact n_int
    rcases List.mem_cons.mp hx with rfl | hx
    · exact n_bool
    rcases List.mem_cons.mp hx with rfl | hx
    · exact n_isinstance
    rcases List.mem_cons.mp hx with rfl | hx
    · exact n_range
    rcases List.mem_cons.mp hx with rfl | hx
    · exact n_max
    rcases List.mem_cons.mp hx with rfl | hx
    · exact n_min
    rcases List.mem_cons.mp hx with rfl | hx
    · exact n_sum
    rcases List.mem_cons.mp hx with rfl | hx
    · exact n_repr
    rcases List.mem_cons.mp hx with rfl | hx
    · exact n_divmod
    rcases List.mem_cons.mp hx with rfl | hx
    · exact n_tuple
    rcases List.mem_cons.mp hx with rfl | hx
    · exact n_sorted
    rcases List.mem_cons.mp hx with rfl | hx
    · exact n_set
    rcases List.mem_cons.mp hx with rfl | hx
    · exact n_enumerate
    rcases List.mem_cons.mp hx with rfl | hx
    · exact n_zip
    rcases List.mem_cons.mp hx with rfl | hx
    · exact n_list
    rcases List.mem_cons.mp hx with rfl | hx
    · exact n_dict
    rcases List.mem_cons.mp hx with rfl | hx
    · exact n_any
    rcases List.mem_cons.mp hx with rfl | hx
    · exact n_all
    rcases List.mem_cons.mp hx with rfl | hx
    · exact n_str
    rcases List.mem_cons.mp hx with rfl | hx
    · exact n_reversed
    cases hx
  obtain ⟨⟨c0_0, P0_0⟩, rfl, tf0⟩ := paired1 hcs
  refine ⟨PySem.W.fnOf "law" "law" (defArgs (topS 28)) (defBody (topS 28)) (defScope (topS 28)) .none kVe28 dce28 pme28 ane28 cde28 cte28, fun s u => .of_eq rfl, fun base XB _ hm hTB => ?_⟩
  have TB := hTB (c0_0, P0_0) (by simp)
  have DC__law_told : DefC K mg "_law_told" (topS 24) ["_law_page"] c0_0 := ⟨_, _, F24, b24, m24, TabF.code tf0 X F24 m24⟩
  have D_read_program : Def K mg "read_program" (topS 12) ["text"] := ⟨_, _, F12, b12, m12⟩
  have D_read_items : Def K mg "read_items" (topS 13) ["text", "at", "depth", "room"] := ⟨_, _, F13, b13, m13⟩
  have D_read_item : Def K mg "read_item" (topS 14) ["text", "at", "depth", "room"] := ⟨_, _, F14, b14, m14⟩
  have D_read_name : Def K mg "read_name" (topS 15) ["text", "at"] := ⟨_, _, F15, b15, m15⟩
  have D_read_number : Def K mg "read_number" (topS 16) ["text", "at", "most"] := ⟨_, _, F16, b16, m16⟩
  have D_is_letter : Def K mg "is_letter" (topS 17) ["text"] := ⟨_, _, F17, b17, m17⟩
  have D_behind : Def K mg "behind" (topS 18) ["text", "at", "signs"] := ⟨_, _, F18, b18, m18⟩
  have D__law_stream : Def K mg "_law_stream" (topS 20) ["_law_script", "_law_k"] := ⟨_, _, F20, b20, m20⟩
  have D__law_draw : Def K mg "_law_draw" (topS 21) ["_law_stream_here", "_law_many"] := ⟨_, _, F21, b21, m21⟩
  have D__law_pick : Def K mg "_law_pick" (topS 22) ["_law_stream_here", "_law_some"] := ⟨_, _, F22, b22, m22⟩
  have D__law_text_caught : Def K mg "_law_text_caught" (topS 23) ["_law_call"] := ⟨_, _, F23, b23, m23⟩
  have D__law_told : Def K mg "_law_told" (topS 24) ["_law_page"] := ⟨_, _, F24, b24, m24⟩
  have D__law_items_right : Def K mg "_law_items_right" (topS 25) ["_law_name"] := ⟨_, _, F25, b25, m25⟩
  have D__law_levels_right : Def K mg "_law_levels_right" (topS 26) ["_law_stream_here", "_law_name"] := ⟨_, _, F26, b26, m26⟩
  have D__law_numbers_right : Def K mg "_law_numbers_right" (topS 27) ["_law_name"] := ⟨_, _, F27, b27, m27⟩
  have Flaw := F28
  have XIl := ok_il (P := P) (w := w) (base := base) D_is_letter nb
  have XRn := ok_rn D_read_name XIl k_MOST_LETTERS nb
  have XBh := ok_bh D_behind (R_BadText base) nb
  have XRm := ok_rm (K := K) D_read_number (R_BadText base) nb
  have XRis := ok_ris D_read_item D_read_items XIl XRn XBh XRm (R_BadText base) k_MOST_TICKS k_MOST_ROUNDS k_MOST_BESIDE nb
  have XRp := ok_rp D_read_program (XRis 5) (R_BadText base) k_MOST_DEEP k_MOST_ITEMS nb
  have C1 := ok_stream (P := P) (w := w) (base := base) D__law_stream nb
  have C2 := ok_draw (P := P) (w := w) (base := base) D__law_draw nb
  have C3 := ok_pick D__law_pick C2 nb
  have Z : TxC K mg cS c3 c2 c4 := {
    cls := T_BadText
    fld := en3
    up := beq_iff_eq.mp Hk_up
    own := beq_iff_eq.mp Hk_own
    oth := beq_iff_eq.mp Hk_oth
    val := beq_iff_eq.mp Hk_val
    gS := g_SampleError
    gB := g_BadText
    gP := g_BadProgram
    gC := g_BadCommand
    nV := n_ValueError }
  have CT := ok_to TB Z DC__law_told D__law_text_caught XRp nb
  have CI := ok_itR D__law_items_right CT nb
  have CV := ok_lv D__law_levels_right CT C2 nb
  have CN := ok_nu D__law_numbers_right CT nb
  exact ok_law hm Flaw C1 C3 CT CI CV CN nb
end Ev

open PySem PySem.W PyProof.Rows
set_option maxRecDepth 100000 in
set_option maxHeartbeats 0 in
theorem PySem.Challenge.cw_evensamples_k61_limits_of_texts_holds : PySem.Challenge.rw_evensamples_k61_limits_of_texts.Holds := by
  w_on; o_law; k_head; (case hw => w_witness2)
  k_fill
  refine Ev.walkT ["_law_told"] (l := PySem.Challenge.rw_evensamples_k61_limits_of_texts) (n := 63) (k := 22) (x := "_law_script") (CX := L2.CX0) (sp := Ev.spLaw) ?noImports ?names ?noTabs rfl (by decide) rfl ⟨rfl, by decide, by decide⟩ (fun w h Y => PySem.W.km_in_of Y) ?F
    (fun _ _ a ns _ _ hT hS => ⟨a, ns, rfl, hT, hS, fun _ => rfl⟩) (fun _ _ _ _ h => h)
  case names => decide +kernel
  case noTabs => exact fun w => by kernel_rfl
  case noImports => decide +kernel
  case F =>
    intro w mg fa h KX G hmg cs hcs
    refine' Ev.all_mk KX G hmg cs hcs ?A12 ?L12 ?H12 ?A13 ?L13 ?H13 ?A14 ?L14 ?H14 ?A15 ?L15 ?H15 ?A16 ?L16 ?H16 ?A17 ?L17 ?H17 ?A18 ?L18 ?H18 ?A20 ?L20 ?H20 ?A21 ?L21 ?H21 ?A22 ?L22 ?H22 ?A23 ?L23 ?H23 ?A24 ?L24 ?H24 ?A25 ?L25 ?H25 ?A26 ?L26 ?H26 ?A27 ?L27 ?H27 ?A28 ?L28 ?H28 ?c_MOST_LETTERS ?c_MOST_TICKS ?c_MOST_ROUNDS ?c_MOST_BESIDE ?c_MOST_ITEMS ?c_MOST_DEEP ?eaS ?exS ?HbS ?vS ?ea2 ?ex2 ?He2 ?ea3 ?ex3 ?He3 ?ei3 ?el3 ?Hi3 ?en3 ?ea4 ?ex4 ?He4 ?Hk_up ?Hk_own ?Hk_oth ?Hk_val ?z_ValueError ?z_len ?z_abs ?z_int ?z_bool ?z_isinstance ?z_range ?z_max ?z_min ?z_sum ?z_repr ?z_divmod ?z_tuple ?z_sorted ?z_set ?z_enumerate ?z_zip ?z_list ?z_dict ?z_any ?z_all ?z_str ?z_reversed
    (case A12 => k_is)
    (case L12 => k_is)
    (case H12 => kernel_rfl)
    (case A13 => k_is)
    (case L13 => k_is)
    (case H13 => kernel_rfl)
    (case A14 => k_is)
    (case L14 => k_is)
    (case H14 => kernel_rfl)
    (case A15 => k_is)
    (case L15 => k_is)
    (case H15 => kernel_rfl)
    (case A16 => k_is)
    (case L16 => k_is)
    (case H16 => kernel_rfl)
    (case A17 => k_is)
    (case L17 => k_is)
    (case H17 => kernel_rfl)
    (case A18 => k_is)
    (case L18 => k_is)
    (case H18 => kernel_rfl)
    (case A20 => k_is)
    (case L20 => k_is)
    (case H20 => kernel_rfl)
    (case A21 => k_is)
    (case L21 => k_is)
    (case H21 => kernel_rfl)
    (case A22 => k_is)
    (case L22 => k_is)
    (case H22 => kernel_rfl)
    (case A23 => k_is)
    (case L23 => k_is)
    (case H23 => kernel_rfl)
    (case A24 => k_is)
    (case L24 => k_is)
    (case H24 => kernel_rfl)
    (case A25 => k_is)
    (case L25 => k_is)
    (case H25 => kernel_rfl)
    (case A26 => k_is)
    (case L26 => k_is)
    (case H26 => kernel_rfl)
    (case A27 => k_is)
    (case L27 => k_is)
    (case H27 => kernel_rfl)
    (case A28 => k_is)
    (case L28 => k_is)
    (case H28 => kernel_rfl)
    (case c_MOST_LETTERS => k_is)
    (case c_MOST_TICKS => k_is)
    (case c_MOST_ROUNDS => k_is)
    (case c_MOST_BESIDE => k_is)
    (case c_MOST_ITEMS => k_is)
    (case c_MOST_DEEP => k_is)
    (case eaS => k_is)
    (case exS => k_is)
    (case HbS => kernel_rfl)
    (case vS => k_is)
    (case ea2 => k_is)
    (case ex2 => k_is)
    (case He2 => kernel_rfl)
    (case ea3 => k_is)
    (case ex3 => k_is)
    (case He3 => kernel_rfl)
    (case ei3 => k_is)
    (case el3 => k_is)
    (case Hi3 => kernel_rfl)
    (case en3 => k_is)
    (case ea4 => k_is)
    (case ex4 => k_is)
    (case He4 => kernel_rfl)
    (case Hk_up => kernel_rfl)
    (case Hk_own => kernel_rfl)
    (case Hk_oth => kernel_rfl)
    (case Hk_val => kernel_rfl)
    (case z_ValueError => k_is)
    (case z_len => k_is)
    (case z_abs => k_is)
    (case z_int => k_is)
    (case z_bool => k_is)
    (case z_isinstance => k_is)
    (case z_range => k_is)
    (case z_max => k_is)
    (case z_min => k_is)
    (case z_sum => k_is)
    (case z_repr => k_is)
    (case z_divmod => k_is)
    (case z_tuple => k_is)
    (case z_sorted => k_is)
    (case z_set => k_is)
    (case z_enumerate => k_is)
    (case z_zip => k_is)
    (case z_list => k_is)
    (case z_dict => k_is)
    (case z_any => k_is)
    (case z_all => k_is)
    (case z_str => k_is)
    (case z_reversed => k_is)

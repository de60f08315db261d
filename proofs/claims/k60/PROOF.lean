import PyProof.Rows.All
import Wide.All
import OpenK.AllK
import Wide.FinOn
import PySem.Challenge.RW_evensamples_k60_texts_changed_anywhere
import HandS.ForMost
import HandS.Wide
import HandS.More
import HandS.Set
import HandS.SetBool
import HandS.SetFor
import HandS.TupSets
import HandS.IsInst
import HandS.TupAny
import HandS.TupMul
import HandS.DictComp
import HandS.Text
import HandS.WideBits
import HandS.Zip
import HandS.Conv
import PyProof.NeKinds
import PyProof.EqKinds
import PyProof.FactsAll.dict
import KE.KEqNest
import PyProof.FactsAll.int
import PyProof.FactsAll.str_1
import HandS.Exc
import HandS.ExcInit
import KE.KExcIs
import HandS.ExcOwn
import HandS.WordsExc
import HandS.Style
import PyProof.Rows.SortShellAny
import HandS.FStr
import KE.IntTextLaws
import HandS.Iter
import KE.GoesMore
import HandS.Walk
import HandS.ExcValue
import HandS.EndTab
import KE.KNestM
import HandS.OwnEq
set_option Elab.async false
set_option linter.all false
set_option maxRecDepth 100000
set_option maxHeartbeats 4000000
/-! ## Promises of defs that are called while no repr is under way -/
namespace Ev
open PySem PySem.Spec PyProof.Rows L2

/-- the promise of a def, for a stack without a repr that is under way -/
structure FnG (P : Program) (w : World) (K : PySem.W.Frag) (mg : Str → Option Value)
    (base : Heap) (CX : CXT) (k : Nat) (f : Addr) (fd : FuncData) (ps : List Str) (sp : Sp) : Prop where
  many : ∀ vs H Q E, sp vs H Q E → vs.length = ps.length
  go : ∀ (A : Around) (outer : List Env) (s : Shared) (H : Hp) (args : Args)
      (us : List Value) (vs : List V) (Q : VK) (E : XK),
    Room k A → A.guards = some [] → Env0 P w K mg base A outer s H → BindsTo s fd args (ps.zip us) →
      Vals vs us → sp vs H Q E → codeAny (model P w) A (.call (.ref f) args) (CR CX outer P w H s Q E) s

section
variable {P : Program} {w : World} {K : PySem.W.Frag} {mg : Str → Option Value} {base : Heap} {CX : CXT}
variable {k : Nat} {f : Addr} {fd : FuncData} {ps : List Str} {sp : Sp}
theorem FnG.of (F : FnOk P w K mg base CX k f fd ps sp) : FnG P w K mg base CX k f fd ps sp :=
  ⟨F.len, fun A o s H args us vs Q E hr _ => F.run A o s H args us vs Q E hr⟩
theorem FnG.up {j : Nat} (F : FnG P w K mg base CX j f fd ps sp) (h : j ≤ k) : FnG P w K mg base CX k f fd ps sp :=
  ⟨F.many, fun A o s H args us vs Q E hr => F.go A o s H args us vs Q E (hr.mono h)⟩
end

section
variable {X : Cx} {CX : CXT} {k : Nat} {f : Addr} {fd : FuncData} {ps : List Str} {sp : Sp}
variable {dvs : List V} {ds : List Value} {E : XK} {x : Str} {p pos : Pos} {e : Expr} {es : List Expr} {t : TA}
theorem runG {pins : List (Addr × Obj)} {σ : L2.St} {H : Hp} {s : Shared} {Q : VK} {us : List Value} {vs : List V}
    (F : FnG X.prog X.w X.K X.mg X.base CX k f fd ps sp) (hr : Room k X.A) (gd : X.A.guards = some [])
    (hb : Binds X.K fd ps ds) (hd : Vals dvs ds) (hx : Passes CX X E) (I : Inv X pins σ H s) (r : Vals vs us)
    (h : sp (vs ++ dvs) H Q E) : wpAny (model X.prog X.w) X.A (call (.ref f) us) (EP X pins σ Q) X.xe s := by
  have rr : Vals (vs ++ dvs) (us ++ ds) := r.append hd
  have hl : (us ++ ds).length = ps.length := rr.length.symm.trans (F.many _ _ _ _ h)
  have z := F.go X.A X.stack s H ⟨us, []⟩ (us ++ ds) (vs ++ dvs) Q E hr gd I.env0 (hb s us I.kIn hl) rr h
  refine wpAny_call (codeAny_mono z fun res s' hq => ?_)
  match res, hq with
  | .error e, hq => exact hx pins σ H s e s' I hq
  | .ok (.ret u), hq => exact I.after hq
  | .ok .next, hq => exact False.elim hq
  | .ok .brk, hq => exact False.elim hq
  | .ok .cont, hq => exact False.elim hq
theorem pe_callG (F : FnG X.prog X.w X.K X.mg X.base CX k f fd ps sp) (hr : Room k X.A) (gd : X.A.guards = some [])
    (hg : Gl X x) (hm : X.mg x = some (.ref f)) (hk : PySem.W.keepIn X.K (.ref f) = true) (hb : Binds X.K fd ps ds)
    (hd : Vals dvs ds) (hx : Passes CX X E) (ha : PA X (e :: es) t)
    (hdb : (x == ("__debug__" : Str)) = false := by decide)
    (he : starEach (e :: es) X.env = (false, eval e X.env) :: starEach es X.env := by rfl)
    (hpl : (backTo pos (starEach es X.env)).any (·.1) = false := by rfl) :
    PE X (.Call (.Name x p) (e :: es) [] pos) (tCall sp dvs E t) := by
  constructor
  intro pins s σ H Q I h
  refine wpAny_Call_Name_kw (ld_glob I hg hm ?_ hdb)
  have z := ha.run pos pins s σ H _ I h
  refine PySem.W.callWith_K (h₀ := X.base) I.ok.mod.kin hk (thn z ?_) he hpl
  rintro us s1 ⟨vs, H1, I1, r, q⟩
  exact ⟨I1.kIn, runG F hr gd hb hd hx I1 r q⟩
theorem pe_callG0 (F : FnG X.prog X.w X.K X.mg X.base CX k f fd ps sp) (hr : Room k X.A) (gd : X.A.guards = some [])
    (hg : Gl X x) (hm : X.mg x = some (.ref f)) (hk : PySem.W.keepIn X.K (.ref f) = true) (hb : Binds X.K fd ps ds)
    (hd : Vals dvs ds) (hx : Passes CX X E) (hdb : (x == ("__debug__" : Str)) = false := by decide) :
    PE X (.Call (.Name x p) [] [] pos) (tCall sp dvs E tNil) := by
  constructor
  intro pins s σ H Q I h
  refine wpAny_Call_Name_kw (ld_glob I hg hm ?_ hdb)
  have z := runG (us := []) F hr gd hb hd hx I .nil h
  exact PySem.W.callWith_K0 I.kIn hk z
end

/-- a def by its body -/
theorem fnG_of {CX : CXT} {P : Program} {w : World} {K : PySem.W.Frag} {mg : Str → Option Value} {base : Heap}
    {k : Nat} {f : Addr} {name qual : Str} {params : Arguments} {body : List Stmt} {scope : Scope}
    {dV kV doc pm cdv ct oc : Value} {an od : Option Addr} {osl : Array (Option Value)} {N ps : List Str} {sp : Sp}
    (lk : K.lookup f = some ⟨oc, od, .func (PySem.W.fnOf name qual params body scope dV kV doc pm an cdv ct), osl⟩)
    (hcd : PySem.W.codeIn K cdv qual = true) (S : FnScope N ps scope)
    (len : ∀ vs H Q E, sp vs H Q E → vs.length = ps.length)
    (hbody : ∀ (A : Around) (outer : List Env) (s : Shared) (H : Hp) (vs : List V) (Q : VK) (E : XK),
      Room k (A.deeper (envOfC qual scope s.heap.objs.size f cdv)) → A.guards = some [] → sp vs H Q E →
      ∃ t, PSs (cxOf CX P w K mg base N qual scope f cdv A outer s H E) body t ∧
        t { nx := fun _ H' => Q .non H', rt := Q } (start N vs) H) :
    FnG P w K mg base CX (k + 1) f (PySem.W.fnOf name qual params body scope dV kV doc pm an cdv ct) ps sp := by
  constructor
  · exact len
  intro A outer s H args us vs Q E hr gd e0 hb r hsp
  have old : ∀ b o, base.get? b = some o → s.heap.get? b = some o := fun b o e => (e0.bs b o e).1
  have KX : K.In s.heap := e0.mod.kin.keeps old
  have lim : s.heap.NoLimit := e0.mod.nolimit.keeps old
  have hkind : ∀ y ∈ ps.zip us, scope.names.lookup y.1 = some .local ∨
      (scope.names.lookup y.1 = some .cell ∧
        ((cellsFrom (s.heap.objs.size + 1) scope.names []).lookup y.1).isSome = true) := by
    rintro ⟨n, v⟩ hy
    have hn := (List.of_mem_zip hy).1
    rcases S.par n hn with q | q
    · exact Or.inl q
    · exact Or.inr ⟨q, PySem.W.cellsFrom_some _ _ _ (Or.inl q)⟩
  refine codeAny_call_function hr.depth (KX _ _ lk) rfl S.co S.gen rfl (PySem.W.codeRec_of KX hcd) (hb _ _ _ _ ?_)
  refine wpAny_newFunctionEnv_cells S.kind hkind ?_
  rintro env rfl s1 x
  refine ⟨lim.keeps x.toInCall.keep, codeAny_func ?_⟩
  obtain ⟨t, ht, hq⟩ := hbody A outer s H vs Q E (hr.deeper _) gd hsp
  have I := inv_start (CX := CX) (E := E) S hr.hd e0 (len _ _ _ _ hsp) r x
  refine wpAny_mono (ht.run [] s1 (start N vs) H _ I hq) ?_ (fun _ _ z => z)
  intro fl s' hs
  match fl, hs with
  | .ret u, ⟨v, σ', H', J, rv, q⟩ => exact ⟨v, H', J.os, J.bare, J.base, J.hok, rv, q⟩
  | .next, ⟨σ', H', J, q⟩ => exact ⟨V.non, H', J.os, J.bare, J.base, J.hok, rfl, q⟩
  | .brk, ⟨_, _, _, q⟩ => exact False.elim q
  | .cont, ⟨_, _, _, q⟩ => exact False.elim q

section
variable {P : Program} {w : World} {K : PySem.W.Frag} {mg : Str → Option Value} {base : Heap}
theorem okG {x qual : Str} {st : Stmt} {f : Addr} {fd : FuncData} {N ps : List Str} {k : Nat} {sp : Sp}
    (F : Fun K x qual st f fd) (S : FnScope N ps (defScope st))
    (len : ∀ vs H Q E, sp vs H Q E → vs.length = ps.length)
    (hbody : ∀ (cdv : Value) (A : Around) (outer : List Env) (s : Shared) (H : Hp) (vs : List V) (Q : VK) (E : XK),
      Room k (A.deeper (envOfC qual (defScope st) s.heap.objs.size f cdv)) → A.guards = some [] → sp vs H Q E →
      ∃ t, PSs (cxOf CX0 P w K mg base N qual (defScope st) f cdv A outer s H E).nox (defBody st) t ∧
        t { nx := fun _ H' => Q .non H', rt := Q } (start N vs) H) :
    FnG P w K mg base CX0 (k + 1) f fd ps sp := by
  obtain ⟨oc, od, kV, doc, pm, an, cdv, ct, osl, e, lk, hcd⟩ := F.ex
  subst e
  refine fnG_of lk hcd S len ?_
  intro A outer s H vs Q E hr gd hsp
  obtain ⟨t, h, q⟩ := hbody cdv A outer s H vs Q E hr gd hsp
  exact ⟨t, h.nox, q⟩
end

/-! ### the end of a law, by such a promise -/
theorem law_end {P : Program} {w : World} {K : PySem.W.Frag} {mg mb : Str → Option Value} {CX : CXT} {k : Nat}
    {fa a : Addr} {fd : FuncData} {x : Str} {sp : Sp} {s₁ : Shared} {vs : List Value} {ns : List Int}
    (KX : K.In s₁.heap) (hns : s₁.heap.Ns mainGlobals mg) (hb : s₁.heap.Ns builtinsNs mb)
    (hbb : ∀ x : Str, x ≠ "__name__" → mb x = bootBuiltins x) (hlim : s₁.heap.NoLimit) (hg : s₁.gens = #[])
    (ha : s₁.heap.get? a = some { cls := .type "list", data := .seq vs.toArray }) (hi : IntsAre vs ns)
    (hl : ns.length ≤ sizeLine) (hr : Room k callerA) (hsm : ∃ mm, s₁.heap.Ns sysModules mm)
    (F : ∀ base : Heap, K.In base → base.Ns mainGlobals mg → (∃ mm, base.Ns sysModules mm) → FnG P w K mg base CX k fa fd [x] sp)
    (hbind : ∀ (s : Shared) (u : Value), BindsTo s fd ⟨[u], []⟩ [(x, u)])
    (hsp : ∀ H : Hp, Only H → SqL K H a (ns.map V.int) → sp [.ref a] H (fun v _ => v = .bl true) fun _ _ _ => False)
    (hCX : ∀ H e s', CX [] H s₁ (fun _ _ _ => False) e s' → False) :
    codeAny (model P w) callerA (.call (.ref fa) ⟨[.ref a], []⟩)
      (fun r s' => r = .ok (.ret (.bool true)) ∧ OldK s₁.heap s'.heap ∧ s'.os = s₁.os ∧ AllBare s'.gens) s₁ := by
  have rv := vals_ints hi
  have lenV := hi.length
  have core : ∀ H : Hp, Only H → SqL K H a (ns.map V.int) → HOk P w H s₁.heap → (∀ b, H b ≠ none → b = a) →
      (H a ≠ none → K.lookup a = none) →
      codeAny (model P w) callerA (.call (.ref fa) ⟨[.ref a], []⟩)
        (fun r s' => r = .ok (.ret (.bool true)) ∧ OldK s₁.heap s'.heap ∧ s'.os = s₁.os ∧ AllBare s'.gens) s₁ := by
    intro H hO hS hok hA hK
    have at_a : ∀ {b : Addr} {u : HO}, H b = some u → b = a := fun {b u} q => hA b (by rw [q]; simp)
    have noA : ∀ {b : Addr} {o : Obj} {es : Array DictEntry} {ep : Nat}, s₁.heap.get? b = some o →
        o.data = .dict es ep → H b = none := by
      intro b o es ep e d
      cases q : H b with
      | none => rfl
      | some u =>
        rw [at_a q, ha] at e
        cases e
        exact nomatch d
    have nsK : ∀ {b : Addr} {m : Str → Option Value}, s₁.heap.Ns b m → (hidT s₁.heap H).Ns b m := by
      rintro b m ⟨o, es, ep, e, d, r⟩
      exact ⟨o, es, ep, hidT_get e (noA e d), d, r⟩
    have hKb : K.In (hidT s₁.heap H) := by
      intro b o e
      refine hidT_get (KX b o e) ?_
      cases q : H b with
      | none => rfl
      | some u =>
        have e' := at_a q
        subst e'
        rw [hK (by rw [q]; simp)] at e
        cases e
    have hM : Mod K mg (hidT s₁.heap H) := by
      obtain ⟨mc, h1, h2⟩ := hlim
      exact ⟨hKb, nsK hns, ⟨mb, nsK hb, hbb⟩, ⟨mc, nsK h1, h2⟩⟩
    have e0 : Env0 P w K mg (hidT s₁.heap H) callerA [] s₁ H := by
      refine ⟨rfl, hM, fun b o e => of_hidT e, Nat.le_of_eq (hidT_size _ _), trivial, ?_, hok, .of_eq hg⟩
      intro b hb
      exact absurd (show b ∈ ([] : List Addr) from hb) (by simp)
    have hmods : ∃ mm, (hidT s₁.heap H).Ns sysModules mm := by
      obtain ⟨mm, h1⟩ := hsm
      exact ⟨mm, nsK h1⟩
    have z := (F _ hKb (nsK hns) hmods).go callerA [] s₁ H ⟨[.ref a], []⟩ [.ref a] [.ref a] _ _ hr rfl e0
      (hbind s₁ (.ref a)) (.cons rfl .nil) (hsp H hO hS)
    refine codeAny_mono z fun r s' h => ?_
    match r, h with
    | .error e, h => exact (hCX H e s' h).elim
    | .ok .next, h => exact False.elim h
    | .ok .brk, h => exact False.elim h
    | .ok .cont, h => exact False.elim h
    | .ok (.ret u), ⟨v, H', os, bare, un, hok', r', q⟩ =>
      have q' : v = .bl true := q
      subst q'
      obtain rfl : u = Value.bool true := r'
      refine ⟨rfl, OldK.of_keep ?_, os, bare⟩
      intro b o e
      cases q : H b with
      | none =>
        refine un.keep b o e q ?_ (by simp)
        intro z
        exact absurd (show b ∈ ([] : List Addr) from z) (by simp)
      | some u =>
        rcases hO b with z | ⟨ob, xs, z⟩
        · rw [q] at z
          cases z
        · obtain ⟨e1, _⟩ := hok b _ z
          obtain ⟨e2, _⟩ := hok' b _ (un.frzs b ob _ z)
          rw [e] at e1
          cases e1
          exact e2
  cases hk : K.lookup a with
  | some o =>
    have e := KX a o hk
    rw [ha] at e
    cases e
    refine core (fun _ => none) (fun _ => Or.inl rfl) (Or.inr ⟨_, vs.toArray, _, hk, rfl, rfl, rfl, ?_, ?_⟩) ?_ ?_ ?_
    · rw [List.size_toArray, lenV]
      exact hl
    · simpa using rv
    · intro b u z
      cases (show (none : Option HO) = some u from z)
    · intro b z
      exact absurd rfl z
    · intro z
      exact absurd rfl z
  | none =>
    let o₁ : Obj := { cls := .type "list", data := .seq vs.toArray }
    let H₁ : Hp := fun b => if b = a then some (.frz o₁ (.lst (ns.map V.int))) else none
    have at1 : H₁ a = some (.frz o₁ (.lst (ns.map V.int))) := if_pos rfl
    have off : ∀ b, b ≠ a → H₁ b = none := fun b h => if_neg h
    refine core H₁ (fun b => ?_) (Or.inl (Or.inr ⟨o₁, at1⟩)) (fun b u z => ?_) (fun b z => ?_) fun _ => hk
    · by_cases hb : b = a
      · subst hb
        exact Or.inr ⟨_, _, at1⟩
      · exact Or.inl (off b hb)
    · by_cases hb : b = a
      · subst hb
        rw [at1] at z
        cases z
        refine ⟨ha, ?_, vs, _, rv, ha⟩
        rw [List.length_map]
        exact hl
      · rw [off b hb] at z
        cases z
    · by_cases hb : b = a
      · exact hb
      · exact absurd (off b hb) z

theorem walkG {l : PySem.W.OpenLaw} {n k : Nat} {q : Program} {loose : List Str} {XP : (Str → Option Value) → Heap → Prop}
    {YP : World → Heap → Prop} {d : DefRec} {K : Params → PySem.W.Frag} {CX : CXT} {sp : PySem.W.Frag → Sp} {x : Str}
    (hq : importsNone q = true) (hn : l.most = some n) (hn2 : n ≤ sizeLine) (hdf : d.params.defaults = []) (hr : Room k callerA)
    (hY : ∀ (w : World) (h : Heap), YP w h → (K w.params).In h)
    (F : ∀ (w : World) (mg : Str → Option Value) (fa : Addr) (h : Heap), (K w.params).In h → h.Ns mainGlobals mg →
      mg d.name = some (.ref fa) →
      ∃ fd : FuncData, (∀ (s : Shared) (u : Value), BindsTo s fd ⟨[u], []⟩ [(x, u)]) ∧
        ∀ base : Heap, (K w.params).In base → base.Ns mainGlobals mg → (∃ mm, base.Ns sysModules mm) →
          FnG l.prog w (K w.params) mg base CX k fa fd [x] (sp (K w.params)))
    (hsp : ∀ (K : PySem.W.Frag) (H : Hp) (a : Addr) (ns : List Int), ns.length ≤ n → Only H →
      SqL K H a (ns.map V.int) → sp K [.ref a] H (fun v _ => v = .bl true) fun _ _ _ => False)
    (hCX : ∀ (H : Hp) (s : Shared) (e : Value) (s' : Shared), CX [] H s (fun _ _ _ => False) e s' → False) :
    PySem.W.WalkO q loose XP YP l.row.toRowW d [] (fun f vs => PySem.call f vs) := by
  refine Att.attach_call hn hdf ?_
  intro w s₀ s₁ mg mb fa o pm cd doc a vs ns G Y ho hd hcd hmg hobj hints hlen hg
  have KX := hY w _ Y
  obtain ⟨fd, hb, hF⟩ := F w mg fa _ KX G.T.g hmg
  have hz := Nat.le_trans hlen hn2
  obtain ⟨mm, hmm, _⟩ := (G.T.seer hq).mods
  refine law_end KX G.T.g G.T.b G.T.builtins G.T.nolimit hg hobj hints hz hr ⟨mm, hmm⟩ hF hb ?_ ?_
  · exact fun H hO hS => hsp _ H a ns hlen hO hS
  · exact fun H e s' => hCX H s₁ e s'

/-! ### powers of great numbers -/
def CPowG (i j : Int) : Prop := 0 ≤ j ∧ (Builtin.Int.intBits i : Int) * j ≤ 2 ^ 27
theorem op_powG {X : Cx} : OpR X (binaryOp .Pow) (rI CPowG fun i j => .int (i ^ j.toNat)) :=
  opI fun _ _ _ _ _ _ _ hc q => pow_int hc.1 hc.2 q

/-! ### data at any depth, dicts among them -/
def kD : Key → PyData
  | .inl i => .int i
  | .inr x => .str x
mutual
inductive Da (K : PySem.W.Frag) (H : Hp) : V → PyData → Prop
  | non : Da K H .non .none
  | bl (b : Bool) : Da K H (.bl b) (.bool b)
  | int (i : Int) : Da K H (.int i) (.int i)
  | str (x : Str) : Da K H (.str x) (.str x)
  | lst {a : Addr} {xs : List V} {ds : List PyData} (h : SqL K H a xs) (t : DaAll K H xs ds) : Da K H (.ref a) (.list ds)
  | tup {a : Addr} {xs : List V} {ds : List PyData} (h : SqT K H a xs) (t : DaAll K H xs ds) : Da K H (.ref a) (.tuple ds)
  | dic {a : Addr} {kvs : List (Key × V)} {ds : List (PyData × PyData)} (h : H a = some (.dK kvs)) (t : DaKv K H kvs ds) : Da K H (.ref a) (.dict ds)
inductive DaAll (K : PySem.W.Frag) (H : Hp) : List V → List PyData → Prop
  | nil : DaAll K H [] []
  | cons {v : V} {vs : List V} {d : PyData} {ds : List PyData} (h : Da K H v d) (t : DaAll K H vs ds) : DaAll K H (v :: vs) (d :: ds)
inductive DaKv (K : PySem.W.Frag) (H : Hp) : List (Key × V) → List (PyData × PyData) → Prop
  | nil : DaKv K H [] []
  | cons {k : Key} {v : V} {kvs : List (Key × V)} {d : PyData} {ds : List (PyData × PyData)} (h : Da K H v d) (t : DaKv K H kvs ds) :
      DaKv K H ((k, v) :: kvs) ((kD k, d) :: ds)
end
section
variable {K : PySem.W.Frag} {H H' : Hp}
theorem seqT_mono (s : Same H H') {a : Addr} {xs : List V} (h : SqT K H a xs) : SqT K H' a xs := by
  rcases h with (e | ⟨o, e⟩) | e
  · exact .inl (.inl (s _ _ e))
  · exact .inl (.inr ⟨o, s _ _ e⟩)
  · exact .inr e
mutual
theorem Da.mono (s : Same H H') : ∀ {v : V} {d : PyData}, Da K H v d → Da K H' v d
  | _, _, .non => .non
  | _, _, .bl b => .bl b
  | _, _, .int i => .int i
  | _, _, .str x => .str x
  | _, _, .lst h t => .lst (s.seq h) (DaAll.mono s t)
  | _, _, .tup h t => .tup (seqT_mono s h) (DaAll.mono s t)
  | _, _, .dic h t => .dic (s _ _ h) (DaKv.mono s t)
theorem DaAll.mono (s : Same H H') : ∀ {vs : List V} {ds : List PyData}, DaAll K H vs ds → DaAll K H' vs ds
  | _, _, .nil => .nil
  | _, _, .cons h t => .cons (Da.mono s h) (DaAll.mono s t)
theorem DaKv.mono (s : Same H H') : ∀ {vs : List (Key × V)} {ds : List (PyData × PyData)}, DaKv K H vs ds → DaKv K H' vs ds
  | _, _, .nil => .nil
  | _, _, .cons h t => .cons (Da.mono s h) (DaKv.mono s t)
end
end
section
variable {X : Cx} {pins : List (Addr × Obj)} {σ : L2.St} {H : Hp} {s : Shared}
theorem key_reads {h : Heap} {k : Key} {u : Value} (e : keyIs k u = true) : Reads h u (kD k) [] := by
  rcases keyIs_shape e with ⟨i, t, rfl, rfl⟩ | ⟨x, t, rfl, rfl⟩
  · exact .int i t
  · exact .str x t
/-- a list does not stand where the modules' dict stands -/
theorem not_mods (hm : ∃ mm, X.base.Ns sysModules mm) (I : Inv X pins σ H s) {a : Addr} {o : Obj} {vs : Array Value} {n : Nat}
    (ho : s.heap.get? a = some o) (hd : o.data = .seq vs n) : sysModules ≠ a := by
  rintro rfl
  obtain ⟨mm, om, es, ep, e1, e2, _⟩ := hm
  have e3 := I.bk _ _ e1
  rw [ho] at e3
  cases e3
  rw [hd] at e2
  cases e2
mutual
theorem Da.reads (hm : ∃ mm, X.base.Ns sysModules mm) (I : Inv X pins σ H s) : ∀ (d : PyData) (v : V) (u : Value), Da X.K H v d → RelV v u → ∃ as, Reads s.heap u d as ∧ sysModules ∉ as
  | .none, _, _, h, r => by
    cases h
    cases r
    exact ⟨_, .none, by simp⟩
  | .bool b, _, _, h, r => by
    cases h
    cases r
    exact ⟨_, .bool b, by simp⟩
  | .int i, _, _, h, r => by
    cases h
    obtain ⟨t, rfl⟩ := r
    exact ⟨_, .int i t, by simp⟩
  | .str x, _, _, h, r => by
    cases h
    obtain ⟨t, rfl⟩ := r
    exact ⟨_, .str x t, by simp⟩
  | .list ds, _, _, h, r => by
    cases h with
    | lst hs ha =>
      cases r
      obtain ⟨its, rv, ⟨o, n, ho, hc, _, hd⟩, _⟩ := I.list hs
      obtain ⟨as, hr, no⟩ := Da.readsAll hm I ds _ its ha rv
      refine ⟨_, .list ho hc hd hr, ?_⟩
      rw [List.mem_cons, not_or]
      exact ⟨not_mods hm I ho hd, no⟩
  | .tuple ds, _, _, h, r => by
    cases h with
    | tup hs ha =>
      cases r
      obtain ⟨its, rv, ⟨o, ho, hc, n, hd⟩, _⟩ := I.tuple hs
      obtain ⟨as, hr, no⟩ := Da.readsAll hm I ds _ its ha rv
      exact ⟨_, .tuple ho hc hd hr, no⟩
  | .dict ds, _, _, h, r => by
    cases h with
    | @dic a kvs _ he hk =>
      cases r
      have ok : ObjOk X.prog X.w H s.heap a (.dK kvs) := I.hok a _ he
      obtain ⟨_, ns, vs, kv, o, es, ep, ho, ex, hd, _, ps, _⟩ := ok
      obtain ⟨as, bs, h1, h2, n1, n2⟩ := Da.readsKv hm I ds kvs vs es.toList hk kv ps
      refine ⟨_, .dict ho ex.1 hd h1 h2, ?_⟩
      rw [List.mem_append, List.mem_cons, not_or, not_or]
      refine ⟨⟨fun z => ?_, n1⟩, n2⟩
      rw [← z] at ns
      exact absurd ns (by decide)
theorem Da.readsAll (hm : ∃ mm, X.base.Ns sysModules mm) (I : Inv X pins σ H s) : ∀ (ds : List PyData) (vs : List V) (us : List Value), DaAll X.K H vs ds → Vals vs us → ∃ as, ReadsAll s.heap us ds as ∧ sysModules ∉ as
  | [], _, _, h, r => by
    cases h
    cases r
    exact ⟨_, .nil, by simp⟩
  | d :: ds, _, _, h, r => by
    cases h with
    | cons h1 h2 =>
      cases r with
      | cons r1 r2 =>
        obtain ⟨as, q1, n1⟩ := Da.reads hm I d _ _ h1 r1
        obtain ⟨bs, q2, n2⟩ := Da.readsAll hm I ds _ _ h2 r2
        refine ⟨_, .cons q1 q2, ?_⟩
        rw [List.mem_append, not_or]
        exact ⟨n1, n2⟩
theorem Da.readsKv (hm : ∃ mm, X.base.Ns sysModules mm) (I : Inv X pins σ H s) : ∀ (ds : List (PyData × PyData)) (kvs : List (Key × V)) (vs : List (Key × Value)) (es : List DictEntry), DaKv X.K H kvs ds → KV kvs vs →
    Pairs (mixKind X.prog X.w) es vs → ∃ as bs, ReadsAll s.heap (es.map (·.key)) (ds.map (·.1)) as ∧ ReadsAll s.heap (es.map (·.val)) (ds.map (·.2)) bs ∧ sysModules ∉ as ∧ sysModules ∉ bs
  | [], _, _, _, h, r, p => by
    cases h
    cases r
    cases p
    exact ⟨_, _, .nil, .nil, by simp, by simp⟩
  | d :: ds, _, _, _, h, r, p => by
    cases h with
    | cons h1 h2 =>
      cases r with
      | cons r1 r2 =>
        cases p with
        | cons p1 p2 p3 =>
          obtain ⟨e1, e2⟩ := r1
          obtain ⟨as, q1, n1⟩ := Da.reads hm I _ _ _ h1 e2
          obtain ⟨cs, bs, q2, q3, n2, n3⟩ := Da.readsKv hm I ds _ _ _ h2 r2 p3
          rw [← p2] at q1
          rw [← e1] at p1
          refine ⟨_, _, .cons (key_reads p1) q2, .cons q1 q3, by simpa using n2, ?_⟩
          rw [List.mem_append, not_or]
          exact ⟨n1, n3⟩
end
end
/-! ### repr of data -/
def rRepr (K : PySem.W.Frag) : List V → Hp → VK → Prop := fun xs H Q =>
  ∃ (a : Addr) (d : PyData), xs = [.ref a] ∧ Da K H (.ref a) d ∧ d.showable = true ∧ d.depth ≤ 64 ∧ d.shown.length ≤ sizeLine ∧ Q (.str d.shown) H
theorem call_repr {X : Cx} (hm : ∃ mm, X.base.Ns sysModules mm) (gd : X.A.guards = some []) (hu : X.A.units + 70 < cLine) :
    CallR X (.builtin "repr") (rRepr X.K) := by
  intro pins s σ H xs us Q I r h
  obtain ⟨a, d, rfl, hs, sh, dp, sz, q⟩ := h
  cases r with
  | cons r1 r2 =>
    cases r2
    obtain ⟨as, rd, sy⟩ := Da.reads hm I d _ _ hs r1
    obtain rfl := r1
    refine repr_of_reads' rd sh (fun _ => sy) gd (by omega) (fun _ _ e => e) (fun h' u tk k => ?_) sz
    exact ⟨.str d.shown, H, I.kept (h' := h') (t' := tk) k, ⟨u, rfl⟩, q⟩
end Ev

/-! ## What an expression gives, while all that is tracked stands -/
namespace Ev
open PySem PySem.Spec PyProof.Rows L2
theorem PE.imp {X : Cx} {e : Expr} {t t' : TE} (h : PE X e t) (i : ∀ σ H Q, t' σ H Q → t σ H Q) : PE X e t' :=
  ⟨fun pins s σ H Q I z => h.run pins s σ H Q I (i σ H Q z)⟩
theorem Same.rfl' {H : Hp} : Same H H := fun _ _ e => e
theorem same_put {H : Hp} {p : Addr} {o : HO} (h : H p = none) : Same H (upd H p o) := fun b x e => by
  rw [upd_ne (ne_of_none e h)]
  exact e
/-- all but p stands as it stood -/
def Bu (p : Addr) (H H' : Hp) : Prop := ∀ b o, b ≠ p → H b = some o → H' b = some o
theorem Bu.refl {p : Addr} {H : Hp} : Bu p H H := fun _ _ _ e => e
theorem Bu.trans {p : Addr} {H H1 H2 : Hp} (h : Bu p H H1) (k : Bu p H1 H2) : Bu p H H2 := fun b o n e => k b o n (h b o n e)
theorem Bu.put {p : Addr} {H : Hp} {o : HO} : Bu p H (upd H p o) := fun b _ n e => by
  rw [upd_ne n]
  exact e
theorem Bu.new {p q : Addr} {H : Hp} {o : HO} (h : H q = none) : Bu p H (upd H q o) := fun b _ _ e => by
  rw [upd_ne (ne_of_none e h)]
  exact e
theorem Bu.of {p : Addr} {H H' : Hp} (h : Same H H') : Bu p H H' := fun b o _ e => h b o e
structure GP where
  p : Hp → V → Prop
  mono : ∀ {H H' : Hp} {u : V}, Same H H' → p H u → p H' u
def AllG (Gs : List GP) (H : Hp) (us : List V) : Prop := Paired (fun (G : GP) u => G.p H u) Gs us
theorem AllG.mono {H H' : Hp} (s : Same H H') : ∀ {Gs : List GP} {us : List V}, AllG Gs H us → AllG Gs H' us
  | _, _, .nil => .nil
  | G :: _, _, .cons h t => .cons (G.mono s h) (AllG.mono s t)
theorem AllG.append {H : Hp} : ∀ {Gs Gs' : List GP} {us us' : List V}, AllG Gs H us → AllG Gs' H us' → AllG (Gs ++ Gs') H (us ++ us')
  | _, _, _, _, .nil, k => k
  | _ :: _, _, _, _, .cons h t, k => .cons h (AllG.append t k)
def gEq (v : V) : GP := ⟨fun _ u => u = v, fun _ h => h⟩
def gLst (Gs : List GP) : GP := ⟨fun H u => ∃ p us, u = .ref p ∧ H p = some (.lst us) ∧ AllG Gs H us, fun s ⟨p, us, h1, h2, h3⟩ => ⟨p, us, h1, s _ _ h2, h3.mono s⟩⟩
def Gives (H0 : Hp) (te : TE) (G : GP) (σ : L2.St) : Prop := ∀ (H : Hp) (Q : VK), Same H0 H → (∀ H' u, Same H H' → G.p H' u → Q u H') → te σ H Q
def GivesL (H0 : Hp) (ta : TA) (Gs : List GP) (σ : L2.St) : Prop := ∀ (H : Hp) (Q : List V → Hp → Prop), Same H0 H → (∀ H' us, Same H H' → AllG Gs H' us → Q us H') → ta σ H Q
section
variable {H0 : Hp} {σ : L2.St} {te te' : TE} {ta : TA} {G : GP} {Gs Gs' : List GP} {i : Nat} {v : V} {C : Addr} {D : Ends} {rest : TS}
theorem g_nil : GivesL H0 tNil [] σ := fun H Q _ q => q H [] Same.rfl' .nil
theorem g_cons (h : Gives H0 te G σ) (t : GivesL H0 ta Gs σ) : GivesL H0 (tCons te ta) (G :: Gs) σ := fun H Q s q =>
  h H _ s fun H1 u s1 g1 => t H1 _ (s.trans s1) fun H2 us s2 g2 => q H2 (u :: us) (s1.trans s2) (.cons (G.mono s2 g1) g2)
theorem g_lst (h : GivesL H0 ta Gs σ) (hz : Gs.length ≤ 1000 := by simp) : Gives H0 (tLst ta) (gLst Gs) σ := fun H Q s q =>
  h H _ s fun H1 us s1 g1 => by
    have hl : us.length = Gs.length := (Paired.length g1).symm
    refine ⟨?_, fun p np => ?_⟩
    · have y := sizeLine_eq
      omega
    · have s2 := same_put (o := .lst us) np
      exact q _ _ (s1.trans s2) ⟨p, us, rfl, upd_same, g1.mono s2⟩
theorem g_cat (h : Gives H0 te (gLst Gs) σ) (h' : Gives H0 te' (gLst Gs') σ) (hz : Gs.length + Gs'.length ≤ 1000 := by simp) :
    Gives H0 (tOp rCat te te') (gLst (Gs ++ Gs')) σ := fun H Q s q =>
  h H _ s fun H1 u s1 ⟨p, us, e1, h1, g1⟩ => h' H1 _ (s.trans s1) fun H2 u' s2 ⟨p', us', e2, h2, g2⟩ => by
    have l1 : us.length = Gs.length := (Paired.length g1).symm
    have l2 : us'.length = Gs'.length := (Paired.length g2).symm
    refine ⟨p, p', us, us', e1, e2, s2 _ _ h1, h2, ?_, fun r nr => ?_⟩
    · have y := sizeLine_eq
      omega
    · have s3 := same_put (o := .lst (us ++ us')) nr
      exact q _ _ ((s1.trans s2).trans s3) ⟨r, us ++ us', rfl, upd_same, AllG.append (g1.mono (s2.trans s3)) (g2.mono s3)⟩
theorem g_var (hv : σ[i]? = some (some v)) (g : G.p H0 v) : Gives H0 (tVar i) G σ := fun H Q s q => ⟨v, hv, q H v Same.rfl' (G.mono s g)⟩
theorem g_eq (hv : σ[i]? = some (some v)) : Gives H0 (tVar i) (gEq v) σ := g_var hv rfl
theorem s_set (h : Gives H0 te G σ) (k : ∀ H' u, Same H0 H' → G.p H' u → rest D (σ.set i (some u)) H') : tSeq (tAsg te (gName i)) rest D σ H0 :=
  h H0 _ Same.rfl' fun H' u s g => k H' u s g
theorem s_ret (h : Gives H0 te G σ) (k : ∀ H' u, Same H0 H' → G.p H' u → D.rt u H') : tRet te D σ H0 :=
  h H0 _ Same.rfl' fun H' u s g => k H' u s g
end
/-- the abstract heap without p -/
def but (H : Hp) (p : Addr) : Hp := fun b => if b = p then none else H b
theorem but_ne {H : Hp} {p b : Addr} (h : b ≠ p) : but H p b = H b := if_neg h
theorem but_same {H H' : Hp} {p : Addr} (s : Same H H') : Same (but H p) (but H' p) := fun b o e => by
  by_cases h : b = p
  · rw [h] at e
    have z : but H p p = none := if_pos rfl
    rw [z] at e
    cases e
  · rw [but_ne h] at e ⊢
    exact s _ _ e
theorem but_le {H H' : Hp} {p : Addr} (s : Bu p H H') : Same (but H p) H' := fun b o e => by
  by_cases h : b = p
  · rw [h] at e
    have z : but H p p = none := if_pos rfl
    rw [z] at e
    cases e
  · rw [but_ne h] at e
    exact s _ _ h e
/-- data that do not hold p -/
def gDa (K : PySem.W.Frag) (p : Addr) (d : PyData) : GP := ⟨fun H u => Da K (but H p) u d, fun s h => h.mono (but_same s)⟩
section
variable {K : PySem.W.Frag} {p : Addr} {op : HO} {H0 : Hp} {σ : L2.St} {te : TE} {ta : TA} {G : GP} {Gs : List GP} {v : V} {d : PyData} {ds : List PyData}
theorem ne_new {H : Hp} {q : Addr} (hp : H0 p = some op) (s : Same H0 H) (nq : H q = none) : q ≠ p := fun z => by
  rw [z, s _ _ hp] at nq
  cases nq
theorem g_c (h : ∀ H, G.p H v) : Gives H0 (tC v) G σ := fun H Q _ q => q H v Same.rfl' (h H)
theorem g_neg {i : Int} : Gives H0 (tUn (rU fun i => .int (-i)) (tC (.int i))) (gDa K p (.int (-i))) σ := fun H Q _ q => ⟨i, rfl, q H _ Same.rfl' (.int _)⟩
theorem g_pow {i j : Int} (h : CPow i j) : Gives H0 (tOp (rI CPow fun i j => .int (i ^ j.toNat)) (tC (.int i)) (tC (.int j))) (gDa K p (.int (i ^ j.toNat))) σ :=
  fun H Q _ q => ⟨i, j, rfl, rfl, h, q H _ Same.rfl' (.int _)⟩
theorem allDa {H : Hp} : ∀ {ds : List PyData} {us : List V}, AllG (ds.map (gDa K p)) H us → DaAll K (but H p) us ds
  | [], _, .nil => .nil
  | _ :: _, _, .cons h t => .cons h (allDa t)
theorem g_lstD (hp : H0 p = some op) (h : GivesL H0 ta (ds.map (gDa K p)) σ) (hz : ds.length ≤ 1000 := by simp) : Gives H0 (tLst ta) (gDa K p (.list ds)) σ := fun H Q s q =>
  h H _ s fun H1 us s1 g1 => by
    have hl : us.length = ds.length := by rw [← Paired.length g1, List.length_map]
    refine ⟨?_, fun r nr => ?_⟩
    · have y := sizeLine_eq
      omega
    · have s2 := same_put (o := .lst us) nr
      have ne := ne_new hp (s.trans s1) nr
      refine q _ _ (s1.trans s2) (.lst (.inl (.inl ?_)) ((allDa g1).mono (but_same s2)))
      rw [but_ne ne, upd_same]
theorem g_tupD (hp : H0 p = some op) (h : GivesL H0 ta (ds.map (gDa K p)) σ) (hz : ds.length ≤ 1000 := by simp) : Gives H0 (tTup ta) (gDa K p (.tuple ds)) σ := fun H Q s q =>
  h H _ s fun H1 us s1 g1 => by
    have hl : us.length = ds.length := by rw [← Paired.length g1, List.length_map]
    refine ⟨?_, fun r nr => ?_⟩
    · have y := sizeLine_eq
      omega
    · have s2 := same_put (o := .tup us) nr
      have ne := ne_new hp (s.trans s1) nr
      refine q _ _ (s1.trans s2) (.tup (.inl (.inl ?_)) ((allDa g1).mono (but_same s2)))
      rw [but_ne ne, upd_same]
theorem g_dnew (hp : H0 p = some op) : Gives H0 tDNewK (gDa K p (.dict [])) σ := fun H Q s q r nr => by
  refine q _ _ (same_put nr) (.dic ?_ .nil)
  rw [but_ne (ne_new hp s nr), upd_same]
theorem g_disp {x : Str} (hp : H0 p = some op) : Gives H0 (tDisp [(tC (.str x), tTup (tCons (tC .non) tNil))]) (gDa K p (.dict [(.str x, .tuple [.none])])) σ := fun H Q s q r nr => by
  refine ⟨(by show 1 ≤ sizeLine; decide), fun t nt => ?_⟩
  have ne : t ≠ r := fun z => by
    rw [z, upd_same] at nt
    cases nt
  have n1 := ne_new hp s nr
  have n2 := ne_new hp (s.trans (same_put nr)) nt
  refine ⟨by rw [upd_ne ne.symm, upd_same], [(.inr x, .ref t)], rfl, (by show 1 ≤ 15; decide), q _ _ ?_ (.dic (kvs := [(.inr x, .ref t)]) ?_ (.cons (.tup (xs := [.non]) (.inl (.inl ?_)) (.cons .non .nil)) .nil))⟩
  · intro b o e
    have nb : b ≠ r := ne_of_none e nr
    have nbt : b ≠ t := fun z => by
      rw [z] at e
      rw [upd_ne ne, e] at nt
      cases nt
    rw [upd_ne nb, upd_ne nbt, upd_ne nb]
    exact e
  · rw [but_ne n1]
    exact upd_same
  · rw [but_ne n2, upd_ne ne, upd_same]
theorem allEq {H : Hp} : ∀ {ys : List V}, AllG (ys.map gEq) H ys
  | [] => .nil
  | _ :: _ => .cons rfl allEq
/-- [elt for .. in xs], the elements plain values -/
theorem g_lcP {a : Addr} {xs ys : List V} {i : Nat} {g : TG} {vs : List Nat} (hi : σ[i]? = some (some (.ref a))) (hx : SqL K H0 a xs) (hz : xs.length ≤ 1000) (hl : ys.length = xs.length)
    (he : ∀ (j : Nat) (x y : V), xs[j]? = some x → ys[j]? = some y → ∀ (H : Hp) (R : VK), Same H0 H → R y H →
      g x (wipe σ vs) H fun σ2 H2 => wipe σ2 vs = wipe σ vs ∧ te σ2 H2 R) :
    Gives H0 (tLc (iList K (tVar i)) g tYes te vs) (gLst (ys.map gEq)) σ := fun H Q s q => by
  refine ⟨_, hi, a, rfl, ⟨xs, s.seq hx⟩, fun D nD => ?_⟩
  have sD : Same H (upd H D (.lst [])) := same_put nD
  have y := sizeLine_eq
  refine lc_list (K := K) (a := a) (xs := xs) (fun k H' => Same H H' ∧ H' D = some (.lst (ys.take k))) ⟨sD, upd_same⟩ (fun k H' _ ⟨s', _⟩ => s'.seq (s.seq hx)) ?_ ?_
  · rintro k x H' hk ⟨s', eD⟩
    have hk' : k < ys.length := by
      obtain ⟨h, _⟩ := List.getElem?_eq_some_iff.mp hk
      omega
    have hy := List.getElem?_eq_getElem hk'
    refine cast ?_ (he k x ys[k] hk hy H' (fun y H4 => ∃ acc, H4 D = some (.lst acc) ∧ acc.length < sizeLine ∧ Same H (upd H4 D (.lst (acc ++ [y]))) ∧ upd H4 D (.lst (acc ++ [y])) D = some (.lst (ys.take (k + 1)))) (s.trans s') ⟨_, eD, ?_, ?_, ?_⟩)
    · rfl
    · rw [List.length_take]
      omega
    · intro b o e
      rw [upd_ne (ne_of_none e nD)]
      exact s' _ _ e
    · rw [upd_same, List.take_add_one, hy]
      rfl
  · rintro H' ⟨s', eD⟩
    rw [← hl, List.take_length] at eD
    exact q H' _ s' ⟨D, ys, rfl, eD, allEq⟩
/-- [elt for i in range(m)], the elements plain values -/
theorem g_lcR {ys : List V} {m : Int} {g : TG} {vs : List Nat} (hm : -(2 ^ 62) ≤ m ∧ m < 2 ^ 62) (hl : ys.length = m.toNat) (hz : ys.length ≤ 1000)
    (he : ∀ (j : Nat) (y : V), ys[j]? = some y → ∀ (H : Hp) (R : VK), Same H0 H → R y H →
      g (.int (0 + j)) (wipe σ vs) H fun σ2 H2 => wipe σ2 vs = wipe σ vs ∧ te σ2 H2 R) :
    Gives H0 (tLc (iRng1 (tCons (tC (.int m)) tNil)) g tYes te vs) (gLst (ys.map gEq)) σ := fun H Q s q => by
  refine ⟨m, rfl, hm.1, hm.2, fun D nD => ?_⟩
  have sD : Same H (upd H D (.lst [])) := same_put nD
  have y := sizeLine_eq
  refine lc_range (lo := 0) (n := m.toNat) (fun k H' => Same H H' ∧ H' D = some (.lst (ys.take k))) ⟨sD, upd_same⟩ ?_ ?_
  · rintro k H' hk ⟨s', eD⟩
    have hk' : k < ys.length := by omega
    have hy := List.getElem?_eq_getElem hk'
    refine cast ?_ (he k ys[k] hy H' (fun y H4 => ∃ acc, H4 D = some (.lst acc) ∧ acc.length < sizeLine ∧ Same H (upd H4 D (.lst (acc ++ [y]))) ∧ upd H4 D (.lst (acc ++ [y])) D = some (.lst (ys.take (k + 1)))) (s.trans s') ⟨_, eD, ?_, ?_, ?_⟩)
    · rfl
    · rw [List.length_take]
      omega
    · intro b o e
      rw [upd_ne (ne_of_none e nD)]
      exact s' _ _ e
    · rw [upd_same, List.take_add_one, hy]
      rfl
  · rintro H' ⟨s', eD⟩
    rw [← hl, List.take_length] at eD
    exact q H' _ s' ⟨D, ys, rfl, eD, allEq⟩
/-! ### tests whose answer is known -/
def GivesT (H0 : Hp) (tt : TT) (b : Bool) (σ : L2.St) : Prop := ∀ (H : Hp) (Q : Bool → Hp → Prop), Same H0 H → (∀ H', Same H H' → Q b H') → tt σ H Q
theorem s_skip {tt : TT} {t rest : TS} {D : Ends} (h : GivesT H0 tt false σ) (k : ∀ H', Same H0 H' → rest D σ H') : tSeq (tIfS tt t tNext) rest D σ H0 :=
  h H0 _ Same.rfl' fun H' s => iteF (k H' s)
theorem s_skip1 {tt : TT} {t : TS} {D : Ends} (h : GivesT H0 tt false σ) (k : ∀ H', Same H0 H' → D.nx σ H') : tIfS tt t tNext D σ H0 :=
  h H0 _ Same.rfl' fun H' s => iteF (k H' s)
theorem g_repr (h : Gives H0 te G σ) (hd : ∀ H u, Same H0 H → G.p H u → ∃ a, u = .ref a ∧ Da K H u d) (h1 : d.showable = true) (h2 : d.depth ≤ 64) (h3 : d.shown.length ≤ sizeLine) :
    Gives H0 (tCB (rRepr K) (tCons te tNil)) (gEq (.str d.shown)) σ := fun H Q s q =>
  h H _ s fun H1 u s1 g1 => by
    obtain ⟨a, rfl, da⟩ := hd H1 u (s.trans s1) g1
    exact ⟨a, d, rfl, da, h1, h2, h3, q H1 _ s1 rfl⟩
theorem t_neS {te' : TE} {x : Str} (h : Gives H0 te (gEq (.str x)) σ) (h' : Gives H0 te' (gEq (.str x)) σ) : GivesT H0 (tTest (tOp rNe te te')) false σ := fun H Q s q =>
  h H _ s fun H1 u s1 e1 => h' H1 _ (s.trans s1) fun H2 u' s2 e2 => by
    have e1 : u = .str x := e1
    have e2 : u' = .str x := e2
    subst e1
    subst e2
    refine ⟨rfl, _, rfl, ?_⟩
    rw [decide_eq_true rfl]
    exact q H2 (s1.trans s2)
theorem dp_bools {H : Hp} : ∀ bs : List Bool, DpAll K H (bs.map V.bl) (bs.map PyData.bool)
  | [] => .nil
  | b :: bs => .cons (.bl b) (dp_bools bs)
theorem eqv_bools : ∀ bs : List Bool, PyData.eqvAll (bs.map PyData.bool) (bs.map PyData.bool) = true
  | [] => by simp [PyData.eqvAll]
  | b :: bs => by simp [PyData.eqvAll, PyData.eqv, eqv_bools bs]
theorem lay_bools : ∀ bs : List Bool, PyData.canLayAll0 (bs.map PyData.bool) = true
  | [] => by simp [PyData.canLayAll0]
  | b :: bs => by simp [PyData.canLayAll0, PyData.canLay0, lay_bools bs]
theorem depth_bools : ∀ bs : List Bool, PyData.depthAll (bs.map PyData.bool) = 0
  | [] => by simp [PyData.depthAll]
  | b :: bs => by simp [PyData.depthAll, PyData.depth, depth_bools bs]
theorem shaped_bools (bs : List Bool) : SeqAt.shaped (.list (bs.map PyData.bool)) = true := by
  show (PyData.canLay0 (.list (bs.map .bool)) && decide (PyData.depth (.list (bs.map .bool)) ≤ 64)) = true
  simp [PyData.canLay0, PyData.depth, lay_bools, depth_bools]
theorem all_bl {H : Hp} : ∀ {bs : List Bool} {us : List V}, AllG (bs.map fun b => gEq (.bl b)) H us → us = bs.map V.bl
  | [], _, .nil => rfl
  | _ :: _, _, .cons h t => by
    have h : _ = V.bl _ := h
    rw [h, all_bl t]
    rfl
theorem t_neB {te' : TE} {bs : List Bool} (h : Gives H0 te (gLst (bs.map fun b => gEq (.bl b))) σ) (h' : Gives H0 te' (gLst (bs.map fun b => gEq (.bl b))) σ) :
    GivesT H0 (tTest (tOp (rNeD K) te te')) false σ := fun H Q s q =>
  h H _ s fun H1 u s1 ⟨p1, us1, e1, l1, g1⟩ => h' H1 _ (s.trans s1) fun H2 u' s2 ⟨p2, us2, e2, l2, g2⟩ => by
    subst e1
    subst e2
    rw [all_bl g1] at l1
    rw [all_bl g2] at l2
    refine ⟨_, _, .lst (.inl (.inl (s2 _ _ l1))) (dp_bools bs), .lst (.inl (.inl l2)) (dp_bools bs), shaped_bools bs, shaped_bools bs, _, rfl, ?_⟩
    have z : PyData.eqv (.list (bs.map .bool)) (.list (bs.map .bool)) = true := by
      simp only [PyData.eqv]
      exact eqv_bools bs
    rw [z]
    exact q H2 (s1.trans s2)
theorem t_not {tt : TT} {b : Bool} (h : GivesT H0 tt b σ) : GivesT H0 (tNot tt) (!b) σ := fun H Q s q => h H _ s q
theorem t_orF {tt uu : TT} (h : GivesT H0 tt false σ) (k : GivesT H0 uu false σ) : GivesT H0 (tOr tt uu) false σ := fun H Q s q =>
  h H _ s fun H1 s1 => iteF (k H1 Q (s.trans s1) fun H2 s2 => q H2 (s1.trans s2))
end
section
variable {K : PySem.W.Frag} {p : Addr} {H0 : Hp} {σ : L2.St}
theorem g_nonD : Gives H0 (tC .non) (gDa K p .none) σ := g_c fun _ => Da.non
theorem g_blD {b : Bool} : Gives H0 (tC (.bl b)) (gDa K p (.bool b)) σ := g_c fun _ => Da.bl b
theorem g_intD {i : Int} : Gives H0 (tC (.int i)) (gDa K p (.int i)) σ := g_c fun _ => Da.int i
theorem g_strD {x : Str} : Gives H0 (tC (.str x)) (gDa K p (.str x)) σ := g_c fun _ => Da.str x
end
theorem sum_le_all (m : Nat) : ∀ l : List Nat, (∀ n ∈ l, n ≤ m) → l.sum ≤ m * l.length
  | [], _ => by simp
  | n :: l, h => by
    have h1 := h n (List.mem_cons_self ..)
    have h2 := sum_le_all m l fun k hk => h k (List.mem_cons_of_mem _ hk)
    rw [List.sum_cons, List.length_cons, Nat.mul_succ]
    omega
theorem mem_all {H : Hp} : ∀ {Gs : List GP} {us : List V}, AllG Gs H us → ∀ v ∈ us, ∃ G ∈ Gs, G.p H v
  | _, _, .nil, _, h => nomatch h
  | G :: _, _, .cons h t, v, hv => by
    rcases List.mem_cons.mp hv with rfl | hv
    · exact ⟨G, List.mem_cons_self .., h⟩
    · obtain ⟨G', h1, h2⟩ := mem_all t v hv
      exact ⟨G', List.mem_cons_of_mem _ h1, h2⟩
theorem all_eq {H : Hp} : ∀ {ys us : List V}, AllG (ys.map gEq) H us → us = ys
  | [], _, .nil => rfl
  | _ :: _, _, .cons h t => by
    have h : _ = _ := h
    rw [h, all_eq t]
end Ev

/-! ## General steps -/
namespace Ev
open PySem PySem.Spec PyProof.Rows L2
section
variable {K : PySem.W.Frag} {B H0 : Hp} {σ : L2.St} {te tf : TE} {ta : TA} {i : Nat} {x v : V} {d : PyData} {ds : List PyData} {b c : Bool} {T : String} {tt uu : TT} {t rest : TS} {D : Ends} {a : Addr} {xs : List V} {k : Int} {G : GP}
theorem t_or (h : GivesT H0 tt b σ) (k : b = false → GivesT H0 uu c σ) : GivesT H0 (tOr tt uu) (b || c) σ := fun H Q s q =>
  h H _ s fun H1 s1 => by
    cases b with
    | true => exact iteT (q H1 s1)
    | false => exact iteF (k rfl H1 Q (s.trans s1) fun H2 s2 => q H2 (s1.trans s2))
theorem s_ifB (h : GivesT H0 tt b σ) (k1 : b = true → ∀ H', Same H0 H' → t { D with nx := rest D } σ H') (k2 : b = false → ∀ H', Same H0 H' → rest D σ H') : tSeq (tIfS tt t tNext) rest D σ H0 :=
  h H0 _ Same.rfl' fun H' s => by
    cases b with
    | true => exact iteT (k1 rfl H' s)
    | false => exact iteF (k2 rfl H' s)
theorem t_andB (h : GivesT H0 tt b σ) (k : b = true → GivesT H0 uu c σ) : GivesT H0 (tAnd tt uu) (b && c) σ := fun H Q s q =>
  h H _ s fun H1 s1 => by
    cases b with
    | true => exact iteT (k rfl H1 Q (s.trans s1) fun H2 s2 => q H2 (s1.trans s2))
    | false => exact iteF (q H1 s1)
theorem s_ifB1 (h : GivesT H0 tt b σ) (k1 : b = true → ∀ H', Same H0 H' → t D σ H') (k2 : b = false → ∀ H', Same H0 H' → D.nx σ H') : tIfS tt t tNext D σ H0 :=
  h H0 _ Same.rfl' fun H' s => by
    cases b with
    | true => exact iteT (k1 rfl H' s)
    | false => exact iteF (k2 rfl H' s)
theorem s_set1 (h : Gives H0 te G σ) (k : ∀ H' u, Same H0 H' → G.p H' u → D.nx (σ.set i (some u)) H') : tAsg te (gName i) D σ H0 :=
  h H0 _ Same.rfl' fun H' u s g => k H' u s g
theorem t_eqI2 {r k : Int} (h : Gives H0 te (gEq (.int r)) σ) : GivesT H0 (tTest (tOp rEq te (tC (.int k)))) (decide (r = k)) σ := fun H Q s q =>
  h H _ s fun H1 u s1 e => by
    have e : u = .int r := e
    subst e
    refine ⟨rfl, _, rfl, ?_⟩
    have z : decide (V.int r = V.int k) = decide (r = k) := decide_eq_decide.mpr ⟨fun h => V.int.inj h, fun h => by rw [h]⟩
    rw [z]
    exact q H1 s1
theorem t_eqI {r k : Int} (h : σ[i]? = some (some (.int r))) : GivesT H0 (tTest (tOp rEq (tVar i) (tC (.int k)))) (decide (r = k)) σ := fun H Q s q => by
  refine ⟨_, h, rfl, _, rfl, ?_⟩
  have z : decide (V.int r = V.int k) = decide (r = k) := decide_eq_decide.mpr ⟨fun h => V.int.inj h, fun h => by rw [h]⟩
  rw [z]
  exact q H Same.rfl'
theorem t_neI {r k : Int} (h : Gives H0 te (gEq (.int r)) σ) : GivesT H0 (tTest (tOp rNe te (tC (.int k)))) (!decide (r = k)) σ := fun H Q s q =>
  h H _ s fun H1 u s1 e => by
    have e : u = .int r := e
    subst e
    refine ⟨rfl, _, rfl, ?_⟩
    have z : decide (V.int r = V.int k) = decide (r = k) := decide_eq_decide.mpr ⟨fun h => V.int.inj h, fun h => by rw [h]⟩
    rw [z]
    exact q H1 s1
theorem g_and (h : Gives H0 te (gEq (.bl b)) σ) (k : b = true → Gives H0 tf (gEq (.bl c)) σ) : Gives H0 (tAndV te tf) (gEq (.bl (b && c))) σ := fun H Q s q =>
  h H _ s fun H1 u s1 e => by
    refine ⟨b, e, ?_⟩
    cases b with
    | true => exact iteT (k rfl H1 Q (s.trans s1) fun H2 u2 s2 e2 => q H2 u2 (s1.trans s2) e2)
    | false => exact iteF (q H1 _ s1 rfl)
theorem t_valB (h : Gives H0 te (gEq (.bl b)) σ) : GivesT H0 (tB te) b σ := fun H Q s q => h H _ s fun H1 u s1 e => ⟨b, e, q H1 s1⟩
end
abbrev rGtI : R2 := rI0 fun i j => .bl (decide (j < i))
abbrev rLeI : R2 := rI0 fun i j => .bl (decide (i ≤ j))
abbrev rLtI : R2 := rI0 fun i j => .bl (decide (i < j))
theorem g_all {K : PySem.W.Frag} {H0 : Hp} {σ : L2.St} {te : TE} {bs : List Bool} (h : Gives H0 te (gLst (bs.map fun b => gEq (.bl b))) σ) : Gives H0 (tCB (rAll K) (tCons te tNil)) (gEq (.bl (bs.all id))) σ := fun H Q s q =>
  h H _ s fun H1 u s1 g1 => by
    obtain ⟨p, us, rfl, hp, ha⟩ := g1
    have eu := all_bl ha
    subst eu
    exact ⟨p, bs, rfl, .inl (.inl hp), q H1 _ s1 rfl⟩
def rReprA (K : PySem.W.Frag) : List V → Hp → VK → Prop := fun xs H Q =>
  ∃ (x : V) (d : PyData), xs = [x] ∧ Da K H x d ∧ d.showable = true ∧ d.depth ≤ 64 ∧ d.shown.length ≤ sizeLine ∧ Q (.str d.shown) H
theorem call_reprA {X : Cx} (hm : ∃ mm, X.base.Ns sysModules mm) (gd : X.A.guards = some []) (hu : X.A.units + 70 < cLine) :
    CallR X (.builtin "repr") (rReprA X.K) := by
  intro pins s σ H xs us Q I r h
  obtain ⟨x, d, rfl, hs, sh, dp, sz, q⟩ := h
  have big : ∀ a, x = .ref a → wpAny (model X.prog X.w) X.A (call (.builtin "repr") us) (EP X pins σ Q) X.xe s := by
    rintro a rfl
    exact call_repr hm gd hu pins s σ H _ us Q I r ⟨a, d, rfl, hs, sh, dp, sz, q⟩
  cases hs with
  | non =>
    cases r with
    | cons r1 r2 =>
      cases r2
      cases r1
      rw [PyData.shown] at q
      exact PySem.P.repr_of_none ⟨.str _, H, I.tok _, ⟨_, rfl⟩, q⟩
  | bl b =>
    cases r with
    | cons r1 r2 =>
      cases r2
      cases r1
      rw [PyData.shown] at q
      exact PySem.P.repr_of_bool ⟨.str _, H, I.tok _, ⟨_, rfl⟩, q⟩
  | int i =>
    cases r with
    | cons r1 r2 =>
      cases r2
      obtain ⟨t, rfl⟩ := r1
      rw [PyData.shown] at q
      exact PySem.P.repr_of_int (by rw [PyData.showable] at sh; exact of_decide_eq_true sh) ⟨.str _, H, I.tok _, ⟨_, rfl⟩, q⟩
  | str z =>
    cases r with
    | cons r1 r2 =>
      cases r2
      obtain ⟨t, rfl⟩ := r1
      rw [PyData.shown] at q sz
      exact PySem.P.repr_of_str ⟨.str _, H, I.tok _, ⟨_, rfl⟩, q⟩ sz
  | lst h1 h2 => exact big _ rfl
  | tup h1 h2 => exact big _ rfl
  | dic h1 h2 => exact big _ rfl
theorem s_par {H0 : Hp} {σ : L2.St} {ta : TA} {G1 G2 : GP} {i j : Nat} {D : Ends} {rest : TS} (h : GivesL H0 ta [G1, G2] σ) (k : ∀ H' u1 u2, Same H0 H' → G1.p H' u1 → G2.p H' u2 → rest D ((σ.set i (some u1)).set j (some u2)) H') : tSeq (tPar i j ta) rest D σ H0 :=
  h H0 _ Same.rfl' fun H' us s g => by
    cases g with
    | @cons _ u1 _ _ g1 g =>
    cases g with
    | @cons _ u2 _ _ g2 g =>
    cases g
    exact ⟨u1, u2, rfl, k H' u1 u2 s g1 g2⟩
section
variable {K : PySem.W.Frag} {B H0 : Hp} {σ : L2.St} {te tf : TE} {ta : TA} {i : Nat} {x v : V} {d : PyData} {ds : List PyData} {b c : Bool} {T : String} {tt uu : TT} {t rest : TS} {D : Ends} {a : Addr} {xs : List V} {k : Int} {G : GP}
theorem g_reprA (h : σ[i]? = some (some x)) (hd : Da K H0 x d) (h1 : d.showable = true) (h2 : d.depth ≤ 64) (h3 : d.shown.length ≤ sizeLine) : Gives H0 (tCB (rReprA K) (tCons (tVar i) tNil)) (gEq (.str d.shown)) σ := fun H Q s q =>
  ⟨_, h, x, d, rfl, hd.mono s, h1, h2, h3, q H _ Same.rfl' rfl⟩
theorem g_eqS {y z : Str} (h : Gives H0 te (gEq (.str y)) σ) (h' : Gives H0 tf (gEq (.str z)) σ) : Gives H0 (tOp rEq te tf) (gEq (.bl (decide (y = z)))) σ := fun H Q s q =>
  h H _ s fun H1 u s1 e1 => h' H1 _ (s.trans s1) fun H2 u' s2 e2 => by
    have e1 : u = .str y := e1
    have e2 : u' = .str z := e2
    subst e1
    subst e2
    refine ⟨rfl, q H2 _ (s1.trans s2) ?_⟩
    show _ = _
    congr 1
    exact decide_eq_decide.mpr ⟨fun h => V.str.inj h, fun h => by rw [h]⟩
end
theorem Gives.imp {H0 : Hp} {te : TE} {G G' : GP} {σ : L2.St} (h : Gives H0 te G σ) (i : ∀ H u, Same H0 H → G.p H u → G'.p H u) : Gives H0 te G' σ := fun H Q s q =>
  h H _ s fun H1 u s1 g => q H1 u s1 (i H1 u (s.trans s1) g)
theorem keepA {a p : Addr} {H1 H H' : Hp} (np : H1 p = none) (h : ∀ o, H1 a = some o → H a = some o) (b : Bu p H H') : ∀ o, H1 a = some o → H' a = some o := fun o e => b _ _ (ne_of_none e np) (h o e)
theorem sq_of {K : PySem.W.Frag} {a : Addr} {H H' : Hp} {zs : List V} (s : SqL K H a zs) (h : ∀ o, H a = some o → H' a = some o) : SqL K H' a zs := by
  rcases s with (e | ⟨o, e⟩) | e
  · exact .inl (.inl (h _ e))
  · exact .inl (.inr ⟨o, h _ e⟩)
  · exact .inr e
theorem mm_at (z : Int) (h : z ≤ 3) : -(2 ^ 62) ≤ (if z > 1 then z else 1) ∧ (if z > 1 then z else 1) < 2 ^ 62 ∧ (if z > 1 then z else 1).toNat ≤ 3 := by
  split <;> omega
theorem mm_le (n : Int) : (if n < 3 then n else 3) ≤ 3 := by
  split <;> omega
section
variable {K : PySem.W.Frag} {B H0 : Hp} {σ : L2.St} {te tf : TE} {ta : TA} {i : Nat} {x v : V} {d : PyData} {ds : List PyData} {b c : Bool} {T : String} {tt uu : TT} {t rest : TS} {D : Ends} {a : Addr} {xs : List V} {k : Int} {G : GP}
theorem g_lcQ {a : Addr} {xs ys : List V} {i : Nat} {g : TG} {vs : List Nat} (hi : σ[i]? = some (some (.ref a))) (hx : SqL K H0 a xs) (hz : xs.length ≤ 1000) (hl : ys.length = xs.length)
    (he : ∀ (j : Nat) (x y : V), xs[j]? = some x → ys[j]? = some y → ∀ (H : Hp) (R : VK), Same H0 H → (∀ H', Same H H' → R y H') →
      g x (wipe σ vs) H fun σ2 H2 => wipe σ2 vs = wipe σ vs ∧ te σ2 H2 R) :
    Gives H0 (tLc (iList K (tVar i)) g tYes te vs) (gLst (ys.map gEq)) σ := fun H Q s q => by
  refine ⟨_, hi, a, rfl, ⟨xs, s.seq hx⟩, fun D nD => ?_⟩
  have sD : Same H (upd H D (.lst [])) := same_put nD
  have y := sizeLine_eq
  refine lc_list (K := K) (a := a) (xs := xs) (fun k H' => Same H H' ∧ H' D = some (.lst (ys.take k))) ⟨sD, upd_same⟩ (fun k H' _ ⟨s', _⟩ => s'.seq (s.seq hx)) ?_ ?_
  · rintro k x H' hk ⟨s', eD⟩
    have hk' : k < ys.length := by
      obtain ⟨h, _⟩ := List.getElem?_eq_some_iff.mp hk
      omega
    have hy := List.getElem?_eq_getElem hk'
    refine cast ?_ (he k x ys[k] hk hy H' (fun y H4 => ∃ acc, H4 D = some (.lst acc) ∧ acc.length < sizeLine ∧ Same H (upd H4 D (.lst (acc ++ [y]))) ∧ upd H4 D (.lst (acc ++ [y])) D = some (.lst (ys.take (k + 1)))) (s.trans s') fun H4 s4 => ⟨_, s4 _ _ eD, ?_, ?_, ?_⟩)
    · rfl
    · rw [List.length_take]
      omega
    · intro b o e
      rw [upd_ne (ne_of_none e nD)]
      exact s4 _ _ (s' _ _ e)
    · rw [upd_same, List.take_add_one, hy]
      rfl
  · rintro H' ⟨s', eD⟩
    rw [← hl, List.take_length] at eD
    exact q H' _ s' ⟨D, ys, rfl, eD, allEq⟩
end
/-! ### f(k = v, ..), keywords alone -/
section
variable {X : Cx} {CX : CXT} {k : Nat} {f : Addr} {fd : FuncData} {ps ks : List Str} {sp : Sp} {E : XK} {x : Str} {p pos : Pos} {kws : List Keyword} {tk : TA} {pm : {α : Type} → List α → List α}
def tCallKs (pm : {α : Type} → List α → List α) (sp : Sp) (E : XK) (tk : TA) : TE := fun σ H Q => tk σ H fun zs H2 => sp (pm zs) H2 Q E
theorem pe_callKs (pm : {α : Type} → List α → List α) (F : FnOk X.prog X.w X.K X.mg X.base CX k f fd ps sp) (hr : Room k X.A) (hg : Gl X x) (hm : X.mg x = some (.ref f)) (hk : PySem.W.keepIn X.K (.ref f) = true)
    (hb : ∀ (s : Shared) (us : List Value), us.length = ks.length → BindsTo s fd ⟨[], ks.zip us⟩ (ps.zip (pm us))) (hpm : ∀ (zs : List V) (us : List Value), zs.length = ks.length → Vals zs us → Vals (pm zs) (pm us)) (hx : Passes CX X E)
    (hkw : PK X kws tk) (hl : ∀ zs H Q E, sp (pm zs) H Q E → zs.length = ks.length) (hall : (backToKw pos (keywordEach kws X.env)).all (·.1.isSome) = true := by rfl) (hks : (backToKw pos (keywordEach kws X.env)).filterMap (·.1) = ks := by rfl)
    (hdb : (x == ("__debug__" : Str)) = false := by decide) (hpl : ((backTo pos (starEach [] X.env)).any (·.1) || (backToKw pos (keywordEach kws X.env)).any (·.1.isNone)) = false := by rfl) :
    PE X (.Call (.Name x p) [] kws pos) (tCallKs pm sp E tk) := by
  refine ⟨fun pins s σ H Q I h => ?_⟩
  refine wpAny_Call_Name_kw (ld_glob I hg hm ?_ hdb)
  refine PySem.W.callWith_KW0 (h₀ := X.base) I.ok.mod.kin hk hall ?_ hpl
  refine thn (hkw.run pos pins s σ H _ I h) fun ws s2 ⟨zs, H2, I2, rz, q2⟩ => ⟨I2.kIn, ?_⟩
  rw [hks]
  have hz := hl _ _ _ _ q2
  refine wpAny_call (codeAny_mono (F.run X.A X.stack s2 H2 ⟨[], ks.zip ws⟩ (pm ws) (pm zs) Q E hr I2.env0 (hb s2 ws (rz.length.symm.trans hz)) (hpm zs ws hz rz) q2) fun r s' hq => ?_)
  cases r with
  | error e => exact hx pins σ H2 s2 e s' I2 hq
  | ok fl =>
    cases fl with
    | ret u => exact I2.after hq
    | next => exact False.elim hq
    | brk => exact False.elim hq
    | cont => exact False.elim hq
end
end Ev

/-! ## Sets of texts, whose members can be walked -/
namespace Ev
open PySem PySem.Spec PyProof.Rows L2
def keyS (e : Int × Value) : Str := match e.2 with
  | .str x _ => x
  | _ => ""
def goodS (w : World) (e : Int × Value) : Prop := ∃ x tk, e = (hashStr w x, Value.str x tk)
/-- what is left when k comes in -/
def addN (ks : List Str) (k : Str) : List Str := if k ∈ ks then ks else ks ++ [k]
theorem mem_addN {ks : List Str} {k x : Str} : x ∈ addN ks k ↔ x ∈ ks ∨ x = k := by
  unfold addN
  split
  · exact ⟨.inl, fun z => z.elim id fun e => by rw [e]; assumption⟩
  · rw [List.mem_append, List.mem_singleton]
theorem addN_nodup {ks : List Str} {k : Str} (h : ks.Nodup) : (addN ks k).Nodup := by
  unfold addN
  split
  · exact h
  · rename_i n
    rw [List.nodup_append]
    refine ⟨h, by simp, fun x hx y hy e => ?_⟩
    rw [List.mem_singleton.mp hy] at e
    rw [e] at hx
    exact n hx
theorem addN_len {ks : List Str} {k : Str} : (addN ks k).length ≤ ks.length + 1 := by
  unfold addN
  split
  · exact Nat.le_succ _
  · rw [List.length_append]
    exact Nat.le_refl _
/-- the set of the texts ks at a -/
def SetS (w : World) (h : Heap) (a : Addr) (ks : List Str) : Prop := ∃ (o : Obj) (es : Array (Int × Value)) (ep : Nat) (t : SetTable), h.get? a = some o ∧ o.ExactSet ∧ o.data = .set es ep t ∧ (∀ e ∈ es.toList, goodS w e) ∧
  (es.toList.map keyS).Perm ks ∧ ks.Nodup ∧ es.size < scanBound ∧ t.fits es.size = true ∧ Ris t.place.toList ∧ (w.params.followText "set-order" = true ∨ t.led = true)
section
variable {P : Program} {w : World} {A : Around} {E : Value → Shared → Prop} {s : Shared} {h h' : Heap} {a : Addr} {ks : List Str}
theorem SetS.at (R : SetS w h a ks) (k : ∀ o, h.get? a = some o → h'.get? a = some o) : SetS w h' a ks := by
  obtain ⟨o, es, ep, t, ho, r⟩ := R
  exact ⟨o, es, ep, t, k o ho, r⟩
theorem goodS_elems {l : List (Int × Value)} (g : ∀ e ∈ l, goodS w e) : ElemsOf (PySem.strKind P w) l := fun e he => by
  obtain ⟨x, tk, rfl⟩ := g e he
  refine ⟨⟨x, ?_, rfl⟩, rfl⟩
  show Value.isStrOf x (.str x tk) = true
  simp [Value.isStrOf]
theorem goodS_is {e : Int × Value} (g : goodS w e) (x : Str) : (PySem.strKind P w).is x e.2 = true ↔ keyS e = x := by
  obtain ⟨y, tk, rfl⟩ := g
  show Value.isStrOf x (.str y tk) = true ↔ y = x
  simp [Value.isStrOf]
theorem SetS.kind (R : SetS w h a ks) : h.SetOf (PySem.strKind P w) a (fun k => decide (k ∈ ks)) ks.length := by
  obtain ⟨o, es, ep, t, ho, hx, hd, g, pm, nd, hb, hf, _⟩ := R
  refine ⟨o, es, ep, t, ho, hx, hd, goodS_elems g, fun k => ?_, hb, hf, ?_⟩
  · rw [decide_eq_true_iff, ← pm.mem_iff, List.mem_map]
    constructor
    · rintro ⟨e, he, q⟩
      exact ⟨e, he, (goodS_is (g e he) k).2 q⟩
    · rintro ⟨e, he, q⟩
      exact ⟨e, he, (goodS_is (g e he) k).1 q⟩
  · have z := pm.length_eq
    rw [List.length_map, Array.length_toList] at z
    exact z
theorem setS_new (w : World) (h : Heap) : SetS w (h.push { cls := .type "set", dict := none, data := .set #[] 0 (.fresh 0 0 (!w.params.followText "set-order")) }) h.objs.size [] := by
  refine ⟨_, #[], 0, _, Heap.get?_push_size _ rfl, ⟨rfl, rfl, rfl⟩, rfl, fun e he => ?_, .nil, .nil, by decide, by rfl, .nil, ?_⟩
  · cases he
  · by_cases z : w.params.followText "set-order" = true
    · exact .inl z
    · refine .inr ?_
      show (!w.params.followText "set-order") = true
      rw [Bool.eq_false_iff.mpr z]
      rfl
/-- the entries es1 in the table t1 are written, and laid anew where the table is full -/
theorem lay_S {g : Bool → Sem Unit} (hg : ∀ (b : Bool) (s1 : Shared) (Q' : Unit → Shared → Prop), Q' () s1 → wpAny (model P w) A (g b) Q' E s1) {o : Obj} {es es1 : Array (Int × Value)} {ep : Nat} {t t1 : SetTable}
    (ho : s.heap.get? a = some o) (hx : o.ExactSet) (hd : o.data = .set es ep t) (g1 : ∀ e ∈ es1.toList, goodS w e) (pm : (es1.toList.map keyS).Perm ks) (nd : ks.Nodup) (hb : es1.size < scanBound) (hf : t1.fits es1.size = true)
    (hr : Ris t1.place.toList) (hl : w.params.followText "set-order" = true ∨ t1.led = true) {was : Bool} {R : Option Bool → Shared → Prop} (k : ∀ h', Heap.SameBut a s.heap h' → SetS w h' a ks → R (some true) { s with heap := h' }) :
    wpAny (model P w) A (do
        storeSet a es1 t1
        if (!was && t1.tooFull) = true then do
            g (relayAll t1 es1 (SetTable.grown es1.size)).2.2
            storeSet a (relayAll t1 es1 (SetTable.grown es1.size)).1 (relayAll t1 es1 (SetTable.grown es1.size)).2.1
            pure (some true)
          else pure (some true)) R E s := by
  have put : ∀ {hh : Heap} {oo : Obj} {e0 e1 : Array (Int × Value)} {n : Nat} {t0 t2 : SetTable}, hh.get? a = some oo → oo.data = .set e0 n t0 → (hh.update a (Obj.putSet e1 t2)).get? a = some { oo with data := .set e1 (n + 1) t2 } := by
    intro hh oo e0 e1 n t0 t2 x y
    have z := Heap.get?_update_self (Obj.putSet e1 t2) x (by rw [putSet_of e1 t2 y]; rfl)
    rw [putSet_of e1 t2 y] at z
    exact z
  have o1 := put (e1 := es1) (t2 := t1) ho hd
  have b1 := Heap.SameBut.update s.heap a (Obj.putSet es1 t1)
  refine wpAny_bind (wpAny_storeSet_of ho hd ?_ (fits_of_scanBound hb))
  by_cases full : (!was && t1.tooFull) = true
  · rw [if_pos full]
    have q1 := relayAll_perm t1 es1 (SetTable.grown es1.size)
    have q2 := relayAll_fits t1 es1 (SetTable.grown es1.size)
    have q3 := relayAll_ris t1 es1 (SetTable.grown es1.size)
    have q4 := relayAll_led t1 es1 (SetTable.grown es1.size)
    revert q1 q2 q3 q4
    generalize relayAll t1 es1 (SetTable.grown es1.size) = Z
    obtain ⟨e2, t2, gv⟩ := Z
    intro q1 q2 q3 q4
    have sz : e2.size = es1.size := by
      have z := q1.length_eq
      rwa [Array.length_toList, Array.length_toList] at z
    refine wpAny_bind (hg _ _ _ (wpAny_bind (wpAny_storeSet_of o1 rfl (wpAny_pure (k _ (b1.trans (Heap.SameBut.update _ a _)) ?_)) (fits_of_scanBound (by rw [sz]; exact hb)))))
    refine ⟨_, e2, _, t2, put o1 rfl, hx, rfl, fun e he => g1 e (q1.mem_iff.mp he), (q1.map keyS).trans pm, nd, by rw [sz]; exact hb, q2, q3, ?_⟩
    rcases hl with z | z
    · exact .inl z
    · exact .inr (q4.trans z)
  · rw [if_neg full]
    exact wpAny_pure (k _ b1 ⟨_, es1, _, t1, o1, hx, rfl, g1, pm, nd, hb, hf, hr, hl⟩)
theorem lay_in {k : Str} {tk : Tok} {Q : Bool → Shared → Prop} (R : SetS w s.heap a ks) (room : ks.length + 1 < scanBound)
    (q : ∀ h', Heap.SameBut a s.heap h' → SetS w h' a (addN ks k) → ∀ b, Q b { s with heap := h' }) : wpAny (model P w) A (setAddHashed a (.str k tk) ((PySem.strKind P w).hash k)) Q E s := by
  obtain ⟨o, es, ep, t, ho, hx, hd, g, pm, nd, hb, hf, hr, hl⟩ := R
  have hel : ElemsOf (PySem.strKind P w) es.toList := goodS_elems g
  have me : (PySem.strKind P w).is k (.str k tk) = true := by
    show Value.isStrOf k (.str k tk) = true
    simp [Value.isStrOf]
  have sc : (Value.str k tk).scannable = true := rfl
  have quiet : ∀ (b : Bool) (s1 : Shared) (Q' : Unit → Shared → Prop), Q' () s1 → wpAny (model P w) A (match b with | true => rule "set.scan.the-table-gave-way" | false => pure ()) Q' E s1 := fun b s1 Q' z => by
    cases b
    · exact wpAny_pure z
    · exact wpAny_rule z
  unfold setAddHashed setAddHashedIn
  refine wpAny_holding (wpAny_bind (wpAny_setState_of ho hd hf ?_))
  dsimp only
  rw [byScan_of sc hb hel]
  simp only [↓reduceIte]
  unfold setAddByScan
  refine wpAny_bind (wpAny_bind (wpAny_rule (wpAny_bind (wpAny_setScan_of me ho hd hf hel ?_))))
  cases hi : List.findIdx? (fun e => (PySem.strKind P w).is k e.2) es.toList with
  | some j =>
    dsimp only
    obtain ⟨hj, pj, _⟩ := List.findIdx?_eq_some_iff_getElem.mp hi
    have inn : k ∈ ks := by
      refine pm.mem_iff.mp (List.mem_map.mpr ⟨es.toList[j], List.getElem_mem hj, ?_⟩)
      exact (goodS_is (P := P) (g _ (List.getElem_mem hj)) k).1 pj
    have e : addN ks k = ks := if_pos inn
    rw [e] at q
    exact wpAny_pure (wpAny_pure (q s.heap (Heap.SameBut.refl a s.heap) ⟨o, es, ep, t, ho, hx, hd, g, pm, nd, hb, hf, hr, hl⟩ _))
  | none =>
    dsimp only
    have out : k ∉ ks := fun z => by
      obtain ⟨e, he, ek⟩ := List.mem_map.mp (pm.mem_iff.mpr z)
      have c := List.findIdx?_eq_none_iff.mp hi e he
      rw [(goodS_is (P := P) (g e he) k).2 ek] at c
      cases c
    have e : addN ks k = ks ++ [k] := if_neg out
    have nd1 : (ks ++ [k]).Nodup := by
      rw [← e]
      exact addN_nodup nd
    have q1 := layNew_perm t es ((PySem.strKind P w).hash k) (.str k tk)
    have q2 := layNew_fits t es ((PySem.strKind P w).hash k) (.str k tk)
    have q3 := layNew_ris t es ((PySem.strKind P w).hash k) (.str k tk) hr
    have q4 := layNew_led t es ((PySem.strKind P w).hash k) (.str k tk)
    revert q1 q2 q3 q4
    generalize layNew t es ((PySem.strKind P w).hash k) (.str k tk) = Z
    obtain ⟨es1, t1, was, gave⟩ := Z
    intro q1 q2 q3 q4
    dsimp only at q1 q2 q3 q4 ⊢
    rw [Array.toList_push] at q1
    have g1 : ∀ x ∈ es1.toList, goodS w x := fun x hx => by
      rcases List.mem_append.mp (q1.mem_iff.mp hx) with z | z
      · exact g x z
      · rw [List.mem_singleton.mp z]
        exact ⟨k, tk, rfl⟩
    have pm1 : (es1.toList.map keyS).Perm (ks ++ [k]) := by
      have z := q1.map keyS
      rw [List.map_append] at z
      exact z.trans (List.Perm.append_right _ pm)
    have sz : es1.size < scanBound := by
      have z := pm1.length_eq
      rw [List.length_map, Array.length_toList, List.length_append] at z
      rw [z]
      exact room
    have l1 : w.params.followText "set-order" = true ∨ t1.led = true := by
      rcases hl with z | z
      · exact .inl z
      · exact .inr (q4.trans z)
    rw [e] at q
    refine wpAny_bind (quiet _ _ _ ?_)
    split
    · refine wpAny_bind ?_
      rw [hashByValue_scannable 8 sc]
      refine wpAny_pure ?_
      refine lay_S ?_ ho hx hd g1 pm1 nd1 sz ?_ ?_ ?_ fun h' sb r => ?_
      · intro b s1 Q' z
        cases b <;> first | exact wpAny_pure z | exact wpAny_rule z
      · first | exact q2 | (split <;> first | exact q2 | exact SetTable.fits_plain_off q2)
      · first | exact q3 | (split <;> exact q3)
      · first | exact l1 | (split <;> exact l1)
      · exact wpAny_pure (q h' sb r _)
    · refine wpAny_bind (wpAny_pure ?_)
      simp only [↓reduceIte]
      refine lay_S ?_ ho hx hd g1 pm1 nd1 sz q2 q3 l1 fun h' sb r => ?_
      · intro b s1 Q' z
        cases b <;> first | exact wpAny_pure z | exact wpAny_rule z
      · exact wpAny_pure (q h' sb r _)
/-- a text comes into a set -/
theorem add_S {k : Str} {tk : Tok} {Q : Value → Shared → Prop} (R : SetS w s.heap a ks) (room : ks.length + 1 < scanBound)
    (q : ∀ h', Heap.SameBut a s.heap h' → SetS w h' a (addN ks k) → Q .none { s with heap := h', toks := s.toks + 1 }) : wpAny (model P w) A (call (.builtin "set.add") [.ref a, .str k tk]) Q E s := by
  have me : (PySem.strKind P w).is k (.str k tk) = true := by
    show Value.isStrOf k (.str k tk) = true
    simp [Value.isStrOf]
  refine wpAny_call_entry F.slot_set_add (R.kind (P := P)).typeIs F.entry_set_add ?_ (F.args_set_add_2 _ _)
  unfold Builtin.«set.add» Builtin.Frozenset.oneOther
  simp only [List.isEmpty_nil, bind_assoc]
  unfold Builtin.Frozenset.addrOf setAdd
  refine wpAny_bind (wpAny_pure ?_)
  try dsimp only
  refine wpAny_bind (wpAny_pure ?_)
  try dsimp only
  refine wpAny_bind (wpAny_holding (wpAny_bind ((PySem.strKind P w).pyHash me ?_)))
  refine lay_in (s := { s with toks := s.toks + 1 }) R room fun h' sb r b => ?_
  show wpAny _ _ (ret Value.none) _ _ _
  exact wpAny_pure ⟨_, rfl, q h' sb r⟩
end
end Ev

/-! ## {text for .. in ..}, sorted of a set of texts -/
namespace Ev
open PySem PySem.Spec PyProof.Rows L2
def SetSO (w : World) (a : Addr) (ks : List Str) : HO := .ext fun h => SetS w h a ks
theorem setSO_ok {w : World} {P : Program} {H : Hp} {h : Heap} {a : Addr} {ks : List Str} (R : SetS w h a ks) : ObjOk P w H h a (SetSO w a ks) := by
  refine ⟨R, ?_, fun h1 h2 p k => p.at k⟩
  obtain ⟨o, _, _, _, ho, _⟩ := R
  exact ⟨o, ho⟩
section
variable {X : Cx}
theorem setSO_at {pins : List (Addr × Obj)} {σ : L2.St} {H : Hp} {s : Shared} {a : Addr} {ks : List Str} (I : Inv X pins σ H s) (ha : H a = some (SetSO X.w a ks)) : SetS X.w s.heap a ks := (I.hok a _ ha).1
theorem addSO {pins : List (Addr × Obj)} {σ : L2.St} {H : Hp} {s : Shared} {E : Value → Shared → Prop} {a : Addr} {ks : List Str} {k : Str} {tk : Tok} {Q : Value → Shared → Prop} (I : Inv X pins σ H s) (ha : H a = some (SetSO X.w a ks)) (room : ks.length + 1 < scanBound)
    (q : ∀ s', Inv X pins σ (upd H a (SetSO X.w a (addN ks k))) s' → Q .none s') : wpAny (model X.prog X.w) X.A (call (.builtin "set.add") [.ref a, .str k tk]) Q E s := by
  refine add_S (setSO_at I ha) room fun h' sb R => q _ ?_
  have he : ∃ u, h'.get? a = some u := by
    obtain ⟨o, _, _, _, ho, _⟩ := R
    exact ⟨o, ho⟩
  exact I.write (e := a) (t' := s.toks + 1) (by rw [ha]; trivial) (.inl rfl) (fun b u hb hu => (sb.2 b hb).trans hu) he (setSO_ok R)
/-- a set comprehension whose elements are texts -/
def tScS (w : World) (wi : TI) (g : TG) (tt : TT) (te : TE) (vs : List Nat) : TE := fun σ H Q => wi σ H fun J H1 => ∀ D, H1 D = none → ∃ W : Nat → Nat → Hp → Prop, (∃ m, W 0 m (upd H1 D (SetSO w D []))) ∧ ∀ i m H, W i m H →
  (J.stop i H ∧ Q (.ref D) H) ∨ (J.go i H ∧ ∃ Nx : Hp → Prop, (∀ H', Nx H' → ∃ m', m' < m ∧ W (i + 1) m' H') ∧ ∀ x H', J.yld i H x H' → g x (wipe σ vs) H' fun σ2 H2 => wipe σ2 vs = wipe σ vs ∧ tt σ2 H2 fun b H3 =>
    if b = true then te σ2 H3 fun y H4 => ∃ (c : Str) (ks : List Str), y = .str c ∧ H4 D = some (SetSO w D ks) ∧ ks.length + 1 < scanBound ∧ Nx (upd H4 D (SetSO w D (addN ks c))) else Nx H3)
theorem pe_scS {elt tg iter : Expr} {ifs : List Expr} {scope : Scope} {own : List (Str × Nat)} {pos : Pos} {wi : TI} {g : TG} {tt : TT} {te : TE} (hc : X.calm = true) (hN : X.N.Nodup) (hi : PI X tg iter wi) (ok : BlkOk X.N X.env.scope scope own)
    (hg : ∀ (s : Shared) (H : Hp) (C : Addr) (cl : List (Str × Addr)) (fp : List Addr), PG (X.blk s H scope (compEnvC scope cl C X.env) fp) tg g) (ht : ∀ (s : Shared) (H : Hp) (C : Addr) (cl : List (Str × Addr)) (fp : List Addr), PTs (X.blk s H scope (compEnvC scope cl C X.env) fp) ifs tt)
    (he : ∀ (s : Shared) (H : Hp) (C : Addr) (cl : List (Str × Addr)) (fp : List Addr), PE (X.blk s H scope (compEnvC scope cl C X.env) fp) elt te) (hs : ∀ x, foldedSetIterable iter X.env x = pure x := by intro _; rfl) :
    PE X (.SetComp elt [⟨tg, iter, ifs, 0⟩] scope pos) (tScS X.w wi g tt te (own.map (·.2))) := by
  refine ⟨fun pins s σ H Q I h => ?_⟩
  rw [PpSet.eval_SetComp]
  have fr : ∀ y ∈ scope.names, y.2 = .free → ∃ c, X.env.cells.lookup y.1 = some c := fun y hy e => (ok.free y hy e).elim (fun k => I.ok.has _ (.inl k)) fun k => I.ok.has _ (.inr k)
  refine wpAny_comprehension_free (use := none) rfl hs (closure_ok fr) ok.kind (fun y hy e => by rw [ok.uniq y hy, e]) (thn (hi.run pins s σ H _ I h) fun xv s1 hx => thn hx fun itv s2 h2 => ?_)
  obtain ⟨it, fp, tn, J, H2, rfl, I2, T, st2, f2, q⟩ := h2
  refine PpSet.newSet_ok (newEnv_comp ?_)
  -- the set, new at D, and the block's own context
  obtain ⟨D, hD⟩ : ∃ D, s2.heap.objs.size = D := ⟨_, rfl⟩
  obtain ⟨s3, hs3⟩ : ∃ s3 : Shared, { s2 with heap := s2.heap.push { cls := .type "set", dict := none, data := .set #[] 0 (.fresh 0 0 (!X.w.params.followText "set-order")) } } = s3 := ⟨_, rfl⟩
  have h3 : s3.heap = s2.heap.push { cls := .type "set", dict := none, data := .set #[] 0 (.fresh 0 0 (!X.w.params.followText "set-order")) } := by rw [← hs3]
  have old3 : ∀ b o, s2.heap.get? b = some o → s3.heap.get? b = some o := fun b o e => by
    rw [h3]
    exact Heap.get?_push_of_some _ e
  obtain ⟨W, ⟨m0, w0⟩, turn⟩ := q D (I2.hok.fresh (Nat.le_of_eq hD))
  obtain ⟨H3, hH3⟩ : ∃ H3 : Hp, upd H2 D (SetSO X.w D []) = H3 := ⟨_, rfl⟩
  rw [hH3] at w0
  have I3 : Inv X pins σ H3 s3 := by
    rw [← hs3, ← hH3, ← hD]
    exact I2.laid (t' := s2.toks) (fun b o e => Heap.get?_push_of_some _ e) (Nat.le_refl _) (setSO_ok (setS_new X.w s2.heap))
  have f3 : ∀ b ∈ fp, FpOk X pins H3 b ∧ b < s3.heap.objs.size := fun b hb => by
    obtain ⟨o, eo, _⟩ := T.obj _ _ st2 b hb
    have lt2 := Heap.lt_size eo
    have ne : b ≠ D := by
      rw [← hD]
      exact Nat.ne_of_lt lt2
    refine ⟨⟨?_, (f2 b hb).2⟩, Heap.lt_size (old3 b o eo)⟩
    rw [← hH3, upd_ne ne]
    exact (f2 b hb).1
  have I4 := block_start I3 ok hN f3
  have pg := hg s3 H3 s3.heap.objs.size (cellsFrom (s3.heap.objs.size + 1) scope.names (cloFrom X.env.cells scope.names [])) fp
  have pt := ht s3 H3 s3.heap.objs.size (cellsFrom (s3.heap.objs.size + 1) scope.names (cloFrom X.env.cells scope.names [])) fp
  have pe := he s3 H3 s3.heap.objs.size (cellsFrom (s3.heap.objs.size + 1) scope.names (cloFrom X.env.cells scope.names [])) fp
  rw [hs3]
  show codeAny _ _ (.compStart (.SetComp elt [⟨tg, iter, ifs, 0⟩] scope pos) 0 (.ref it) (.ref s2.heap.objs.size) (compEnvC scope (cellsFrom (s3.heap.objs.size + 1) scope.names (cloFrom X.env.cells scope.names [])) s3.heap.objs.size X.env)) (compPost (model X.prog X.w) X.A X.xe none _ (.ref s2.heap.objs.size) s3.heap.objs.size) { s3 with heap := pushCells (s3.heap.push { cls := .type "dict", data := .dict #[] }) scope.names }
  rw [hD]
  obtain ⟨ce, hce⟩ : ∃ ce, compEnvC scope (cellsFrom (s3.heap.objs.size + 1) scope.names (cloFrom X.env.cells scope.names [])) s3.heap.objs.size X.env = ce := ⟨_, rfl⟩
  have cL : ce.locals = s3.heap.objs.size := by
    rw [← hce]
    rfl
  obtain ⟨s4, hs4⟩ : ∃ s4 : Shared, { s3 with heap := pushCells (s3.heap.push { cls := .type "dict", data := .dict #[] }) scope.names } = s4 := ⟨_, rfl⟩
  rw [hce] at I4 pg pt pe ⊢
  rw [hs4] at I4 ⊢
  have st4 : tn 0 s4.heap := T.keep _ _ _ st2 fun b _ o e => by
    rw [← hs4]
    exact pushCells_keeps _ _ _ _ (Heap.get?_push_of_some _ (old3 b o e))
  let Y := X.blk s3 H3 scope ce fp
  have out : ∀ {σ' : L2.St} {H' : Hp} {s' : Shared}, Inv Y [] σ' H' s' → (∀ b ∈ fp, H' b = none) → ∀ b ∈ fp, FpOk Y [] H' b := fun {σ' H' s'} I' hn b hb =>
    ⟨hn b hb, (I'.ok.exf b hb).1, I'.ok.exfs b hb, .inl hb, fun x c e => (I'.ok.exf b hb).2 x c e, fun p hp => absurd (show p ∈ ([] : List (Addr × Obj)) ++ [] from hp) (by simp)⟩
  -- what holds between two turns
  let Mid : Nat → Shared → Prop := fun n s' => ∃ i H', Inv Y [] (wipe σ (own.map (·.2))) H' s' ∧ tn i s'.heap ∧ (∀ b ∈ fp, H' b = none) ∧ W i n H'
  have loop : codeAny (model X.prog X.w) X.A (.compLoop (.SetComp elt [⟨tg, iter, ifs, 0⟩] scope pos) 0 (.ref it) (.ref D) ce) (compPost (model X.prog X.w) X.A X.xe none (EP X pins σ Q) (.ref D) s3.heap.objs.size) s4 := by
    refine PpSet.compLoopS_any Mid (fun n s5 ⟨i, H5, I5, st5, n5, w5⟩ => ?_) m0 ⟨0, H3, I4, st4, fun b hb => (f3 b hb).1.1, w0⟩
    rcases turn i n H5 w5 with ⟨stop, qq⟩ | ⟨go, Nx, hNx, step⟩
    · refine thnF (T.done Y rfl rfl rfl hc i [] s5 _ H5 (fun _ _ => False) I5 (out I5 n5) st5 stop) fun r s6 ⟨hr, I6⟩ => ?_
      subst hr
      have I7 : Inv X pins σ H5 s6 := I3.call' (ch := fp) I6.os I6.base I6.hok I6.bare fun b hb => ⟨(f3 b hb).1.2.2.2.1, (f3 b hb).1.2.1, (f3 b hb).1.2.2.2.2.1, (f3 b hb).1.2.2.2.2.2⟩
      have nC : H5 s3.heap.objs.size = none := by
        rw [← cL]
        exact I6.free
      obtain ⟨m, hn, _⟩ := I6.loc
      have hn : s6.heap.Ns ce.locals m := hn
      rw [cL] at hn
      obtain ⟨z0, z1, _, z3, z4, z5⟩ := I3.fpOk (Nat.le_refl _) nC
      exact ⟨m, hn, fun h'' sb => ⟨.ref D, H5, I7.turned (t' := s6.toks) (fun b o hb e => (sb.2 b hb).trans e) z0 z1 z3 z4 z5, rfl, qq⟩⟩
    · refine thnF (T.item Y rfl rfl rfl hc i [] s5 _ H5 (fun _ _ => False) I5 (out I5 n5) st5 go) fun r s6 ⟨u, hr, h6⟩ => ?_
      subst hr
      refine thnF h6 fun _ s7 ⟨x, H7, I7, r7, y7, st7, n7⟩ => ?_
      refine thnF (pg.run _ s7 _ H7 x u _ (I7.pinned (out I7 n7) (T.obj _ _ st7)) r7 (step x H7 y7)) fun _ s8 ⟨σ8, H8, I8, hw8, q8⟩ => ?_
      refine thnF (pt.run _ s8 σ8 H8 _ I8 q8) fun b s9 ⟨H9, I9, q9⟩ => ?_
      have next : ∀ {s' : Shared} {H' : Hp}, Inv Y ([] ++ pinsAt fp s7.heap) σ8 H' s' → Nx H' → ∃ m, m < n ∧ Mid m s' := fun {s' H'} I' nx => by
        obtain ⟨m', hm, w'⟩ := hNx H' nx
        have pin' : ∀ b ∈ fp, ∀ o, s7.heap.get? b = some o → s'.heap.get? b = some o ∧ H' b = none := fun b hb o e => by
          have z := I'.pin (b, o) (List.mem_append_right _ (List.mem_append_right _ (mem_pinsAt hb e)))
          exact ⟨z.1, z.2.1⟩
        have hl : (wipe σ (own.map (·.2))).length = σ8.length := by
          rw [← hw8, wipe_length]
        refine ⟨m', hm, i + 1, H', (I'.unpinned (pins := [])).weak hl (fun j v e => ?_), T.keep _ _ _ st7 fun b hb o e => (pin' b hb o e).1, fun b hb => ?_, w'⟩
        · rw [← hw8] at e
          exact (wipe_some e).1
        · obtain ⟨o, e, _⟩ := T.obj _ _ st7 b hb
          exact (pin' b hb o e).2
      dsimp only at q9
      by_cases hb : b = true
      · subst hb
        rw [if_pos rfl] at q9 ⊢
        refine thnF (pe.run _ s9 σ8 H9 _ I9 q9) fun z s10 ⟨yv, H10, I10, r10, c0, ks, ey, hD10, hz10, nx⟩ => ?_
        subst ey
        obtain ⟨tk, rfl⟩ := (show ∃ tk, z = Value.str c0 tk from r10)
        exact addSO (X := Y) I10 hD10 hz10 fun s11 I11 => next I11 nx
      · rw [if_neg hb] at q9 ⊢
        exact next I9 q9
  exact PpSet.codeAny_compStart_set loop (T.self X.A 0 _ _ _ st4 loop)
end
end Ev

/-! ## sorted(set of texts), set(list of texts) -/
namespace Ev
open PySem PySem.Spec PyProof.Rows L2
section
variable {P : Program} {w : World} {A : Around} {E : Value → Shared → Prop} {s : Shared} {a : Addr} {ks : List Str}
theorem strs_map {w : World} : ∀ {vs : List Value}, (∀ v ∈ vs, ∃ x tk, v = Value.str x tk) → StrsAre vs (vs.map fun v => keyS (0, v))
  | [], _ => .nil
  | v :: vs, h => by
    obtain ⟨x, tk, rfl⟩ := h v (List.mem_cons_self ..)
    exact .cons x tk (strs_map (w := w) fun u hu => h u (List.mem_cons_of_mem _ hu))
theorem sorted_S {Q : Value → Shared → Prop} (R : SetS w s.heap a ks) (hh : A.handled = none) (few : ks.length < 64)
    (q : ∀ s' p (out : Array Value) (c : Nat) (ys : List Str), (∀ b o, s.heap.get? b = some o → s'.heap.get? b = some o) → s'.gens = s.gens → s'.os = s.os → s.heap.objs.size ≤ p →
      s'.heap.get? p = some (seqObj "list" out c) → StrsAre out.toList ys → ys.Perm ks → sortedS ys = true → Q (.ref p) s') : wpAny (model P w) A (call (.builtin "sorted") [.ref a]) Q E s := by
  obtain ⟨o, es, ep, t, ho, hx, hd, g, pm, nd, hb, hf, hr, hl⟩ := R
  refine Calls.call_function_entry kind_sorted plain_sorted entry_sorted (args_sorted1 _) ?_
  unfold Builtin.«sorted»
  refine wpAny_bind (m := checkCount "sorted" 1 1 _) (wpAny_pure ?_)
  refine wpAny_bind (collect_set (A := A.in1) hh ⟨o, ho, hx.1, hd⟩ hf hb hr hl fun s1 vs k1 hz g1 o1 pv => ?_)
  have all : ∀ v ∈ vs, ∃ x tk, v = Value.str x tk := fun v hv => by
    obtain ⟨e, he, rfl⟩ := List.mem_map.mp (pv.mem_iff.mp hv)
    obtain ⟨x, tk, rfl⟩ := g e he
    exact ⟨x, tk, rfl⟩
  have hS := strs_map (w := w) all
  have pk : (vs.map fun v => keyS (0, v)).Perm ks := by
    refine (pv.map fun v => keyS (0, v)).trans ?_
    rw [List.map_map]
    exact pm
  have hvl : vs.length = ks.length := by
    have z := pk.length_eq
    rw [List.length_map] at z
    exact z
  refine wpAny_bind (wpAny_newList ?_ (by rw [hvl, sizeLine_eq]; omega))
  have hoL : (s1.heap.push (seqObj "list" vs.toArray 0)).get? s1.heap.objs.size = some (seqObj "list" vs.toArray 0) := Heap.get?_push_size _ rfl
  refine wpAny_bind (wpAny_holding (wpAny_call_entry slot_list_sort ⟨_, hoL, rfl⟩ entry_list_sort
    (list_sort_treeK strKind_oneLt hoL hS.keysOf (fun v₁ v₂ rest e => keyKind_strs (by rw [← e]; exact hS)) (by rw [hvl]; exact few) fun st' hp hs => ⟨_, rfl, ?_⟩) (args_list_sort _)))
  obtain ⟨ys, y1, y2, y3⟩ := sorted_out_str hS hp hs
  obtain ⟨c, hc⟩ := sortedHeap_at (vs := vs) (out := (arrOf st').map (·.2)) hoL
  refine wpAny_pure ⟨_, rfl, q _ s1.heap.objs.size _ c ys (fun b u e => ?_) g1 o1 hz hc y1 (y2.trans pk) y3⟩
  have z := k1 b u e
  have lt := Heap.lt_size z
  show (sortedHeap (s1.heap.push (seqObj "list" vs.toArray 0)) s1.heap.objs.size vs ((arrOf st').map (·.2))).get? b = some u
  rw [sortedHeap_old (Nat.ne_of_lt lt) (by rw [size_push']; exact Nat.lt_succ_of_lt lt)]
  exact Heap.get?_push_of_some _ z
/-- the members, in the order in which they came -/
def uniq : List Str → List Str → List Str
  | acc, [] => acc
  | acc, x :: xs => uniq (addN acc x) xs
theorem uniq_snoc : ∀ (xs acc : List Str) (x : Str), uniq acc (xs ++ [x]) = addN (uniq acc xs) x
  | [], _, _ => rfl
  | y :: xs, acc, x => uniq_snoc xs (addN acc y) x
theorem uniq_len : ∀ (xs acc : List Str), (uniq acc xs).length ≤ acc.length + xs.length
  | [], _ => Nat.le_refl _
  | x :: xs, acc => by
    have h := uniq_len xs (addN acc x)
    have h2 := addN_len (ks := acc) (k := x)
    show (uniq (addN acc x) xs).length ≤ acc.length + (xs.length + 1)
    omega
theorem uniq_mem : ∀ (xs acc : List Str) (z : Str), z ∈ uniq acc xs ↔ z ∈ acc ∨ z ∈ xs
  | [], acc, z => by
    rw [show uniq acc [] = acc from rfl]
    simp
  | x :: xs, acc, z => by
    show z ∈ uniq (addN acc x) xs ↔ _
    rw [uniq_mem xs, mem_addN, List.mem_cons, or_assoc]
theorem uniq_nodup : ∀ (xs acc : List Str), acc.Nodup → (uniq acc xs).Nodup
  | [], _, h => h
  | x :: xs, acc, h => uniq_nodup xs (addN acc x) (addN_nodup h)
/-- the loop of set.update, over texts -/
theorem update_S {I : Addr} {fp wr : List Addr} {G : Array GenState → Array GenState → Prop} {n : Nat} {Pv : Nat → Value → Prop} {St : Nat → Shared → Prop} {R : Result → Shared → Prop} (W : WalksS P w A.in1 I fp wr G n Pv St) (D : Addr) (hDf : D ∉ fp)
    (zs : List Str) (hn : n = zs.length) (hv : ∀ i v, Pv i v → ∃ x tk, zs[i]? = some x ∧ v = .str x tk) (few : zs.length + 1 < scanBound) :
    ∀ (k i : Nat) (s : Shared), n - i = k → i ≤ n → St i s → SetS w s.heap D (uniq [] (zs.take i)) → (∀ s', Moved (D :: wr) G s s' → SetS w s'.heap D (uniq [] zs) → R (.ok (.ret .none)) s') →
      codeAny (model P w) A (.builtin "set.update.loop" ⟨[.ref D, .ref I], []⟩) R s := by
  have hDw : D ∉ wr := fun z => hDf (W.sub _ z)
  have sub : ∀ b ∈ wr, b ∈ D :: wr := fun b hb => List.mem_cons_of_mem _ hb
  intro k
  induction k with
  | zero =>
    intro i s hk hi hst hS q
    have hin : i = zs.length := by omega
    rw [hin, List.take_length] at hS
    have hin' : i = n := by omega
    subst hin'
    refine codeAny_builtin F.entry_set_update_loop ?_
    rw [Around.under_plainId F.plain_set_update_loop _]
    show wpAny _ A.in1 (pyNext (.ref I) >>= _) _ _ s
    refine wpAny_bind (W.done s _ _ hst fun s' hm => ?_)
    show wpAny _ A.in1 (ret Value.none) _ _ s'
    exact wpAny_pure (q s' (hm.mono sub) (hS.at fun o e => hm.heap D o hDw e))
  | succ k ih =>
    intro i s hk hi hst hS q
    have hlt : i < n := by omega
    refine codeAny_builtin F.entry_set_update_loop ?_
    rw [Around.under_plainId F.plain_set_update_loop _]
    show wpAny _ A.in1 (pyNext (.ref I) >>= _) _ _ s
    refine wpAny_bind (W.item i s _ _ hlt hst fun v s' hP hst' hm => ?_)
    obtain ⟨x, tk, hx, rfl⟩ := hv i v hP
    have hS' : SetS w s'.heap D (uniq [] (zs.take i)) := hS.at fun o e => hm.heap D o hDw e
    show wpAny _ A.in1 (holding [Value.str x tk] (setAdd D (.str x tk)) >>= _) _ _ s'
    refine wpAny_bind (wpAny_holding ?_)
    unfold setAdd
    have me : (PySem.strKind P w).is x (.str x tk) = true := by
      show Value.isStrOf x (.str x tk) = true
      simp [Value.isStrOf]
    refine wpAny_holding (wpAny_bind ((PySem.strKind P w).pyHash me ?_))
    have room : (uniq [] (zs.take i)).length + 1 < scanBound := by
      have z := uniq_len (zs.take i) []
      rw [List.length_take] at z
      have z0 : ([] : List Str).length = 0 := rfl
      omega
    refine lay_in (s := { s' with toks := s'.toks + 1 }) hS' room fun h' sb R2 b => ?_
    rw [← uniq_snoc, show zs.take i ++ [x] = zs.take (i + 1) by rw [List.take_add_one, hx]; rfl] at R2
    refine wpAny_pure ⟨plainId_quiet F.plain_set_update_loop _, ih (i + 1) _ (by omega) hlt (W.frame _ s' _ _ hst' (Nat.le_add_right _ _) fun b hb o e => ?_) R2 fun s'' hm'' hS'' => ?_⟩
    · rw [sb.2 b (fun z : b = D => hDf (by rw [← z]; exact hb))]
      exact e
    · refine q s'' (Moved.trans W.gtrans ((hm.mono sub).then_heap (Nat.le_add_right _ _) fun b o hb e => ?_) hm'') hS''
      rw [sb.2 b (fun z : b = D => hb (by rw [z]; exact List.mem_cons_self))]
      exact e
end
section
variable {X : Cx}
/-- sorted(set of texts) -/
def rSortSS (w : World) : List V → Hp → VK → Prop := fun vs H Q => ∃ (a : Addr) (ks : List Str), vs = [V.ref a] ∧ H a = some (SetSO w a ks) ∧ ks.length < 64 ∧ ∀ (ys : List Str) (p : Addr), ys.Perm ks → sortedS ys = true → H p = none → Q (.ref p) (upd H p (.lst (ys.map V.str)))
theorem cr_sortSS (hc : X.calm = true) : CallR X (.builtin "sorted") (rSortSS X.w) := by
  intro pins s σ H vs us Q I r h
  obtain ⟨a, ks, rfl, ha, few, q⟩ := h
  rw [Vals.ref1 r]
  refine sorted_S (setSO_at I ha) (I.ok.hd hc) few fun s' p out c ys k g o hp hg hi pm hs => ?_
  have hn : H p = none := I.hok.fresh hp
  have hlen : (ys.map V.str).length ≤ sizeLine := by
    have z := pm.length_eq
    rw [List.length_map, sizeLine_eq]
    omega
  have J : Inv X pins σ (upd H p (.lst (ys.map V.str))) { s with heap := s'.heap, gens := s'.gens, drawn := s'.drawn, toks := s'.toks } :=
    I.call (ch := []) (Un.laid k hp hn) (I.hok.laid k hp ⟨hlen, out.toList, c, vals_of_strs hi, hg⟩) (by rw [g]; exact I.bare) (fun _ z => nomatch z)
  have e : s' = { s with heap := s'.heap, gens := s'.gens, drawn := s'.drawn, toks := s'.toks } := by
    cases s'
    cases s
    cases o
    rfl
  rw [e]
  exact ⟨.ref p, _, J, rfl, q ys p pm hs hn⟩
end
end Ev

/-! ## set(list of texts) -/
namespace Ev
open PySem PySem.Spec PyProof.Rows L2
section
variable {P : Program} {w : World} {A : Around} {E : Value → Shared → Prop} {s : Shared}
theorem strs_get : ∀ {vs : List Value} {zs : List Str} {i : Nat} {v : Value}, StrsAre vs zs → vs[i]? = some v → ∃ x tk, zs[i]? = some x ∧ v = .str x tk
  | _, _, _, _, .nil, e => by cases e
  | _, _, 0, _, .cons x tk _, e => by
    cases e
    exact ⟨x, tk, rfl, rfl⟩
  | _, _, i + 1, _, .cons _ _ h, e => strs_get (i := i) h e
/-- a new empty set behind the heap -/
abbrev emp (w : World) (h : Heap) : Heap := h.push { cls := .type "set", dict := none, data := .set #[] 0 (.fresh 0 0 (!w.params.followText "set-order")) }
theorem set_S {l : Addr} {items : Array Value} {zs : List Str} {Q : Value → Shared → Prop} (hh : A.handled = none) (hl : s.heap.IsList l items) (hit : StrsAre items.toList zs) (few : zs.length + 1 < scanBound)
    (q : ∀ (h' : Heap) (tk : Nat), SetS w h' s.heap.objs.size (uniq [] zs) → (∀ b o, s.heap.get? b = some o → h'.get? b = some o) → Q (.ref s.heap.objs.size) { s with heap := h', toks := tk }) :
    wpAny (model P w) A (call (.type "set") [.ref l]) Q E s := by
  have hz : items.size = zs.length := by
    have z := hit.length
    rw [Array.length_toList] at z
    exact z
  obtain ⟨c, tl, hmro⟩ := F.called_set.mro
  have f1 := F.called_set.made
  have f2 := F.called_set.sub
  have f3 := F.called_set.notType
  have f4 := F.called_set.canCreate
  have f5 := F.typeCall_set_1 (.ref l)
  refine wpAny_call (codeAny_of_tree ?_)
  show wpAny _ _ (callAny (.type "set") _) _ _ _
  refine wpAny_pure ⟨Code.quiet_builtin _ (by decide +kernel), codeAny_builtin F.entry_type_call ?_⟩
  rw [Around.under_plain (weight_type_call_type "set" [.ref l] []) rfl]
  repeat (any_goals (first | assumption | wp_step))
  refine codeAny_mono (code_set_led1 (.ref l) (E := E) (Q₁ := fun v s1 => v = .ref s.heap.objs.size ∧ s1 = { s with heap := emp w s.heap }) ⟨rfl, rfl⟩) fun r s1 hr => ?_
  match r, hr with
  | .error e, hr => exact hr
  | .ok (.ret v), hr =>
    obtain ⟨rfl, rfl⟩ := hr
    have hD : (emp w s.heap).get? s.heap.objs.size = some { cls := .type "set", dict := none, data := .set #[] 0 (.fresh 0 0 (!w.params.followText "set-order")) } := Heap.get?_push_size _ rfl
    have hT : Shared.TypeIs { s with heap := emp w s.heap } (.ref s.heap.objs.size) "set" := ⟨_, hD, rfl⟩
    have f6 := F.called_set.init.lookup
    have f7 := F.called_set.init.bind (.ref s.heap.objs.size)
    repeat (any_goals (first | assumption | wp_step))
    refine codeAny_mono (codeAny_call_builtin (R := wants (fun r s2 => r = .none ∧ ∃ h' tk, s2 = { s with heap := h', toks := tk } ∧ SetS w h' s.heap.objs.size (uniq [] zs) ∧ ∀ b o, s.heap.get? b = some o → h'.get? b = some o) E)
      F.called_set.init.plain F.entry_set_init (check_set_init_1 hT ?_)) fun r2 s2 hr2 => ?_
    · obtain ⟨⟨oc, od, odt, osl⟩, ho, hc, nl, hd⟩ := hl
      simp only at hc hd
      subst hc hd
      have ho1 : (emp w s.heap).get? l = some { cls := .type "list", dict := od, data := .seq items nl, slots := osl } := Heap.get?_push_of_some _ ho
      have l1 : (emp w s.heap).IsList l items := ⟨_, ho1, rfl, nl, rfl⟩
      have f8 := F.sub_list_set
      have f9 := F.sub_list_frozenset
      have f10 : (Value.type "list" == Value.type "dict") = false := by decide
      unfold Builtin.«set.__init__» noKeywords Builtin.Frozenset.updateFrom
      generalize hPI : pyIter = PI
      wp_walk
      subst hPI
      refine wpAny_pyIter_list l1 (wpAny_bind (wpAny_runValue ?_))
      have lt : l < s.heap.objs.size := Heap.lt_size ho
      have h3 : A.in1.in1.in1.handled = none := by simp [hh]
      have sz : (emp w s.heap).objs.size = s.heap.objs.size + 1 := Heap.size_push ..
      have neI : l ≠ (emp w s.heap).objs.size := by
        rw [sz]
        exact Nat.ne_of_lt (Nat.lt_succ_of_lt lt)
      have nf : s.heap.objs.size ∉ [(emp w s.heap).objs.size, l] := by
        rw [sz, List.mem_cons, List.mem_singleton, not_or]
        exact ⟨Nat.ne_of_lt (Nat.lt_succ_self _), Nat.ne_of_gt lt⟩
      have hv : ∀ (i : Nat) (v : Value), items[i]? = some v → ∃ x tk, zs[i]? = some x ∧ v = .str x tk := fun i v e => by
        have z : items.toList[i]? = some v := by
          rw [Array.getElem?_toList]
          exact e
        exact strs_get hit z
      refine update_S ((Walks.list h3 _ l neI items).toS) s.heap.objs.size nf zs hz hv few (items.size - 0) 0 _ (by omega) (Nat.zero_le _) ⟨⟨_, Heap.get?_push_size _ rfl, rfl, rfl⟩, l1.push _⟩
        ((setS_new w s.heap).at fun o e => Heap.get?_push_of_some _ e) fun s' hm hS' => ?_
      obtain ⟨h', g2, d', tk', os'⟩ := s'
      have eg : g2 = s.gens := hm.gens
      have ed : d' = s.drawn := hm.drawn
      have eo : os' = s.os := hm.os
      subst eg
      subst ed
      subst eo
      show wpAny _ _ _ _ _ _
      refine wpAny_pure ?_
      show wpAny _ _ (ret Value.none) _ _ _
      refine wpAny_pure ⟨rfl, h', tk', rfl, hS', fun b o e => ?_⟩
      have lb := Heap.lt_size e
      refine hm.heap b o (fun z => ?_) (Heap.get?_push_of_some _ (Heap.get?_push_of_some _ e))
      rcases List.mem_cons.mp z with z | z
      · rw [z] at lb
        exact Nat.lt_irrefl _ lb
      · have z := List.mem_singleton.mp z
        rw [z, sz] at lb
        exact Nat.not_lt_of_le (Nat.le_succ _) lb
    · match r2, hr2 with
      | .error e, hr2 => exact hr2
      | .ok (.ret v), hr2 =>
        obtain ⟨rfl, h', tk, rfl, hS', hk⟩ := hr2
        repeat (any_goals (first | assumption | wp_step))
        exact q _ _ hS' hk
      | .ok .next, hr2 => exact hr2.elim
      | .ok .brk, hr2 => exact hr2.elim
      | .ok .cont, hr2 => exact hr2.elim
  | .ok .next, hr => exact hr.elim
  | .ok .brk, hr => exact hr.elim
  | .ok .cont, hr => exact hr.elim
end
section
variable {X : Cx}
/-- set(list of texts) -/
def rSetS (K : PySem.W.Frag) (w : World) : List V → Hp → VK → Prop := fun xs H Q => ∃ (l : Addr) (zs : List Str), xs = [V.ref l] ∧ SqL K H l (zs.map V.str) ∧ zs.length < 4000 ∧ ∀ a, H a = none → Q (.ref a) (upd H a (SetSO w a (uniq [] zs)))
theorem cr_setS (hc : X.calm = true) : CallR X (.type "set") (rSetS X.K X.w) := by
  intro pins s σ H xs us Q I r h
  obtain ⟨l, zs, rfl, hl, few, q⟩ := h
  rw [Vals.ref1 r]
  obtain ⟨its, rv, pl, hz⟩ := I.list hl
  have hn : H s.heap.objs.size = none := I.hok.fresh (Nat.le_refl _)
  have hb : scanBound = 4096 := rfl
  refine set_S (P := X.prog) (w := X.w) (I.ok.hd hc) pl.isList (by simpa using rv.strs) (by omega) fun h' tk R k => ?_
  exact ⟨.ref s.heap.objs.size, upd H s.heap.objs.size (SetSO X.w s.heap.objs.size (uniq [] zs)), I.laid (t' := tk) k (Nat.le_refl _) (setSO_ok R), rfl, q _ hn⟩
end
end Ev

/-! ## Programs, pairs, and what comprehensions over them give -/
namespace Ev
open PySem PySem.Spec PyProof.Rows L2
/-- a statement that is never reached -/
theorem ps_dead {X : Cx} {st : Stmt} : PS X st (fun _ _ _ => False) := ⟨fun _ _ _ _ _ _ h => h.elim⟩
theorem pss_dead {X : Cx} {b : List Stmt} : PSs X b (fun _ _ _ => False) := ⟨fun _ _ _ _ _ _ h => h.elim⟩
inductive It where
  | line (x : Str) (t : Int)
  | loop (r : Int) (is : List It)
mutual
def It.d : It → PyData
  | .line x t => .tuple [.str "line", .str x, .int t]
  | .loop r is => .tuple [.str "loop", .int r, .tuple (Its.d is)]
def Its.d : List It → List PyData
  | [] => []
  | i :: is => It.d i :: Its.d is
end
theorem Its.d_map : ∀ is : List It, Its.d is = is.map It.d
  | [] => by rw [Its.d]; rfl
  | i :: is => by rw [Its.d, Its.d_map is]; rfl
/-- loops at most n deep, numbers from 0 below 2 ^ B -/
def Okp (B : Nat) : Nat → It → Prop
  | _, .line _ t => 0 ≤ t ∧ t < (2 ^ B : Nat)
  | 0, .loop _ _ => False
  | n + 1, .loop r is => 0 ≤ r ∧ r < (2 ^ B : Nat) ∧ ∀ i ∈ is, Okp B n i
theorem okp_line {B n : Nat} {x : Str} {t : Int} : Okp B n (.line x t) ↔ 0 ≤ t ∧ t < (2 ^ B : Nat) := by
  cases n <;> exact Iff.rfl
mutual
/-- the lines with their ticks, all rounds r times -/
def It.sp (r : Int) : It → List (Str × Int)
  | .line x t => [(x, r * t)]
  | .loop k is => Its.sp (r * k) is
def Its.sp (r : Int) : List It → List (Str × Int)
  | [] => []
  | i :: is => It.sp r i ++ Its.sp r is
end
theorem Its.sp_app (r : Int) : ∀ is js : List It, Its.sp r (is ++ js) = Its.sp r is ++ Its.sp r js
  | [], js => by
    rw [List.nil_append, Its.sp]
    rfl
  | i :: is, js => by
    rw [List.cons_append, Its.sp, Its.sp, Its.sp_app r is js, List.append_assoc]
theorem Its.sp_one (r : Int) (i : It) : Its.sp r [i] = It.sp r i := by
  rw [Its.sp, Its.sp, List.append_nil]
mutual
/-- how many lines there are -/
def It.nl : It → Nat
  | .line _ _ => 1
  | .loop _ is => Its.nl is
def Its.nl : List It → Nat
  | [] => 0
  | i :: is => It.nl i + Its.nl is
end
mutual
theorem It.sp_len (r : Int) : ∀ i : It, (It.sp r i).length = It.nl i
  | .line x t => by
    rw [It.sp, It.nl]
    rfl
  | .loop k is => by
    rw [It.sp, It.nl, Its.sp_len (r * k) is]
theorem Its.sp_len (r : Int) : ∀ is : List It, (Its.sp r is).length = Its.nl is
  | [] => by
    rw [Its.sp, Its.nl]
    rfl
  | i :: is => by
    rw [Its.sp, Its.nl, List.length_append, It.sp_len r i, Its.sp_len r is]
end
theorem Its.nl_app : ∀ is js : List It, Its.nl (is ++ js) = Its.nl is + Its.nl js
  | [], js => by
    rw [List.nil_append, Its.nl, Nat.zero_add]
  | i :: is, js => by
    rw [List.cons_append, Its.nl, Its.nl, Its.nl_app is js, Nat.add_assoc]
theorem Its.nl_mem : ∀ {is : List It} {i : It}, i ∈ is → It.nl i ≤ Its.nl is
  | j :: is, i, h => by
    rw [Its.nl]
    rcases List.mem_cons.mp h with rfl | h
    · exact Nat.le_add_right _ _
    · exact Nat.le_trans (Its.nl_mem h) (Nat.le_add_left _ _)
/-! ### pairs -/
def pairD (p : Str × Int) : PyData := .tuple [.str p.1, .int p.2]
/-- a list of pairs -/
def gPl (K : PySem.W.Frag) (ps : List (Str × Int)) : GP := ⟨fun H u => ∃ l us, u = .ref l ∧ H l = some (.lst us) ∧ DaAll K H us (ps.map pairD), fun s ⟨l, us, h1, h2, h3⟩ => ⟨l, us, h1, s _ _ h2, h3.mono s⟩⟩
section
variable {K : PySem.W.Frag} {H H' : Hp}
theorem da_app {us vs : List V} {ds es : List PyData} : DaAll K H us ds → DaAll K H vs es → DaAll K H (us ++ vs) (ds ++ es)
  | .nil, k => k
  | .cons h t, k => .cons h (da_app t k)
theorem daAll_len : ∀ {vs : List V} {ds : List PyData}, DaAll K H vs ds → vs.length = ds.length
  | _, _, .nil => rfl
  | _, _, .cons _ t => by
    rw [List.length_cons, List.length_cons, daAll_len t]
theorem daAll_at : ∀ {vs : List V} {ds : List PyData} {j : Nat} {x : V}, DaAll K H vs ds → vs[j]? = some x → ∃ d, ds[j]? = some d ∧ Da K H x d
  | _, _, _, _, .nil, e => by cases e
  | _, _, 0, _, .cons h _, e => by
    cases e
    exact ⟨_, rfl, h⟩
  | _, _, j + 1, _, .cons _ t, e => daAll_at (j := j) t e
mutual
/-- made of tuples alone -/
def tupD : PyData → Bool
  | .tuple ds => tupDs ds
  | .list _ => false
  | .dict _ => false
  | _ => true
def tupDs : List PyData → Bool
  | [] => true
  | d :: ds => tupD d && tupDs ds
end
/-- what is no list stays -/
def Kt (H H' : Hp) : Prop := ∀ b o, H b = some o → (∀ xs, o ≠ .lst xs) → H' b = some o
theorem Kt.of {H H' : Hp} (s : Same H H') : Kt H H' := fun b o e _ => s b o e
theorem Kt.put {H : Hp} {l : Addr} {xs : List V} {o : HO} (h : H l = some (.lst xs)) : Kt H (upd H l o) := fun b u e n => by
  have z : b ≠ l := fun z => by
    rw [z, h] at e
    cases e
    exact n xs rfl
  rw [upd_ne z]
  exact e
theorem Kt.trans {H1 H2 H3 : Hp} (a : Kt H1 H2) (b : Kt H2 H3) : Kt H1 H3 := fun x o e n => b x o (a x o e n) n
mutual
theorem Da.kt (k : Kt H H') : ∀ {v : V} {d : PyData}, tupD d = true → Da K H v d → Da K H' v d
  | _, _, _, .non => .non
  | _, _, _, .bl b => .bl b
  | _, _, _, .int i => .int i
  | _, _, _, .str x => .str x
  | _, _, n, .lst _ _ => by
    rw [tupD] at n
    cases n
  | _, _, n, .tup h t => by
    rw [tupD] at n
    refine .tup ?_ (DaAll.kt k n t)
    rcases h with (e | ⟨o, e⟩) | e
    · exact .inl (.inl (k _ _ e fun xs z => by cases z))
    · exact .inl (.inr ⟨o, k _ _ e fun xs z => by cases z⟩)
    · exact .inr e
  | _, _, n, .dic _ _ => by
    rw [tupD] at n
    cases n
theorem DaAll.kt (k : Kt H H') : ∀ {vs : List V} {ds : List PyData}, tupDs ds = true → DaAll K H vs ds → DaAll K H' vs ds
  | _, _, _, .nil => .nil
  | _, _, n, .cons h t => by
    rw [tupDs, Bool.and_eq_true] at n
    exact .cons (Da.kt k n.1 h) (DaAll.kt k n.2 t)
end
theorem tup_pairs : ∀ ps : List (Str × Int), tupDs (ps.map pairD) = true
  | [] => by rw [List.map_nil, tupDs]
  | p :: ps => by
    rw [List.map_cons, tupDs, tup_pairs ps, Bool.and_true]
    unfold pairD
    simp [tupD, tupDs]
theorem da_pair {x : V} {p : Str × Int} (h : Da K H x (pairD p)) : ∃ a, x = .ref a ∧ SqT K H a [.str p.1, .int p.2] := by
  unfold pairD at h
  cases h with
  | @tup a xs _ hs ha =>
  cases ha with
  | cons h1 ha =>
  cases ha with
  | cons h2 ha =>
  cases ha
  cases h1
  cases h2
  exact ⟨a, rfl, hs⟩
end
/-! ### comprehensions whose elements are plain values -/
section
variable {K : PySem.W.Frag} {H0 : Hp} {σ : L2.St} {te ti : TE} {tt : TT}
/-- over a list that an expression gives -/
theorem g_lcF {ds : List PyData} {f : Nat → Bool} {y : Nat → V} {g : TG} {vs : List Nat} (hi : ∀ (H : Hp) (Q : VK), Same H0 H → (∀ H' l us, Same H H' → SqL K H' l us → DaAll K H' us ds → Q (.ref l) H') → ti σ H Q) (hz : ds.length ≤ 1000000)
    (he : ∀ (j : Nat) (x : V) (d : PyData), ds[j]? = some d → ∀ (H : Hp) (R : VK) (N : Hp → Prop), Same H0 H → Da K H x d → (f j = true → ∀ H', Same H H' → R (y j) H') → (f j = false → ∀ H', Same H H' → N H') →
      g x (wipe σ vs) H fun σ2 H2 => wipe σ2 vs = wipe σ vs ∧ tt σ2 H2 fun b H3 => if b = true then te σ2 H3 R else N H3) :
    Gives H0 (tLc (iList K ti) g tt te vs) (gLst ((((List.range ds.length).filter f).map y).map gEq)) σ := fun H Q s q => by
  refine hi H _ s fun H1 l us s1 hl ha => ⟨l, rfl, ⟨us, hl⟩, fun D nD => ?_⟩
  have sl := sizeLine_eq
  have hlen := daAll_len ha
  refine lc_list (K := K) (a := l) (xs := us) (fun k H' => Same H1 H' ∧ H' D = some (.lst (((List.range k).filter f).map y))) ⟨same_put nD, upd_same⟩ (fun k H' _ ⟨s', _⟩ => s'.seq hl) ?_ ?_
  · rintro k x H' hk ⟨s', eD⟩
    obtain ⟨d, hd, hx⟩ := daAll_at ha hk
    have hkl : k < ds.length := (List.getElem?_eq_some_iff.mp hd).1
    have hll : (((List.range k).filter f).map y).length < sizeLine := by
      rw [List.length_map]
      have z := List.length_filter_le f (List.range k)
      rw [List.length_range] at z
      omega
    refine cast ?_ (he k x d hd H' (fun y' H4 => ∃ acc, H4 D = some (.lst acc) ∧ acc.length < sizeLine ∧ Same H1 (upd H4 D (.lst (acc ++ [y']))) ∧ upd H4 D (.lst (acc ++ [y'])) D = some (.lst (((List.range (k + 1)).filter f).map y)))
      (fun H4 => Same H1 H4 ∧ H4 D = some (.lst (((List.range (k + 1)).filter f).map y))) (s.trans (s1.trans s')) (hx.mono s') (fun e H4 s4 => ⟨_, s4 _ _ eD, hll, ?_, ?_⟩) (fun e H4 s4 => ⟨s'.trans s4, ?_⟩))
    · rfl
    · intro b o e
      rw [upd_ne (ne_of_none e nD)]
      exact s4 _ _ (s' _ _ e)
    · rw [upd_same, List.range_succ, List.filter_append, List.map_append]
      simp [e]
    · rw [List.range_succ, List.filter_append]
      simp [e]
      exact s4 _ _ eD
  · rintro H' ⟨s', eD⟩
    rw [hlen] at eD
    exact q H' _ (s1.trans s') ⟨D, _, rfl, eD, allEq⟩
theorem range_map {α β : Type} (l : List α) (f : α → β) (d : β) : (List.range l.length).map (fun j => ((l[j]?).map f).getD d) = l.map f := by
  apply List.ext_getElem
  · rw [List.length_map, List.length_range, List.length_map]
  · intro i h1 h2
    rw [List.getElem_map, List.getElem_range, List.getElem_map]
    rw [List.length_map] at h2
    rw [List.getElem?_eq_getElem h2]
    rfl
/-- sum of a list of numbers -/
theorem g_sum {ns : List Int} (h : Gives H0 te (gLst ((ns.map V.int).map gEq)) σ) : Gives H0 (tCB (rSum K) (tCons te tNil)) (gEq (.int ns.sum)) σ := fun H Q s q =>
  h H _ s fun H1 u s1 ⟨p, us, e, hp, ha⟩ => by
    have eu := all_eq ha
    subst eu
    subst e
    exact ⟨p, ns, rfl, .inl (.inl hp), q H1 _ s1 rfl⟩
end
end Ev

/-! ## Texts in order -/
namespace Ev
open PySem PySem.Spec PyProof.Rows
theorem lt_irr : ∀ a : List Nat, ltCps a a = false
  | [] => rfl
  | x :: a => by
    show (decide (x < x) || (x == x && ltCps a a)) = false
    rw [lt_irr a]
    simp
theorem lt_tri : ∀ a b : List Nat, ltCps a b = false → ltCps b a = false → a = b
  | [], [], _, _ => rfl
  | [], _ :: _, h, _ => by cases h
  | _ :: _, [], _, h => by cases h
  | x :: a, y :: b, h1, h2 => by
    have h1 : (decide (x < y) || (x == y && ltCps a b)) = false := h1
    have h2 : (decide (y < x) || (y == x && ltCps b a)) = false := h2
    rw [Bool.or_eq_false_iff, decide_eq_false_iff_not] at h1 h2
    have e : x = y := by omega
    subst e
    rw [beq_self_eq_true, Bool.true_and] at h1 h2
    rw [lt_tri a b h1.2 h2.2]
/-- not greater is transitive -/
theorem le_tr : ∀ a b c : List Nat, ltCps b a = false → ltCps c b = false → ltCps c a = false
  | [], [], c, _, h => h
  | [], _ :: _, [], _, h => by cases h
  | [], _ :: _, _ :: _, _, _ => rfl
  | _ :: _, [], _, h, _ => by cases h
  | _ :: _, _ :: _, [], _, h => by cases h
  | x :: a, y :: b, z :: c, h1, h2 => by
    have h1 : (decide (y < x) || (y == x && ltCps b a)) = false := h1
    have h2 : (decide (z < y) || (z == y && ltCps c b)) = false := h2
    show (decide (z < x) || (z == x && ltCps c a)) = false
    rw [Bool.or_eq_false_iff, decide_eq_false_iff_not] at h1 h2 ⊢
    refine ⟨by omega, ?_⟩
    by_cases e : z = x
    · subst e
      have e2 : y = z := by omega
      subst e2
      rw [beq_self_eq_true, Bool.true_and] at h1 h2 ⊢
      exact le_tr a b c h1.2 h2.2
    · have : (z == x) = false := by simpa using e
      rw [this, Bool.false_and]
def LeS (a b : Str) : Prop := ltCps b.cps.toList a.cps.toList = false
theorem LeS.rfl' (a : Str) : LeS a a := lt_irr _
theorem LeS.tr {a b c : Str} (h : LeS a b) (k : LeS b c) : LeS a c := le_tr _ _ _ h k
theorem LeS.anti {a b : Str} (h : LeS a b) (k : LeS b a) : a = b := by
  have e := lt_tri _ _ k h
  obtain ⟨x⟩ := a
  obtain ⟨y⟩ := b
  have e : x.toList = y.toList := e
  rw [Array.toList_inj.mp e]
theorem rising_pw : ∀ (r : List Str) (p : Str), risingS p r = true → (p :: r).Pairwise LeS
  | [], _, _ => List.pairwise_singleton _ _
  | x :: r, p, h => by
    have h : (!ltCps x.cps.toList p.cps.toList && risingS x r) = true := h
    rw [Bool.and_eq_true] at h
    have ih := rising_pw r x h.2
    have px : LeS p x := by
      show ltCps x.cps.toList p.cps.toList = false
      have := h.1
      revert this
      cases ltCps x.cps.toList p.cps.toList <;> simp
    refine List.pairwise_cons.mpr ⟨fun y hy => ?_, ih⟩
    rcases List.mem_cons.mp hy with rfl | hy
    · exact px
    · exact px.tr ((List.pairwise_cons.mp ih).1 y hy)
theorem sorted_pw : ∀ {l : List Str}, sortedS l = true → l.Pairwise LeS
  | [], _ => .nil
  | x :: r, h => rising_pw r x h
/-- two rows in order with the same members are one -/
theorem pw_same : ∀ {l m : List Str}, l.Pairwise LeS → m.Pairwise LeS → l.Perm m → l = m
  | [], m, _, _, p => p.nil_eq
  | x :: l, [], _, _, p => by
    have := p.length_eq
    cases this
  | x :: l, y :: m, h, k, p => by
    obtain ⟨h1, h2⟩ := List.pairwise_cons.mp h
    obtain ⟨k1, k2⟩ := List.pairwise_cons.mp k
    have e : x = y := by
      have xy : LeS x y := by
        rcases List.mem_cons.mp (p.mem_iff.mpr (List.mem_cons_self ..)) with e | e
        · rw [e]
          exact LeS.rfl' _
        · exact h1 y e
      have yx : LeS y x := by
        rcases List.mem_cons.mp (p.mem_iff.mp (List.mem_cons_self ..)) with e | e
        · rw [e]
          exact LeS.rfl' _
        · exact k1 x e
      exact xy.anti yx
    subst e
    rw [pw_same h2 k2 p.cons_inv]
theorem sorted_same {l m : List Str} (h : sortedS l = true) (k : sortedS m = true) (p : l.Perm m) : l = m := pw_same (sorted_pw h) (sorted_pw k) p
theorem lt_two : ∀ a b : List Nat, ltCps a b = true → ltCps b a = true → False
  | [], [], h, _ => by cases h
  | [], _ :: _, _, h => by cases h
  | _ :: _, [], h, _ => by cases h
  | x :: a, y :: b, h1, h2 => by
    have h1 : (decide (x < y) || (x == y && ltCps a b)) = true := h1
    have h2 : (decide (y < x) || (y == x && ltCps b a)) = true := h2
    rw [Bool.or_eq_true, decide_eq_true_iff, Bool.and_eq_true, beq_iff_eq] at h1 h2
    rcases h1 with h1 | h1
    · rcases h2 with h2 | h2
      · omega
      · omega
    · rcases h2 with h2 | h2
      · omega
      · exact lt_two a b h1.2 h2.2
def insS (x : Str) : List Str → List Str
  | [] => [x]
  | y :: r => if ltCps y.cps.toList x.cps.toList = true then y :: insS x r else x :: y :: r
theorem ins_perm (x : Str) : ∀ l : List Str, (insS x l).Perm (x :: l)
  | [] => .refl _
  | y :: r => by
    unfold insS
    split
    · exact ((ins_perm x r).cons y).trans (List.Perm.swap x y r)
    · exact .refl _
theorem ins_pw (x : Str) : ∀ l : List Str, l.Pairwise LeS → (insS x l).Pairwise LeS
  | [], _ => List.pairwise_singleton _ _
  | y :: r, h => by
    obtain ⟨h1, h2⟩ := List.pairwise_cons.mp h
    unfold insS
    split
    · rename_i c
      refine List.pairwise_cons.mpr ⟨fun z hz => ?_, ins_pw x r h2⟩
      rcases List.mem_cons.mp ((ins_perm x r).mem_iff.mp hz) with rfl | hz
      · show ltCps z.cps.toList y.cps.toList = false
        by_cases e : ltCps z.cps.toList y.cps.toList = true
        · exact (lt_two _ _ c e).elim
        · exact Bool.eq_false_iff.mpr e
      · exact h1 z hz
    · rename_i c
      have xy : LeS x y := Bool.eq_false_iff.mpr c
      refine List.pairwise_cons.mpr ⟨fun z hz => ?_, h⟩
      rcases List.mem_cons.mp hz with rfl | hz
      · exact xy
      · exact xy.tr (h1 z hz)
def srtS : List Str → List Str
  | [] => []
  | x :: l => insS x (srtS l)
theorem srt_perm : ∀ l : List Str, (srtS l).Perm l
  | [] => .refl _
  | x :: l => (ins_perm x _).trans ((srt_perm l).cons x)
theorem srt_pw : ∀ l : List Str, (srtS l).Pairwise LeS
  | [] => .nil
  | x :: l => ins_pw x _ (srt_pw l)
theorem srt_is {l ys : List Str} (p : ys.Perm l) (h : sortedS ys = true) : ys = srtS l := pw_same (sorted_pw h) (srt_pw l) (p.trans (srt_perm l).symm)
/-- the same members, in order -/
theorem srt_eq {l m : List Str} (h : l.Nodup) (k : m.Nodup) (e : ∀ x, x ∈ l ↔ x ∈ m) : srtS l = srtS m :=
  pw_same (srt_pw l) (srt_pw m) ((srt_perm l).trans (((List.perm_ext_iff_of_nodup h k).mpr e).trans (srt_perm m).symm))
end Ev

/-! ## Items, taken apart -/
namespace Ev
open PySem PySem.Spec PyProof.Rows L2
theorem dec_str (x : Str) : decide (V.str x = V.str x) = true := decide_eq_true rfl
theorem dec_ll : decide (V.str "loop" = V.str "line") = false := decide_eq_false fun h => absurd (V.str.inj h) (by decide)
theorem s_ret2 {r1 r2 : List V → Hp → VK → Prop} {te : TE} {D : Ends} {σ : L2.St} {H : Hp} (h : te σ H fun x H1 => r2 [x] H1 fun y H2 => r1 [y] H2 D.rt) : tRet (tCB r1 (tCons (tCB r2 (tCons te tNil)) tNil)) D σ H := h
theorem abs_lt {t : Int} {B : Nat} (h0 : 0 ≤ t) (h1 : t < (2 ^ B : Nat)) : t.natAbs < 2 ^ B := by omega
/-- an item, taken apart -/
theorem da_line {K : PySem.W.Frag} {H : Hp} {v : V} {x : Str} {t : Int} (h : Da K H v (It.d (.line x t))) : ∃ b, v = .ref b ∧ SqT K H b [.str "line", .str x, .int t] := by
  rw [It.d] at h
  cases h with
  | @tup b xs _ hs ha =>
  cases ha with
  | cons h1 ha =>
  cases ha with
  | cons h2 ha =>
  cases ha with
  | cons h3 ha =>
  cases ha
  cases h1
  cases h2
  cases h3
  exact ⟨b, rfl, hs⟩
theorem da_loop {K : PySem.W.Frag} {H : Hp} {v : V} {r : Int} {is : List It} (h : Da K H v (It.d (.loop r is))) : ∃ b w, v = .ref b ∧ SqT K H b [.str "loop", .int r, w] ∧ Da K H w (.tuple (is.map It.d)) := by
  rw [It.d, Its.d_map] at h
  cases h with
  | @tup b xs _ hs ha =>
  cases ha with
  | cons h1 ha =>
  cases ha with
  | cons h2 ha =>
  cases ha with
  | @cons w _ _ _ h3 ha =>
  cases ha
  cases h1
  cases h2
  exact ⟨b, w, rfl, hs, h3⟩
theorem da_prog {K : PySem.W.Frag} {H : Hp} {v : V} {ds : List PyData} (h : Da K H v (.tuple ds)) : ∃ a xs, v = .ref a ∧ SqT K H a xs ∧ DaAll K H xs ds := by
  cases h with
  | tup hs ha => exact ⟨_, _, rfl, hs, ha⟩
theorem sp_take {r : Int} {is : List It} {i : Nat} {it : It} (h : is[i]? = some it) : Its.sp r (is.take (i + 1)) = Its.sp r (is.take i) ++ It.sp r it := by
  rw [List.take_add_one, h, Its.sp_app]
  show _ ++ Its.sp r [it] = _
  rw [Its.sp_one]
theorem nl_take {is : List It} {i : Nat} {it : It} (h : is[i]? = some it) : Its.nl (is.take i) + It.nl it ≤ Its.nl is := by
  have e : is = is.take i ++ is.drop i := (List.take_append_drop i is).symm
  obtain ⟨hi, hx⟩ := List.getElem?_eq_some_iff.mp h
  rw [List.drop_eq_getElem_cons hi, hx] at e
  have z := congrArg Its.nl e
  rw [Its.nl_app, Its.nl] at z
  omega
section
variable {P : Program} {w : World} {K : PySem.W.Frag} {mg : Str → Option Value} {base : Heap}
theorem no_fn {CX : CXT} {k : Nat} {f : Addr} {fd : FuncData} {ps : List Str} : FnOk P w K mg base CX k f fd ps (fun _ _ _ _ => False) :=
  ⟨fun _ _ _ _ h => h.elim, fun _ _ _ _ _ _ _ _ _ _ _ _ _ h => h.elim⟩
/-- what a program must be, to be asked about -/
structure Prg (K : PySem.W.Frag) (B dep : Nat) (H : Hp) (x : V) (is : List It) : Prop where
  da : Da K H x (.tuple (is.map It.d))
  ok : ∀ i ∈ is, Okp B dep i
  few : Its.nl is ≤ 100000
theorem Prg.same {B dep : Nat} {H H' : Hp} {x : V} {is : List It} (h : Prg K B dep H x is) (s : Same H H') : Prg K B dep H' x is := ⟨h.da.mono s, h.ok, h.few⟩
/-- bounds for numbers -/
def Room2 (B dep : Nat) : Prop := 0 < B ∧ 64 + (dep + 1) * B ≤ 900000
def lenI (is : List It) : Int := ((Its.sp 1 is).map (·.2)).sum
end
def linesI (is : List It) : List Str := srtS (uniq [] ((Its.sp 1 is).map (·.1)))
end Ev

/-! ## How long a text of data is; whiles; items as tuples -/
namespace Ev
open PySem PySem.Spec PyProof.Rows L2
/-- a while by an invariant with a number that falls -/
theorem while_w {c : TT} {tb : TS} {D : Ends} {σ : L2.St} {H : Hp} (W : Nat → L2.St → Hp → Prop) (h0 : ∃ m, W m σ H)
    (hs : ∀ m σ H, W m σ H → c σ H fun b H1 => if b = true then tb { D with nx := fun σ' H' => ∃ m', m' < m ∧ W m' σ' H', ct := fun σ' H' => ∃ m', m' < m ∧ W m' σ' H', bk := D.nx } σ H1 else D.nx σ H1)
    (mono : ∀ σ H Q Q', (∀ b H1, Q b H1 → Q' b H1) → c σ H Q → c σ H Q') : tWhile c tb D σ H := by
  refine ⟨W, h0, fun m σ' H' w => mono σ' H' _ _ (fun b H1 h => ?_) (hs m σ' H' w)⟩
  by_cases e : b = true
  · rw [if_pos e] at h ⊢
    exact ⟨_, fun σ2 H2 n => n, h⟩
  · rw [if_neg e] at h ⊢
    exact h
mutual
def It.sz : It → Nat
  | .line _ _ => 1
  | .loop _ is => 1 + Its.sz is
def Its.sz : List It → Nat
  | [] => 0
  | i :: is => It.sz i + Its.sz is
end
theorem sz_mem : ∀ {is : List It} {i : It}, i ∈ is → It.sz i ≤ Its.sz is
  | j :: is, i, h => by
    rw [Its.sz]
    rcases List.mem_cons.mp h with rfl | h
    · exact Nat.le_add_right _ _
    · exact Nat.le_trans (sz_mem h) (Nat.le_add_left _ _)
theorem drop_one {is : List It} {i : Nat} {it : It} (h : is[i]? = some it) : (is.drop i).take 1 = [it] := by
  obtain ⟨hi, hx⟩ := List.getElem?_eq_some_iff.mp h
  rw [List.drop_eq_getElem_cons hi, hx]
  rfl
theorem atI_of {xs : List V} {i : Nat} {v : V} (h : xs[i]? = some v) : atI xs (i : Nat) = some v := atI_nat h
section
variable {K : PySem.W.Frag}
/-- a part of a program -/
theorem Prg.part {B dep : Nat} {H : Hp} {u x : V} {is js : List It} (hp : Prg K B dep H x is) (hu : Da K H u (.tuple (js.map It.d))) (hm : ∀ i ∈ js, i ∈ is) (hn : Its.nl js ≤ Its.nl is) : Prg K B dep H u js :=
  ⟨hu, fun i hi => hp.ok i (hm i hi), Nat.le_trans hn hp.few⟩
theorem nl_take_le (is : List It) (n : Nat) : Its.nl (is.take n) ≤ Its.nl is := by
  have z := congrArg Its.nl (List.take_append_drop n is)
  rw [Its.nl_app] at z
  omega
theorem nl_drop_le (is : List It) (n : Nat) : Its.nl (is.drop n) ≤ Its.nl is := by
  have z := congrArg Its.nl (List.take_append_drop n is)
  rw [Its.nl_app] at z
  omega
theorem map_take {α β : Type} (f : α → β) (l : List α) (n : Nat) : (l.map f).take n = (l.take n).map f := (List.map_take ..).symm
end
structure Sz (e w : Nat) (d : PyData) : Prop where
  sh : d.showable = true
  ls : d.leavesShort 1000 = true
  dp : d.depth ≤ e
  wt : d.weight ≤ w
theorem Sz.up {e e' w w' : Nat} {d : PyData} (h : Sz e w d) (he : e ≤ e') (hw : w ≤ w') : Sz e' w' d := ⟨h.sh, h.ls, Nat.le_trans h.dp he, Nat.le_trans h.wt hw⟩
theorem Sz.fits {e w : Nat} {d : PyData} (h : Sz e w d) (he : e ≤ 64) (hw : w ≤ 16000) : d.showable = true ∧ d.depth ≤ 64 ∧ d.shown.length ≤ sizeLine := by
  refine ⟨h.sh, Nat.le_trans h.dp he, ?_⟩
  have z := PyData.shown_le 1000 (by decide) d h.ls
  have y := sizeLine_eq
  have h1 : (1000 + 2) * d.weight ≤ 1002 * 16000 := Nat.mul_le_mul_left _ (Nat.le_trans h.wt hw)
  omega
theorem sz_int {i : Int} {k : Nat} (h : i.natAbs < 2 ^ k) (h0 : 0 < k) (hk : k ≤ 900) : Sz 0 k (.int i) := by
  have hl := PySem.Flt.log2_lt_of h0 h
  refine ⟨?_, ?_, ?_, ?_⟩
  · rw [PyData.showable]
    exact decide_eq_true (by omega)
  · rw [PyData.leavesShort]
    refine decide_eq_true ?_
    have z := int_text_length_le h0 hl
    have e : (PyData.shown (.int i)).length = (toString i).length := by
      rw [PyData.shown, PySem.ofString_length]
    omega
  · rw [PyData.depth]
    exact Nat.le_refl _
  · rw [PyData.weight]
    split <;> omega
theorem sz_str {x : Str} {n : Nat} (h : x.cps.size ≤ n) (hc : (x.cps.toList.all fun c => decide (c < 16 ^ 8)) = true) : Sz 0 n (.str x) := by
  refine ⟨by rw [PyData.showable], ?_, ?_, ?_⟩
  · rw [PyData.leavesShort]
    exact hc
  · rw [PyData.depth]
    exact Nat.le_refl _
  · rw [PyData.weight]
    exact h
theorem sz_all {e w : Nat} : ∀ {ds : List PyData}, (∀ d ∈ ds, Sz e w d) → PyData.showableAll ds = true ∧ PyData.leavesShortAll 1000 ds = true ∧ PyData.depthAll ds ≤ e ∧ PyData.weightAll ds ≤ ds.length * (w + 1)
  | [], _ => by
    refine ⟨by rw [PyData.showableAll], by rw [PyData.leavesShortAll], ?_, ?_⟩
    · rw [PyData.depthAll]
      exact Nat.zero_le _
    · rw [PyData.weightAll]
      exact Nat.zero_le _
  | d :: ds, h => by
    obtain ⟨h1, h2, h3, h4⟩ := h d (List.mem_cons_self ..)
    obtain ⟨k1, k2, k3, k4⟩ := sz_all fun x hx => h x (List.mem_cons_of_mem _ hx)
    refine ⟨by rw [PyData.showableAll, h1, k1]; rfl, by rw [PyData.leavesShortAll, h2, k2]; rfl, ?_, ?_⟩
    · rw [PyData.depthAll]
      exact Nat.max_le.mpr ⟨h3, k3⟩
    · rw [PyData.weightAll, List.length_cons, Nat.succ_mul]
      omega
theorem sz_tup {e w : Nat} {ds : List PyData} (h : ∀ d ∈ ds, Sz e w d) : Sz (e + 1) (ds.length * (w + 1)) (.tuple ds) := by
  obtain ⟨k1, k2, k3, k4⟩ := sz_all h
  refine ⟨by rw [PyData.showable]; exact k1, by rw [PyData.leavesShort]; exact k2, ?_, by rw [PyData.weight]; exact k4⟩
  rw [PyData.depth]
  omega
theorem sz_lst {e w : Nat} {ds : List PyData} (h : ∀ d ∈ ds, Sz e w d) : Sz (e + 1) (ds.length * (w + 1)) (.list ds) := by
  obtain ⟨k1, k2, k3, k4⟩ := sz_all h
  refine ⟨by rw [PyData.showable]; exact k1, by rw [PyData.leavesShort]; exact k2, ?_, by rw [PyData.weight]; exact k4⟩
  rw [PyData.depth]
  omega
def nmB (x : Str) : Bool := (decide (x.cps.size ≤ 8) && x.cps.toList.all fun c => decide (c < 16 ^ 8)) && PyData.strOk x
theorem nm_sz {x : Str} (h : nmB x = true) : Sz 0 8 (.str x) := by
  unfold nmB at h
  rw [Bool.and_eq_true, Bool.and_eq_true] at h
  exact sz_str (of_decide_eq_true h.1.1) h.1.2
theorem nm_ok {x : Str} (h : nmB x = true) : PyData.strOk x = true := by
  unfold nmB at h
  rw [Bool.and_eq_true] at h
  exact h.2
mutual
/-- names and numbers are short -/
def It.nm : It → Prop
  | .line x t => nmB x = true ∧ t.natAbs < 2 ^ 128
  | .loop r is => r.natAbs < 2 ^ 128 ∧ Its.nm is
def Its.nm : List It → Prop
  | [] => True
  | i :: is => It.nm i ∧ Its.nm is
end
mutual
def It.ni : It → Nat
  | .line _ _ => 1
  | .loop _ is => 1 + Its.ni is
def Its.ni : List It → Nat
  | [] => 0
  | i :: is => It.ni i + Its.ni is
end
theorem lit_sz : Sz 0 8 (.str "line") ∧ Sz 0 8 (.str "loop") := ⟨nm_sz (by decide +kernel), nm_sz (by decide +kernel)⟩
mutual
theorem It.szd : ∀ (n : Nat) (B : Nat) (i : It), Okp B n i → It.nm i → (It.d i).showable = true ∧ (It.d i).leavesShort 1000 = true ∧ (It.d i).depth ≤ 2 * n + 1 ∧ (It.d i).weight + 1 ≤ 165 * It.ni i
  | n, B, .line x t, _, h => by
    rw [It.nm] at h
    rw [It.d, It.ni]
    have z := sz_tup (e := 0) (w := 128) (ds := [.str "line", .str x, .int t]) fun d hd => by
      rcases List.mem_cons.mp hd with rfl | hd
      · exact lit_sz.1.up (Nat.le_refl _) (by decide)
      rcases List.mem_cons.mp hd with rfl | hd
      · exact (nm_sz h.1).up (Nat.le_refl _) (by decide)
      rcases List.mem_cons.mp hd with rfl | hd
      · exact sz_int h.2 (by decide) (by decide)
      cases hd
    refine ⟨z.sh, z.ls, Nat.le_trans z.dp (by omega), ?_⟩
    rw [PyData.weight, PyData.weightAll, PyData.weightAll, PyData.weightAll, PyData.weightAll]
    have w1 := lit_sz.1.wt
    have w2 := (nm_sz h.1).wt
    have w3 := (sz_int (i := t) h.2 (by decide) (by decide)).wt
    omega
  | 0, B, .loop r is, h, _ => h.elim
  | n + 1, B, .loop r is, ho, h => by
    rw [It.nm] at h
    obtain ⟨_, _, hj⟩ : 0 ≤ r ∧ r < (2 ^ B : Nat) ∧ ∀ i ∈ is, Okp B n i := ho
    obtain ⟨k1, k2, k3, k4⟩ := Its.szd n B is hj h.2
    have z1 := lit_sz.2
    have z2 := sz_int (i := r) h.1 (by decide) (by decide)
    rw [It.d, Its.d_map, It.ni]
    refine ⟨?_, ?_, ?_, ?_⟩
    · rw [PyData.showable, PyData.showableAll, PyData.showableAll, PyData.showableAll, PyData.showableAll, z1.sh, z2.sh]
      rw [PyData.showable, k1]
      rfl
    · rw [PyData.leavesShort, PyData.leavesShortAll, PyData.leavesShortAll, PyData.leavesShortAll, PyData.leavesShortAll, z1.ls, z2.ls]
      rw [PyData.leavesShort, k2]
      rfl
    · rw [PyData.depth, PyData.depthAll, PyData.depthAll, PyData.depthAll, PyData.depthAll]
      have d1 := z1.dp
      have d2 := z2.dp
      have d3 : (PyData.tuple (is.map It.d)).depth ≤ 2 * n + 2 := by
        rw [PyData.depth]
        omega
      have : max (PyData.str "loop").depth (max (PyData.int r).depth (max (PyData.tuple (is.map It.d)).depth 0)) ≤ 2 * n + 2 := by
        refine Nat.max_le.mpr ⟨by omega, Nat.max_le.mpr ⟨by omega, Nat.max_le.mpr ⟨d3, by omega⟩⟩⟩
      omega
    · rw [PyData.weight, PyData.weightAll, PyData.weightAll, PyData.weightAll, PyData.weightAll]
      rw [show (PyData.tuple (is.map It.d)).weight = PyData.weightAll (is.map It.d) by rw [PyData.weight]]
      have w1 := z1.wt
      have w2 := z2.wt
      have h5 : PyData.weightAll (is.map It.d) ≤ 165 * Its.ni is := k4
      omega
theorem Its.szd : ∀ (n : Nat) (B : Nat) (is : List It), (∀ i ∈ is, Okp B n i) → Its.nm is → PyData.showableAll (is.map It.d) = true ∧ PyData.leavesShortAll 1000 (is.map It.d) = true ∧ PyData.depthAll (is.map It.d) ≤ 2 * n + 1 ∧ PyData.weightAll (is.map It.d) ≤ 165 * Its.ni is
  | n, B, [], _, _ => by
    refine ⟨by rw [List.map_nil, PyData.showableAll], by rw [List.map_nil, PyData.leavesShortAll], ?_, ?_⟩
    · rw [List.map_nil, PyData.depthAll]
      exact Nat.zero_le _
    · rw [List.map_nil, PyData.weightAll]
      exact Nat.zero_le _
  | n, B, i :: is, ho, h => by
    rw [Its.nm] at h
    obtain ⟨h1, h2, h3, h4⟩ := It.szd n B i (ho i (List.mem_cons_self ..)) h.1
    obtain ⟨k1, k2, k3, k4⟩ := Its.szd n B is (fun j hj => ho j (List.mem_cons_of_mem _ hj)) h.2
    refine ⟨by rw [List.map_cons, PyData.showableAll, h1, k1]; rfl, by rw [List.map_cons, PyData.leavesShortAll, h2, k2]; rfl, ?_, ?_⟩
    · rw [List.map_cons, PyData.depthAll]
      exact Nat.max_le.mpr ⟨h3, k3⟩
    · rw [List.map_cons, PyData.weightAll, Its.ni]
      omega
end
theorem nm_of : ∀ {is : List It}, (∀ i ∈ is, It.nm i) → Its.nm is
  | [], _ => by
    rw [Its.nm]
    trivial
  | i :: is, h => by
    rw [Its.nm]
    exact ⟨h i (List.mem_cons_self ..), nm_of fun j hj => h j (List.mem_cons_of_mem _ hj)⟩
theorem ni_mul {W : Nat} : ∀ {is : List It}, (∀ i ∈ is, It.ni i ≤ W) → Its.ni is ≤ is.length * W
  | [], _ => by
    rw [Its.ni]
    exact Nat.zero_le _
  | i :: is, h => by
    rw [Its.ni, List.length_cons, Nat.succ_mul]
    have a := h i (List.mem_cons_self ..)
    have b := ni_mul fun j hj => h j (List.mem_cons_of_mem _ hj)
    omega
mutual
theorem It.nl_ni : ∀ i : It, It.nl i ≤ It.ni i
  | .line _ _ => by
    rw [It.nl, It.ni]
    exact Nat.le_refl _
  | .loop _ is => by
    rw [It.nl, It.ni]
    exact Nat.le_trans (Its.nl_ni is) (Nat.le_add_left _ _)
theorem Its.nl_ni : ∀ is : List It, Its.nl is ≤ Its.ni is
  | [] => by
    rw [Its.nl]
    exact Nat.zero_le _
  | i :: is => by
    rw [Its.nl, Its.ni]
    exact Nat.add_le_add (It.nl_ni i) (Its.nl_ni is)
end
mutual
theorem It.tupd : ∀ i : It, tupD (It.d i) = true
  | .line x t => by
    rw [It.d, tupD, tupDs, tupDs, tupDs, tupDs, tupD, tupD, tupD]
    rfl
    all_goals (intros; contradiction)
  | .loop r is => by
    rw [It.d, tupD, tupDs, tupDs, tupDs, tupDs, tupD, tupD, tupD, Its.tupd is]
    rfl
    all_goals (intros; contradiction)
theorem Its.tupd : ∀ is : List It, tupDs (Its.d is) = true
  | [] => by rw [Its.d, tupDs]
  | i :: is => by rw [Its.d, tupDs, It.tupd i, Its.tupd is]; rfl
end
theorem prog_tup (is : List It) : tupD (.tuple (is.map It.d)) = true := by
  rw [tupD, ← Its.d_map]
  exact Its.tupd is
theorem Bu.kt {p : Addr} {H H' : Hp} {xs : List V} (h : Bu p H H') (hp : H p = some (.lst xs)) : Kt H H' := fun b o e n => by
  refine h b o (fun z => ?_) e
  rw [z, hp] at e
  cases e
  exact n xs rfl
theorem Prg.kt {K : PySem.W.Frag} {B dep : Nat} {H H' : Hp} {x : V} {is : List It} (h : Prg K B dep H x is) (k : Kt H H') : Prg K B dep H' x is := ⟨h.da.kt k (prog_tup is), h.ok, h.few⟩
/-! ### the ticks, written out -/
mutual
def It.w : It → List Str
  | .line x t => List.replicate t.toNat x
  | .loop r is => (List.replicate r.toNat (Its.w is)).flatten
def Its.w : List It → List Str
  | [] => []
  | i :: is => It.w i ++ Its.w is
end
theorem w_app : ∀ is js : List It, Its.w (is ++ js) = Its.w is ++ Its.w js
  | [], js => by
    rw [List.nil_append, Its.w, List.nil_append]
  | i :: is, js => by
    rw [List.cons_append, Its.w, Its.w, w_app is js, List.append_assoc]
theorem w_one (i : It) : Its.w [i] = It.w i := by
  rw [Its.w, Its.w, List.append_nil]
mutual
/-- numbers from 0 -/
def It.nn : It → Prop
  | .line _ t => 0 ≤ t
  | .loop r is => 0 ≤ r ∧ Its.nn is
def Its.nn : List It → Prop
  | [] => True
  | i :: is => It.nn i ∧ Its.nn is
end
mutual
/-- numbers from 1, no empty loop -/
def It.ps : It → Prop
  | .line _ t => 1 ≤ t
  | .loop r is => 1 ≤ r ∧ is ≠ [] ∧ Its.ps is
def Its.ps : List It → Prop
  | [] => True
  | i :: is => It.ps i ∧ Its.ps is
end
mutual
theorem It.ps_nn : ∀ i : It, It.ps i → It.nn i
  | .line x t, h => by
    rw [It.ps] at h
    rw [It.nn]
    omega
  | .loop r is, h => by
    rw [It.ps] at h
    rw [It.nn]
    exact ⟨by omega, Its.ps_nn is h.2.2⟩
theorem Its.ps_nn : ∀ is : List It, Its.ps is → Its.nn is
  | [], _ => by
    rw [Its.nn]
    trivial
  | i :: is, h => by
    rw [Its.ps] at h
    rw [Its.nn]
    exact ⟨It.ps_nn i h.1, Its.ps_nn is h.2⟩
end
theorem ps_mem : ∀ {is : List It} {i : It}, Its.ps is → i ∈ is → It.ps i
  | j :: is, i, h, m => by
    rw [Its.ps] at h
    rcases List.mem_cons.mp m with rfl | m
    · exact h.1
    · exact ps_mem h.2 m
theorem ps_of : ∀ {is : List It}, (∀ i ∈ is, It.ps i) → Its.ps is
  | [], _ => by
    rw [Its.ps]
    trivial
  | i :: is, h => by
    rw [Its.ps]
    exact ⟨h i (List.mem_cons_self ..), ps_of fun j hj => h j (List.mem_cons_of_mem _ hj)⟩
theorem ps_take {is : List It} (h : Its.ps is) (n : Nat) : Its.ps (is.take n) := ps_of fun i hi => ps_mem h (List.mem_of_mem_take hi)
theorem ps_one {i : It} (h : It.ps i) : Its.ps [i] := ps_of fun j hj => by
  rw [List.mem_singleton.mp hj]
  exact h
theorem flat_count (x : Str) (l : List Str) : ∀ n : Nat, ((List.replicate n l).flatten.count x) = n * l.count x
  | 0 => by
    rw [List.replicate_zero, Nat.zero_mul]
    rfl
  | n + 1 => by
    rw [List.replicate_succ, List.flatten_cons, List.count_append, flat_count x l n, Nat.succ_mul]
    omega
theorem flat_len (l : List Str) : ∀ n : Nat, ((List.replicate n l).flatten.length) = n * l.length
  | 0 => by
    rw [List.replicate_zero, Nat.zero_mul]
    rfl
  | n + 1 => by
    rw [List.replicate_succ, List.flatten_cons, List.length_append, flat_len l n, Nat.succ_mul]
    omega
theorem mem_flat {x : Str} {l : List Str} {n : Nat} (h : 1 ≤ n) : x ∈ (List.replicate n l).flatten ↔ x ∈ l := by
  rw [List.mem_flatten]
  constructor
  · rintro ⟨m, h1, h2⟩
    rw [List.eq_of_mem_replicate h1] at h2
    exact h2
  · intro hx
    exact ⟨l, List.mem_replicate.mpr ⟨by omega, rfl⟩, hx⟩
mutual
theorem It.w_pos : ∀ i : It, It.ps i → 1 ≤ (It.w i).length
  | .line x t, h => by
    rw [It.ps] at h
    rw [It.w, List.length_replicate]
    omega
  | .loop r is, h => by
    rw [It.ps] at h
    rw [It.w, flat_len]
    have z := Its.w_pos is h.2.1 h.2.2
    have z2 : 1 * 1 ≤ r.toNat * (Its.w is).length := Nat.mul_le_mul (by omega) z
    omega
theorem Its.w_pos : ∀ is : List It, is ≠ [] → Its.ps is → 1 ≤ (Its.w is).length
  | [], n, _ => absurd rfl n
  | i :: is, _, h => by
    rw [Its.ps] at h
    rw [Its.w, List.length_append]
    have z := It.w_pos i h.1
    omega
end
/-- the ticks up to one within a loop -/
theorem flat_take {l : List Str} (hl : 1 ≤ l.length) : ∀ (n s : Nat), s < n * l.length → (List.replicate n l).flatten.take s = (List.replicate (s / l.length) l).flatten ++ l.take (s % l.length)
  | 0, s, h => by
    rw [Nat.zero_mul] at h
    omega
  | n + 1, s, h => by
    rw [List.replicate_succ, List.flatten_cons, List.take_append]
    by_cases c : s < l.length
    · rw [Nat.div_eq_of_lt c, Nat.mod_eq_of_lt c, Nat.sub_eq_zero_of_le (Nat.le_of_lt c)]
      simp
    · have e : s = (s - l.length) + l.length := by omega
      rw [Nat.succ_mul] at h
      have ih := flat_take hl n (s - l.length) (by omega)
      rw [List.take_of_length_le (by omega), ih]
      have d1 : s / l.length = (s - l.length) / l.length + 1 := by
        conv => lhs; rw [e]
        rw [Nat.add_div_right _ (by omega)]
      have d2 : s % l.length = (s - l.length) % l.length := by
        conv => lhs; rw [e]
        rw [Nat.add_mod_right]
      rw [d1, d2, List.replicate_succ, List.flatten_cons, List.append_assoc]
theorem flat_get {l : List Str} (hl : 1 ≤ l.length) : ∀ (n s : Nat), s < n * l.length → (List.replicate n l).flatten[s]? = l[s % l.length]?
  | 0, s, h => by
    rw [Nat.zero_mul] at h
    omega
  | n + 1, s, h => by
    rw [List.replicate_succ, List.flatten_cons]
    by_cases c : s < l.length
    · rw [List.getElem?_append_left c, Nat.mod_eq_of_lt c]
    · rw [Nat.succ_mul] at h
      rw [List.getElem?_append_right (by omega), flat_get hl n (s - l.length) (by omega)]
      congr 1
      exact (Nat.mod_eq_sub_mod (by omega)).symm
end Ev

/-! ## The numbers of a pot -/
namespace Ev
open PySem PySem.Spec PyProof.Rows L2
/-- the numbers of a pot out of which at most n draws came by reckoning -/
def PotL (n : Nat) (xs : List V) : Prop := ∃ x y c : Int, xs = [.int x, .int y, .int c] ∧ 0 ≤ x ∧ 0 ≤ y ∧ y < 2305843009213693921 ∧ 0 ≤ c ∧ c ≤ n
theorem own_nn (z m : Int) (b : Bool) (h : 0 < m) : 0 ≤ z % m * (if b = true then 1 else 0) := by
  refine Int.mul_nonneg (Int.emod_nonneg _ (by omega)) ?_
  cases b <;> decide
theorem flag_in (b : Bool) : -(2 ^ 64) < (if b = true then 1 else 0 : Int) ∧ (if b = true then 1 else 0 : Int) < 2 ^ 64 := by
  cases b <;> decide
theorem seq_nn {d : Int} {n : Nat} (h0 : 0 ≤ d) (h1 : d < n) : seqIndex? d n = some d.toNat := by
  unfold seqIndex?
  simp only []
  first
    | (rw [if_neg (by omega), if_pos (by omega)])
    | (split <;> simp_all <;> omega)
    | omega
/-- what len of a list or a tuple asks -/
def rLenK (K : PySem.W.Frag) : List V → Hp → VK → Prop := fun xs H Q => ∃ p ys, xs = [V.ref p] ∧ (SqL K H p ys ∨ SqT K H p ys) ∧ Q (.int (ys.length : Nat)) H
/-- what is tracked in H' and was not in H -/
def newer (H H' : Hp) : Hp := fun b => if H b = none then H' b else none
theorem newer_at {H H' : Hp} {b : Addr} (h : H b = none) : newer H H' b = H' b := if_pos h
theorem newer_le {A B A' B' : Hp} (h1 : ∀ b, A b = none → A' b = none) (h2 : ∀ b o, A b = none → B b = some o → B' b = some o) : Same (newer A B) (newer A' B') := fun b o e => by
  by_cases hb : A b = none
  · rw [newer_at hb] at e
    rw [newer_at (h1 b hb)]
    exact h2 b o hb e
  · have z : newer A B b = none := if_neg hb
    rw [z] at e
    cases e
theorem newer_sub {H H' : Hp} (h : ∀ b o, H b = none → H' b = some o → H' b = some o) : Same (newer H H') H' := fun b o e => by
  by_cases hb : H b = none
  · rw [newer_at hb] at e
    exact e
  · have z : newer H H' b = none := if_neg hb
    rw [z] at e
    cases e
theorem daAll_append {K : PySem.W.Frag} {H : Hp} {v : V} {d : PyData} (h : Da K H v d) : ∀ {vs : List V} {ds : List PyData}, DaAll K H vs ds → DaAll K H (vs ++ [v]) (ds ++ [d])
  | _, _, .nil => .cons h .nil
  | _, _, .cons a t => .cons a (daAll_append h t)
/-- tracked things stay tracked -/
theorem Bu.dom {p : Addr} {H H' : Hp} {o : HO} (h : Bu p H H') (hp : H' p = some o) (b : Addr) (e : H' b = none) : H b = none := by
  cases q : H b with
  | none => rfl
  | some u =>
    by_cases z : b = p
    · rw [z, hp] at e
      cases e
    · rw [h b u z q] at e
      cases e
theorem dom1 {p l : Addr} {H H' : Hp} {o1 o2 o3 : HO} (h : Bu p H H') (hp : H' p = some o1) (hl : H' l = some o2) {t : Addr} (e : H' t = none) : upd H l o3 t = none := by
  have ntl : t ≠ l := fun z => by
    rw [z, hl] at e
    cases e
  rw [upd_ne ntl]
  exact h.dom hp t e
theorem log_le {m : Int} (h1 : 1 ≤ m) (h2 : m ≤ 10 ^ 18) : m.natAbs.log2 < 9000 :=
  Nat.lt_of_lt_of_le (PySem.Flt.log2_lt_of (show 0 < 64 by decide) (show m.natAbs < 2 ^ 64 by omega)) (by decide)
theorem PotL.up {n m : Nat} {xs : List V} (h : PotL n xs) (k : n ≤ m) : PotL m xs := by
  obtain ⟨x, y, c, h1, h2, h3, h4, h5, h6⟩ := h
  exact ⟨x, y, c, h1, h2, h3, h4, h5, by omega⟩
theorem bu_seq {K : PySem.W.Frag} {p q : Addr} {H H' : Hp} {zs : List V} (n : q ≠ p) (h : Bu p H H') (s : SqL K H q zs) : SqL K H' q zs := by
  rcases s with (e | ⟨o, e⟩) | e
  · exact .inl (.inl (h _ _ n e))
  · exact .inl (.inr ⟨o, h _ _ n e⟩)
  · exact .inr e
end Ev

/-! ## isinstance of any datum; slices of tuples -/
namespace Ev
open PySem PySem.Spec PyProof.Rows L2
def tyD : PyData → String
  | .none => "NoneType"
  | .bool _ => "bool"
  | .int _ => "int"
  | .str _ => "str"
  | .list _ => "list"
  | .tuple _ => "tuple"
  | .dict _ => "dict"
theorem Da.ty {K : PySem.W.Frag} {H : Hp} {x : V} {d : PyData} (h : Da K H x d) : TyX K H x (.type (tyD d)) := by
  cases h with
  | non => exact .base .non
  | bl b => exact .base (.bl b)
  | int i => exact .base (.int i)
  | str x => exact .base (.str x)
  | lst hs ha =>
    rcases hs with (e | ⟨o, e⟩) | ⟨o, its, n, e, hc, _⟩
    · exact .base (.lst e)
    · exact .base (.frz e)
    · exact .kList e hc
  | tup hs ha =>
    rcases hs with (e | ⟨o, e⟩) | ⟨o, its, n, e, hc, _⟩
    · exact .base (.tup e)
    · exact .fTuple e
    · exact .kTuple e hc
  | dic e hk => exact .base (.dK e)
def isD (T : String) (d : PyData) : Bool := (kitB (tyD d) T).getD false
def OkT (T : String) : Prop := T = "int" ∨ T = "bool" ∨ T = "tuple" ∨ T = "str"
theorem kit_D {T : String} (hT : OkT T) (d : PyData) : kitB (tyD d) T = some (isD T d) := by
  rcases hT with rfl | rfl | rfl | rfl <;> cases d <;> kernel_rfl
theorem isD_int (d : PyData) : isD "int" d = (match d with | .int _ => true | .bool _ => true | _ => false) := by
  cases d <;> kernel_rfl
theorem isD_bool (d : PyData) : isD "bool" d = (match d with | .bool _ => true | _ => false) := by
  cases d <;> kernel_rfl
theorem isD_tuple (d : PyData) : isD "tuple" d = (match d with | .tuple _ => true | _ => false) := by
  cases d <;> kernel_rfl
theorem isD_str (d : PyData) : isD "str" d = (match d with | .str _ => true | _ => false) := by
  cases d <;> kernel_rfl
def tIsT (K : PySem.W.Frag) (T : String) (i : Nat) : TE := fun σ H Q => ∃ (x : V) (d : PyData), σ[i]? = some (some x) ∧ Da K H x d ∧ Q (.bl (isD T d)) H
section
variable {X : Cx} {x y : Str} {i : Nat} {p1 p2 q1 q2 : Pos}
theorem pe_isT {T : String} (hT : OkT T) (m : X.mg "isinstance" = none) (hv : ∀ pos, PE X (.Name y pos) (tVar i)) (hx : ∀ pos, PE X (.Name x pos) (tC (.ty T))) (hg : Gl X "isinstance" := by rfl) :
    PE X (.Call (.Name "isinstance" p1) [.Name y q1, .Name x q2] [] p2) (tIsT X.K T i) := by
  refine PE.imp (pe_callB call_isi hg m (by decide +kernel) (pa_cons (hv q1) (pa_cons (hx q2) pa_nil))) ?_
  rintro σ H Q ⟨x, d, h1, h2, h3⟩
  exact ⟨x, h1, x, .ty T, .type (tyD d), .type T, isD T d, rfl, .ty T, h2.ty, kit_ty (kit_D hT d), h3⟩
end
section
variable {K : PySem.W.Frag} {H0 : Hp} {σ : L2.St} {i : Nat} {x : V} {d : PyData} {T : String} {b c : Bool} {tt uu : TT} {t rest : TS} {D : Ends}
theorem t_isT (h : σ[i]? = some (some x)) (hd : Da K H0 x d) : GivesT H0 (tB (tIsT K T i)) (isD T d) σ := fun H Q s q => ⟨x, d, h, hd.mono s, _, rfl, q H Same.rfl'⟩
end
def intD (lo hi : Int) : PyData → Bool
  | .int i => decide (lo ≤ i) && decide (i ≤ hi)
  | _ => false
theorem ty_of {X : Cx} {x : Str} {T : String} {pos : Pos} (hg : Gl X x) (hm : X.mg x = none) (hb : bootBuiltins x = some (.type T)) (hn : x ≠ "__name__" := by decide) (hd : (x == ("__debug__" : Str)) = false := by decide) :
    PE X (.Name x pos) (tC (.ty T)) := pe_bltn (v := .ty T) hg hm hb (show RelV (.ty T) (.type T) from rfl) hn hd
def cutD (ds : List PyData) (lo hi : Option Int) : List PyData := (ds.drop (HT.sIx ds.length 0 lo)).take (HT.sIx ds.length ds.length hi - HT.sIx ds.length 0 lo)
theorem cut_to (ds : List PyData) (i : Nat) : cutD ds none (some (i : Nat)) = ds.take i := by
  unfold cutD
  rw [HT.sIx_none, HT.sIx_nat, List.drop_zero, Nat.sub_zero]
  by_cases h : i ≤ ds.length
  · rw [Nat.min_eq_left h]
  · rw [Nat.min_eq_right (by omega), List.take_of_length_le (by omega), List.take_of_length_le (by omega)]
theorem cut_mid (ds : List PyData) (i j : Nat) : cutD ds (some (i : Nat)) (some (j : Nat)) = (ds.drop i).take (j - i) := by
  unfold cutD
  rw [HT.sIx_nat, HT.sIx_nat]
  by_cases h : i ≤ ds.length
  · rw [Nat.min_eq_left h]
    by_cases k : j ≤ ds.length
    · rw [Nat.min_eq_left k]
    · rw [Nat.min_eq_right (by omega), List.take_of_length_le (by rw [List.length_drop]; omega), List.take_of_length_le (by rw [List.length_drop]; omega)]
  · have e : min i ds.length = ds.length := Nat.min_eq_right (by omega)
    rw [e, List.drop_of_length_le (Nat.le_refl _), List.drop_of_length_le (show ds.length ≤ i by omega), List.take_nil, List.take_nil]
theorem daAll_take {K : PySem.W.Frag} {H : Hp} : ∀ {vs : List V} {ds : List PyData} (n : Nat), DaAll K H vs ds → DaAll K H (vs.take n) (ds.take n)
  | _, _, 0, _ => .nil
  | _, _, _ + 1, .nil => .nil
  | _, _, n + 1, .cons a t => .cons a (daAll_take n t)
theorem daAll_drop {K : PySem.W.Frag} {H : Hp} : ∀ {vs : List V} {ds : List PyData} (n : Nat), DaAll K H vs ds → DaAll K H (vs.drop n) (ds.drop n)
  | _, _, 0, h => h
  | _, _, _ + 1, .nil => .nil
  | _, _, n + 1, .cons _ t => daAll_drop n t
/-- a slice of a tuple -/
theorem sl_val {K : PySem.W.Frag} {H : Hp} {x : V} {ds : List PyData} {lo hi : Option Int} {Q : VK} (hd : Da K H x (.tuple ds)) (q : ∀ H' u, Same H H' → Da K H' u (.tuple (cutD ds lo hi)) → Q u H') : rSlA K x lo hi H Q := by
  cases hd with
  | @tup a xs _ hs ha =>
  have hl := daAll_len ha
  refine ⟨a, xs, rfl, hs, fun e => ?_, fun e r nr => ?_⟩
  · refine q _ _ Same.rfl' ?_
    have z : cutD ds lo hi = ds := by
      unfold cutD
      rw [← hl, e.1, e.2, hl, List.drop_zero, Nat.sub_zero, List.take_length]
    rw [z]
    exact .tup hs ha
  · refine q _ _ (same_put nr) (.tup (xs := cutV xs lo hi) (.inl (.inl upd_same)) ?_)
    have z := (daAll_take (HT.sIx xs.length xs.length hi - HT.sIx xs.length 0 lo) (daAll_drop (HT.sIx xs.length 0 lo) ha)).mono (same_put (o := .tup (cutV xs lo hi)) nr)
    unfold cutV cutD
    rw [← hl]
    exact z
theorem cut_from (ds : List PyData) (i : Nat) : cutD ds (some (i : Nat)) none = ds.drop i := by
  unfold cutD
  rw [HT.sIx_none, HT.sIx_nat]
  by_cases h : i ≤ ds.length
  · rw [Nat.min_eq_left h, List.take_of_length_le (by rw [List.length_drop]; exact Nat.le_refl _)]
  · rw [Nat.min_eq_right (by omega), List.drop_of_length_le (Nat.le_refl _), List.drop_of_length_le (by omega), List.take_nil]
end Ev

/-! ## Defs by name: what stands there, and what it promises -/
namespace Ev
open PySem PySem.Spec PyProof.Rows L2
/-- a def of the module -/
structure Def (K : PySem.W.Frag) (mg : Str → Option Value) (x : Str) (st : Stmt) (ps : List Str) : Prop where
  ex : ∃ (f : Addr) (fd : FuncData), Fun K x x st f fd ∧ Binds K fd ps [] ∧ mg x = some (.ref f)
/-- a def that keeps a promise, ready to be called -/
structure Cal (P : Program) (w : World) (K : PySem.W.Frag) (mg : Str → Option Value) (base : Heap) (k : Nat) (x : Str) (ps : List Str) (sp : Sp) : Prop where
  ex : ∃ (f : Addr) (fd : FuncData), FnG P w K mg base CX0 k f fd ps sp ∧ Binds K fd ps [] ∧ mg x = some (.ref f) ∧ PySem.W.keepIn K (.ref f) = true
section
variable {P : Program} {w : World} {K : PySem.W.Frag} {mg : Str → Option Value} {base : Heap} {x : Str} {st : Stmt} {ps N : List Str} {sp : Sp} {k j : Nat}
theorem Cal.up (C : Cal P w K mg base j x ps sp) (h : j ≤ k) : Cal P w K mg base k x ps sp := by
  obtain ⟨f, fd, F, b, m, v⟩ := C.ex
  exact ⟨f, fd, F.up h, b, m, v⟩
theorem Cal.of {f : Addr} {fd : FuncData} (F : FnOk P w K mg base CX0 k f fd ps sp) (b : Binds K fd ps []) (m : mg x = some (.ref f)) (v : PySem.W.keepIn K (.ref f) = true) : Cal P w K mg base k x ps sp :=
  ⟨f, fd, .of F, b, m, v⟩
theorem Def.ok (D : Def K mg x st ps) (S : FnScope N ps (defScope st)) (len : ∀ vs H Q E, sp vs H Q E → vs.length = ps.length)
    (hbody : ∀ (f : Addr) (cdv : Value) (A : Around) (outer : List Env) (s : Shared) (H : Hp) (vs : List V) (Q : VK) (E : XK),
      Room k (A.deeper (envOfC x (defScope st) s.heap.objs.size f cdv)) → A.guards = some [] → sp vs H Q E →
      ∃ t, PSs (cxOf CX0 P w K mg base N x (defScope st) f cdv A outer s H E).nox (defBody st) t ∧
        t { nx := fun _ H' => Q .non H', rt := Q } (start N vs) H) : Cal P w K mg base (k + 1) x ps sp := by
  obtain ⟨f, fd, F, b, m⟩ := D.ex
  exact ⟨f, fd, okG F S len (hbody f), b, m, F.kp⟩
theorem no_cal (D : Def K mg x st ps) : Cal P w K mg base k x ps (fun _ _ _ _ => False) := by
  obtain ⟨f, fd, F, b, m⟩ := D.ex
  exact ⟨f, fd, .of no_fn, b, m, F.kp⟩
end
section
variable {X : Cx} {k : Nat} {ps : List Str} {sp : Sp} {x : Str} {p pos : Pos} {e : Expr} {es : List Expr} {t : TA}
theorem pcall (C : Cal X.prog X.w X.K X.mg X.base k x ps sp) (hr : Room k X.A) (gd : X.A.guards = some []) (hg : Gl X x) (ha : PA X (e :: es) t)
    (hdb : (x == ("__debug__" : Str)) = false := by decide) (he : starEach (e :: es) X.env = (false, eval e X.env) :: starEach es X.env := by rfl)
    (hpl : (backTo pos (starEach es X.env)).any (·.1) = false := by rfl) : PE X (.Call (.Name x p) (e :: es) [] pos) (tCall sp [] E0 t) := by
  obtain ⟨f, fd, F, hb, hm, hk⟩ := C.ex
  exact pe_callG F hr gd hg hm hk hb .nil pass0 ha hdb he hpl
theorem pcall0 (C : Cal X.prog X.w X.K X.mg X.base k x ps sp) (hr : Room k X.A) (gd : X.A.guards = some []) (hg : Gl X x)
    (hdb : (x == ("__debug__" : Str)) = false := by decide) : PE X (.Call (.Name x p) [] [] pos) (tCall sp [] E0 tNil) := by
  obtain ⟨f, fd, F, hb, hm, hk⟩ := C.ex
  exact pe_callG0 F hr gd hg hm hk hb .nil pass0 hdb
end
theorem hu70 {A : Around} {k : Nat} (hr : Room k A) : A.units + 70 < cLine := by
  have := hr.un
  omega
/-- built-in names that the module leaves alone -/
def nbs : List Str := ["len", "abs", "int", "bool", "isinstance", "range", "max", "min", "sum", "repr", "divmod", "tuple", "sorted", "set", "enumerate", "zip", "list", "dict", "any", "all", "str", "reversed"]
def NB (mg : Str → Option Value) : Prop := ∀ x ∈ nbs, mg x = none
theorem NB.at {mg : Str → Option Value} (h : NB mg) {x : Str} (hx : nbs.contains x = true := by decide +kernel) : mg x = none := h x (List.contains_iff_mem.mp hx)
/-! ### is_whole, is_integer_within -/
def spWh (K : PySem.W.Frag) : Sp := fun vs H Q _ => ∃ (x : V) (d : PyData), vs = [x] ∧ Da K H x d ∧ Q (.bl (isD "int" d && !isD "bool" d)) H
def spIn (K : PySem.W.Frag) : Sp := fun vs H Q _ => ∃ (x : V) (d : PyData) (lo hi : Int), vs = [x, .int lo, .int hi] ∧ Da K H x d ∧ ∀ H', Same H H' → Q (.bl (intD lo hi d)) H'
/-! ### tuple * 0, tuple * 1 -/
theorem tuple_mul1 (l : Addr) (items : Array Value) (n : Nat) (dd : Option Addr) (sl : Array (Option Value)) (x : Int) (u : Tok) (c0 : (decide (x < -(2 ^ 63)) || decide (x ≥ 2 ^ 63)) = false) (c1 : (items.isEmpty || x == 1) = true) :
    Meets (Builtin.«tuple.__mul__» ⟨[.ref l, .int x u], []⟩) (fun _ R s => s.heap.get? l = some { cls := .type "tuple", dict := dd, data := .seq items n, slots := sl } ∧
      R (.ok (.ret (Value.ref l))) s) :=
  .of_wp fun prog w A R s h => by
    obtain ⟨hp, g, d, tk, os⟩ := s
    obtain ⟨hl, h⟩ := h
    have f1 := AutoSeq1.idx_int
    wp_walk using wpAny_loadPart' hl
    repeat (first
      | (refine wpAny_ite_false (decide_eq_false (by rw [c0]; exact Bool.false_ne_true)) ?_; wp_walk using wpAny_loadPart' hl)
      | (refine wpAny_ite_true (decide_eq_true c1) ?_; wp_walk using wpAny_loadPart' hl))
    exact ⟨_, rfl, h⟩
theorem tuple_mul0 (l : Addr) (items : Array Value) (n : Nat) (dd : Option Addr) (sl : Array (Option Value)) (x : Int) (u : Tok) (c0 : (decide (x < -(2 ^ 63)) || decide (x ≥ 2 ^ 63)) = false) (c1 : (items.isEmpty || x == 1) = false)
    (c2 : (decide (x ≤ 0) || items.isEmpty) = true) :
    Meets (Builtin.«tuple.__mul__» ⟨[.ref l, .int x u], []⟩) (fun _ R s => s.heap.get? l = some { cls := .type "tuple", dict := dd, data := .seq items n, slots := sl } ∧
      R (.ok (.ret (Value.ref s.heap.objs.size))) { s with heap := s.heap.push { cls := Value.type "tuple", data := Data.seq #[] }, toks := s.toks }) :=
  .of_wp fun prog w A R s h => by
    obtain ⟨hp, g, d, tk, os⟩ := s
    obtain ⟨hl, h⟩ := h
    have f1 := AutoSeq1.idx_int
    wp_walk using wpAny_loadPart' hl
    repeat (first
      | (refine wpAny_ite_false (decide_eq_false (by rw [c0]; exact Bool.false_ne_true)) ?_; wp_walk using wpAny_loadPart' hl)
      | (refine wpAny_ite_false (decide_eq_false (by rw [c1]; exact Bool.false_ne_true)) ?_; wp_walk using wpAny_loadPart' hl)
      | (refine wpAny_ite_true (decide_eq_true c2) ?_; wp_walk using wpAny_loadPart' hl))
    exact ⟨_, rfl, h⟩
def rRepT01 (K : PySem.W.Frag) : R2 := fun x y H Q => ∃ l xs k, x = .ref l ∧ y = .int k ∧ SqT K H l xs ∧ xs ≠ [] ∧ ((k = 1 ∧ Q (.ref l) H) ∨ (k = 0 ∧ ∀ p, H p = none → Q (.ref p) (upd H p (.tup []))))
theorem op_repT01 {X : Cx} : OpR X (binaryOp .Mult) (rRepT01 X.K) := by
  intro pins s σ H x y v u Q I rx ry h
  obtain ⟨l, xs, k, rfl, rfl, hT, hne, h⟩ := h
  cases rx
  obtain ⟨t, rfl⟩ := ry
  obtain ⟨its, r, ⟨⟨cls, dd, data, sl⟩, ho, hc, n, hd⟩, hs⟩ := I.tuple hT
  simp only at hc hd
  subst hc hd
  have hle : its.length = xs.length := r.length.symm
  have hi : its.toArray.isEmpty = false := by
    cases its with
    | nil => exact absurd (List.eq_nil_of_length_eq_zero hle.symm) hne
    | cons a b => rfl
  rcases h with ⟨rfl, q⟩ | ⟨rfl, q⟩
  · refine wpAny_binaryOp_repeat_ref (T := "tuple") (U := "int") (by decide) ⟨_, ho, rfl⟩ (fun s' => typeIs_int s' 1 t) noFill_tuple_mul F.fills_int_mul F.slot_int_rmul repeat_tuple F.slot_int_index.lookup
      (call_meets F.slot_int_rmul (typeIs_int s 1 t) F.entry_int_rmul (F.args_int_rmul_2 _ _) (int_rmul_tuple 1 t l its.toArray n dd sl)
        ⟨ho, rfl, ⟨_, ho, rfl⟩, call_meets F.slot_tuple_mul ⟨_, ho, rfl⟩ F.entry_tuple_mul (F.args_tuple_mul_2 _ _) (tuple_mul1 l its.toArray n dd sl 1 t (by decide) (by rw [hi]; rfl)) ⟨ho, ?_⟩⟩)
    exact ⟨.ref l, H, I, rfl, q⟩
  · refine wpAny_binaryOp_repeat_ref (T := "tuple") (U := "int") (by decide) ⟨_, ho, rfl⟩ (fun s' => typeIs_int s' 0 t) noFill_tuple_mul F.fills_int_mul F.slot_int_rmul repeat_tuple F.slot_int_index.lookup
      (call_meets F.slot_int_rmul (typeIs_int s 0 t) F.entry_int_rmul (F.args_int_rmul_2 _ _) (int_rmul_tuple 0 t l its.toArray n dd sl)
        ⟨ho, rfl, ⟨_, ho, rfl⟩, call_meets F.slot_tuple_mul ⟨_, ho, rfl⟩ F.entry_tuple_mul (F.args_tuple_mul_2 _ _) (tuple_mul0 l its.toArray n dd sl 0 t (by decide) (by rw [hi]; rfl) (by simp)) ⟨ho, ?_⟩⟩)
    refine ⟨.ref s.heap.objs.size, _, I.laid (t' := s.toks) (o := .tup []) (fun b ob q => Heap.get?_push_of_some _ q) (Nat.le_refl _) ?_, rfl, q _ (I.hok.fresh (Nat.le_refl _))⟩
    exact ⟨Nat.zero_le _, [], .nil, IsTup.new _ _⟩
/-! ### pots -/
/-- at p stands a pot out of which at most n draws came by reckoning -/
def PotA (p : Addr) (n : Nat) (H : Hp) : Prop := ∃ xs, H p = some (.lst xs) ∧ PotL n xs
theorem PotA.up {p : Addr} {n m : Nat} {H : Hp} (h : PotA p n H) (k : n ≤ m) : PotA p m H := by
  obtain ⟨xs, e, q⟩ := h
  exact ⟨xs, e, q.up k⟩
theorem PotA.same {p : Addr} {n : Nat} {H H' : Hp} (h : PotA p n H) (s : Same H H') : PotA p n H' := by
  obtain ⟨xs, e, q⟩ := h
  exact ⟨xs, s _ _ e, q⟩
theorem PotA.new {p q : Addr} {n : Nat} {H : Hp} {o : HO} (h : PotA p n H) (nq : H q = none) : PotA p n (upd H q o) := h.same (same_put nq)
theorem PotA.ne {p q : Addr} {n : Nat} {H : Hp} (h : PotA p n H) (nq : H q = none) : p ≠ q := by
  obtain ⟨xs, e, _⟩ := h
  exact ne_of_none e nq
theorem PotA.put {p l : Addr} {n : Nat} {H : Hp} {o : HO} (h : PotA p n H) (ne : p ≠ l) : PotA p n (upd H l o) := by
  obtain ⟨xs, e, q⟩ := h
  exact ⟨xs, by rw [upd_ne ne]; exact e, q⟩
theorem PotA.kt {p : Addr} {n : Nat} {H H' : Hp} (h : PotA p n H) (b : Bu p H H') : Kt H H' := by
  obtain ⟨xs, e, _⟩ := h
  exact b.kt e
/-- tuples stay, while a pot is drawn from -/
theorem Da.bu {K : PySem.W.Frag} {p : Addr} {n : Nat} {H H' : Hp} {u : V} {d : PyData} (hd : Da K H u d) (ht : tupD d = true) (h : PotA p n H) (b : Bu p H H') : Da K H' u d := hd.kt (h.kt b) ht
theorem Bu.same {p : Addr} {H H1 H2 : Hp} (b : Bu p H H1) (s : Same H1 H2) : Bu p H H2 := b.trans (.of s)
def spDraw : Sp := fun vs H Q _ => ∃ (p : Addr) (m : Int) (n : Nat), vs = [.ref p, .int m] ∧ PotA p n H ∧ n < 10000000 ∧ 0 < m ∧ m.natAbs.log2 < 9000 ∧ ∀ H' d, Bu p H H' → PotA p (n + 1) H' → 0 ≤ d → d < m → Q (.int d) H'
def spPick (K : PySem.W.Frag) : Sp := fun vs H Q _ => ∃ (p q : Addr) (zs : List V) (n : Nat), vs = [.ref p, .ref q] ∧ PotA p n H ∧ n < 10000000 ∧ p ≠ q ∧ SqL K H q zs ∧ zs ≠ [] ∧ zs.length ≤ 1000000 ∧
  ∀ H' v, Bu p H H' → PotA p (n + 1) H' → v ∈ zs → Q v H'
def spPotS (K : PySem.W.Frag) : Sp := fun vs H Q _ => ∃ (a : Addr) (ns : List Int) (k : Int), vs = [.ref a, .int k] ∧ SqL K H a (ns.map V.int) ∧ 0 ≤ k ∧ k ≤ 1000 ∧ ∀ H' p, H p = none → Same H H' → PotA p 0 H' → Q (.ref p) H'
theorem log_i {m : Int} {k : Nat} (h1 : 0 ≤ m) (h2 : m < (2 ^ k : Nat)) (h0 : 0 < k) (hk : k ≤ 9000) : m.natAbs.log2 < 9000 :=
  Nat.lt_of_lt_of_le (PySem.Flt.log2_lt_of h0 (show m.natAbs < 2 ^ k by omega)) hk
/-! ### tuples joined; comprehensions whose elements are plain values -/
section
variable {K : PySem.W.Frag} {H0 : Hp} {σ : L2.St} {te ti : TE}
theorem cat_val {H : Hp} {x y : V} {ds es : List PyData} {Q : VK} (hx : Da K H x (.tuple ds)) (hy : Da K H y (.tuple es)) (hl : ds.length + es.length ≤ sizeLine)
    (q : ∀ H' u, Same H H' → Da K H' u (.tuple (ds ++ es)) → Q u H') : rCatA K x y H Q := by
  cases hx with
  | @tup a xs _ hs ha =>
  cases hy with
  | @tup b ys _ ht hb =>
  have l1 := daAll_len ha
  have l2 := daAll_len hb
  refine ⟨a, b, xs, ys, rfl, rfl, hs, ht, by omega, fun e => ?_, fun _ e => ?_, fun _ _ p np => ?_⟩
  · subst e
    cases ha
    exact q H _ Same.rfl' (.tup ht hb)
  · subst e
    cases hb
    refine q H _ Same.rfl' ?_
    rw [List.append_nil]
    exact .tup hs ha
  · exact q _ _ (same_put np) (.tup (xs := xs ++ ys) (.inl (.inl upd_same)) ((da_app ha hb).mono (same_put np)))
theorem g_lcT1 {ds : List PyData} {ys : List V} {g : TG} {vs : List Nat} (hi : ∀ (H : Hp) (Q : VK), Same H0 H → (∀ H' l us, Same H H' → SqT K H' l us → DaAll K H' us ds → Q (.ref l) H') → ti σ H Q) (hz : ds.length ≤ 1000000) (hl : ys.length = ds.length)
    (he : ∀ (j : Nat) (x y : V) (d : PyData), ds[j]? = some d → ys[j]? = some y → ∀ (H : Hp) (R : VK), Same H0 H → Da K H x d → (∀ H', Same H H' → R y H') → g x (wipe σ vs) H fun σ2 H2 => wipe σ2 vs = wipe σ vs ∧ te σ2 H2 R) :
    Gives H0 (tLc (iTup K ti) g tYes te vs) (gLst (ys.map gEq)) σ := fun H Q s q => by
  refine hi H _ s fun H1 l us s1 hl1 ha => ⟨l, rfl, ⟨us, hl1⟩, fun D nD => ?_⟩
  have sl := sizeLine_eq
  have hlen := daAll_len ha
  refine lc_tup (K := K) (a := l) (xs := us) (fun k H' => Same H1 H' ∧ H' D = some (.lst (ys.take k))) ⟨same_put nD, upd_same⟩ (fun k H' _ ⟨s', _⟩ => seqT_mono s' hl1) ?_ ?_
  · rintro k x H' hk ⟨s', eD⟩
    obtain ⟨d, hd, hx⟩ := daAll_at ha hk
    have hkl : k < ds.length := (List.getElem?_eq_some_iff.mp hd).1
    have hk' : k < ys.length := by omega
    have hy := List.getElem?_eq_getElem hk'
    refine cast ?_ (he k x ys[k] d hd hy H' (fun y' H4 => ∃ acc, H4 D = some (.lst acc) ∧ acc.length < sizeLine ∧ Same H1 (upd H4 D (.lst (acc ++ [y']))) ∧ upd H4 D (.lst (acc ++ [y'])) D = some (.lst (ys.take (k + 1))))
      (s.trans (s1.trans s')) (hx.mono s') (fun H4 s4 => ⟨_, s4 _ _ eD, ?_, ?_, ?_⟩))
    · rfl
    · rw [List.length_take]
      omega
    · intro b o e
      rw [upd_ne (ne_of_none e nD)]
      exact s4 _ _ (s' _ _ e)
    · rw [upd_same, List.take_add_one, hy]
      rfl
  · rintro H' ⟨s', eD⟩
    rw [hlen, ← hl, List.take_length] at eD
    exact q H' _ (s1.trans s') ⟨D, _, rfl, eD, allEq⟩
theorem g_lcL1 {ds : List PyData} {ys : List V} {g : TG} {vs : List Nat} (hi : ∀ (H : Hp) (Q : VK), Same H0 H → (∀ H' l us, Same H H' → SqL K H' l us → DaAll K H' us ds → Q (.ref l) H') → ti σ H Q) (hz : ds.length ≤ 1000000) (hl : ys.length = ds.length)
    (he : ∀ (j : Nat) (x y : V) (d : PyData), ds[j]? = some d → ys[j]? = some y → ∀ (H : Hp) (R : VK), Same H0 H → Da K H x d → (∀ H', Same H H' → R y H') → g x (wipe σ vs) H fun σ2 H2 => wipe σ2 vs = wipe σ vs ∧ te σ2 H2 R) :
    Gives H0 (tLc (iList K ti) g tYes te vs) (gLst (ys.map gEq)) σ := fun H Q s q => by
  refine hi H _ s fun H1 l us s1 hl1 ha => ⟨l, rfl, ⟨us, hl1⟩, fun D nD => ?_⟩
  have sl := sizeLine_eq
  have hlen := daAll_len ha
  refine lc_list (K := K) (a := l) (xs := us) (fun k H' => Same H1 H' ∧ H' D = some (.lst (ys.take k))) ⟨same_put nD, upd_same⟩ (fun k H' _ ⟨s', _⟩ => s'.seq hl1) ?_ ?_
  · rintro k x H' hk ⟨s', eD⟩
    obtain ⟨d, hd, hx⟩ := daAll_at ha hk
    have hkl : k < ds.length := (List.getElem?_eq_some_iff.mp hd).1
    have hk' : k < ys.length := by omega
    have hy := List.getElem?_eq_getElem hk'
    refine cast ?_ (he k x ys[k] d hd hy H' (fun y' H4 => ∃ acc, H4 D = some (.lst acc) ∧ acc.length < sizeLine ∧ Same H1 (upd H4 D (.lst (acc ++ [y']))) ∧ upd H4 D (.lst (acc ++ [y'])) D = some (.lst (ys.take (k + 1))))
      (s.trans (s1.trans s')) (hx.mono s') (fun H4 s4 => ⟨_, s4 _ _ eD, ?_, ?_, ?_⟩))
    · rfl
    · rw [List.length_take]
      omega
    · intro b o e
      rw [upd_ne (ne_of_none e nD)]
      exact s4 _ _ (s' _ _ e)
    · rw [upd_same, List.take_add_one, hy]
      rfl
  · rintro H' ⟨s', eD⟩
    rw [hlen, ← hl, List.take_length] at eD
    exact q H' _ (s1.trans s') ⟨D, _, rfl, eD, allEq⟩
theorem hi_tup {i : Nat} {x : V} {ds : List PyData} (hv : σ[i]? = some (some x)) (hd : Da K H0 x (.tuple ds)) :
    ∀ (H : Hp) (Q : VK), Same H0 H → (∀ H' l us, Same H H' → SqT K H' l us → DaAll K H' us ds → Q (.ref l) H') → tVar i σ H Q := fun H Q s q => by
  have z := hd.mono s
  cases z with
  | @tup a xs _ hs ha => exact ⟨_, hv, q H a xs Same.rfl' hs ha⟩
theorem hi_lst {i : Nat} {x : V} {ds : List PyData} (hv : σ[i]? = some (some x)) (hd : Da K H0 x (.list ds)) :
    ∀ (H : Hp) (Q : VK), Same H0 H → (∀ H' l us, Same H H' → SqL K H' l us → DaAll K H' us ds → Q (.ref l) H') → tVar i σ H Q := fun H Q s q => by
  have z := hd.mono s
  cases z with
  | @lst a xs _ hs ha => exact ⟨_, hv, q H a xs Same.rfl' hs ha⟩
end
end Ev

/-! ## Lines and their sums -/
namespace Ev
open PySem PySem.Spec PyProof.Rows L2
/-- a list of data made of tuples -/
def gLd (K : PySem.W.Frag) (es : List PyData) : GP := ⟨fun H u => ∃ l us, u = .ref l ∧ H l = some (.lst us) ∧ DaAll K H us es, fun s ⟨l, us, h1, h2, h3⟩ => ⟨l, us, h1, s _ _ h2, h3.mono s⟩⟩
section
variable {K : PySem.W.Frag} {H0 : Hp} {σ : L2.St} {te ti : TE}
theorem tupDs_take : ∀ {es : List PyData} (n : Nat), tupDs es = true → tupDs (es.take n) = true
  | [], n, h => by
    rw [List.take_nil]
    exact h
  | e :: es, 0, _ => by
    rw [List.take_zero, tupDs]
  | e :: es, n + 1, h => by
    rw [tupDs, Bool.and_eq_true] at h
    rw [List.take_succ_cons, tupDs, h.1, tupDs_take n h.2]
    rfl
/-- one more element of a comprehension's list -/
theorem lcD_more {H1 H4 H' : Hp} {D : Addr} {us : List V} {u : V} {es : List PyData} {e : PyData} {k : Nat} (nD : H1 D = none) (s' : Same H1 H') (s4 : Same H' H4) (eD : H' D = some (.lst us)) (ha : DaAll K H' us (es.take k)) (ht : tupDs es = true) (hk : es[k]? = some e) (hu : Da K H4 u e) :
    Same H1 (upd H4 D (.lst (us ++ [u]))) ∧ ∃ us', upd H4 D (.lst (us ++ [u])) D = some (.lst us') ∧ DaAll K (upd H4 D (.lst (us ++ [u]))) us' (es.take (k + 1)) := by
  have kt : Kt H4 (upd H4 D (.lst (us ++ [u]))) := Kt.put (s4 _ _ eD)
  have te : tupD e = true := by
    have z := tupDs_take (k + 1) ht
    rw [List.take_add_one, hk] at z
    exact tup_last z
  refine ⟨fun b o x => ?_, us ++ [u], upd_same, ?_⟩
  · rw [upd_ne (ne_of_none x nD)]
    exact s4 _ _ (s' _ _ x)
  · rw [List.take_add_one, hk]
    exact da_app (DaAll.kt ((Kt.of s4).trans kt) (tupDs_take k ht) ha) (.cons (Da.kt kt te hu) .nil)
where tup_last : ∀ {es : List PyData} {e : PyData}, tupDs (es ++ [e]) = true → tupD e = true
  | [], e, h => by
    rw [List.nil_append, tupDs, Bool.and_eq_true] at h
    exact h.1
  | d :: es, e, h => by
    rw [List.cons_append, tupDs, Bool.and_eq_true] at h
    exact tup_last h.2
theorem g_lcDL {ds es : List PyData} {g : TG} {vs : List Nat} (hi : ∀ (H : Hp) (Q : VK), Same H0 H → (∀ H' l us, Same H H' → SqL K H' l us → DaAll K H' us ds → Q (.ref l) H') → ti σ H Q) (hz : ds.length ≤ 1000000) (ht : tupDs es = true) (hl : es.length = ds.length)
    (he : ∀ (j : Nat) (x : V) (d e : PyData), ds[j]? = some d → es[j]? = some e → ∀ (H : Hp) (R : VK), Same H0 H → Da K H x d → (∀ H' u, Same H H' → Da K H' u e → R u H') → g x (wipe σ vs) H fun σ2 H2 => wipe σ2 vs = wipe σ vs ∧ te σ2 H2 R) :
    Gives H0 (tLc (iList K ti) g tYes te vs) (gLd K es) σ := fun H Q s q => by
  refine hi H _ s fun H1 l us s1 hl1 ha => ⟨l, rfl, ⟨us, hl1⟩, fun D nD => ?_⟩
  have sl := sizeLine_eq
  have hlen := daAll_len ha
  refine lc_list (K := K) (a := l) (xs := us) (fun k H' => Same H1 H' ∧ ∃ ws, H' D = some (.lst ws) ∧ DaAll K H' ws (es.take k)) ⟨same_put nD, [], upd_same, .nil⟩ (fun k H' _ ⟨s', _⟩ => s'.seq hl1) ?_ ?_
  · rintro k x H' hk ⟨s', ws, eD, hw⟩
    obtain ⟨d, hd, hx⟩ := daAll_at ha hk
    have hke : k < es.length := by
      have := (List.getElem?_eq_some_iff.mp hd).1
      omega
    have hek := List.getElem?_eq_getElem hke
    have hwl := daAll_len hw
    rw [List.length_take] at hwl
    refine cast ?_ (he k x d es[k] hd hek H' (fun y H4 => ∃ acc, H4 D = some (.lst acc) ∧ acc.length < sizeLine ∧ Same H1 (upd H4 D (.lst (acc ++ [y]))) ∧ ∃ ws, upd H4 D (.lst (acc ++ [y])) D = some (.lst ws) ∧ DaAll K (upd H4 D (.lst (acc ++ [y]))) ws (es.take (k + 1)))
      (s.trans (s1.trans s')) (hx.mono s') fun H4 u s4 hu => ⟨ws, s4 _ _ eD, by omega, lcD_more nD s' s4 eD hw ht hek hu⟩)
    rfl
  · rintro H' ⟨s', ws, eD, hw⟩
    rw [hlen, ← hl, List.take_length] at hw
    exact q H' _ (s1.trans s') ⟨D, ws, rfl, eD, hw⟩
theorem g_lcDT {a : Addr} {xs : List V} {es : List PyData} {g : TG} {vs : List Nat} {i : Nat} (hv : σ[i]? = some (some (.ref a))) (hx : SqT K H0 a xs) (hz : xs.length ≤ 1000000) (ht : tupDs es = true) (hl : es.length = xs.length)
    (he : ∀ (j : Nat) (x : V) (e : PyData), xs[j]? = some x → es[j]? = some e → ∀ (H : Hp) (R : VK), Same H0 H → (∀ H' u, Same H H' → Da K H' u e → R u H') → g x (wipe σ vs) H fun σ2 H2 => wipe σ2 vs = wipe σ vs ∧ te σ2 H2 R) :
    Gives H0 (tLc (iTup K (tVar i)) g tYes te vs) (gLd K es) σ := fun H Q s q => by
  refine ⟨_, hv, a, rfl, ⟨xs, seqT_mono s hx⟩, fun D nD => ?_⟩
  have sl := sizeLine_eq
  refine lc_tup (K := K) (a := a) (xs := xs) (fun k H' => Same H H' ∧ ∃ ws, H' D = some (.lst ws) ∧ DaAll K H' ws (es.take k)) ⟨same_put nD, [], upd_same, .nil⟩ (fun k H' _ ⟨s', _⟩ => seqT_mono (s.trans s') hx) ?_ ?_
  · rintro k x H' hk ⟨s', ws, eD, hw⟩
    have hke : k < es.length := by
      have := (List.getElem?_eq_some_iff.mp hk).1
      omega
    have hek := List.getElem?_eq_getElem hke
    have hwl := daAll_len hw
    rw [List.length_take] at hwl
    refine cast ?_ (he k x es[k] hk hek H' (fun y H4 => ∃ acc, H4 D = some (.lst acc) ∧ acc.length < sizeLine ∧ Same H (upd H4 D (.lst (acc ++ [y]))) ∧ ∃ ws, upd H4 D (.lst (acc ++ [y])) D = some (.lst ws) ∧ DaAll K (upd H4 D (.lst (acc ++ [y]))) ws (es.take (k + 1)))
      (s.trans s') fun H4 u s4 hu => ⟨ws, s4 _ _ eD, by omega, lcD_more nD s' s4 eD hw ht hek hu⟩)
    rfl
  · rintro H' ⟨s', ws, eD, hw⟩
    rw [← hl, List.take_length] at hw
    exact q H' _ s' ⟨D, ws, rfl, eD, hw⟩
end
def cntD (names : List Str) (c : Str → Int) : List (Key × V) := names.map fun n => (.inr n, .int (c n))
theorem cnt_val {names : List Str} {c : Str → Int} {x : Str} (h : x ∈ names) : valV (cntD names c) (.inr x) = some (.int (c x)) := by
  induction names with
  | nil => cases h
  | cons n names ih =>
    by_cases e : n = x
    · subst e
      exact valV_pos rfl
    · rw [show cntD (n :: names) c = ((.inr n, .int (c n)) : Key × V) :: cntD names c from rfl, valV_neg (fun z => e (Sum.inr.inj z))]
      exact ih ((List.mem_cons.mp h).resolve_left fun z => e z.symm)
theorem cnt_any {names : List Str} {c : Str → Int} {x : Str} : ((cntD names c).any fun kv => decide (kv.1 = .inr x)) = decide (x ∈ names) := by
  induction names with
  | nil => rfl
  | cons n names ih =>
    rw [show cntD (n :: names) c = ((.inr n, .int (c n)) : Key × V) :: cntD names c from rfl, List.any_cons, ih]
    by_cases e : n = x
    · subst e
      simp
    · have h1 : decide ((Sum.inr n : Key) = Sum.inr x) = false := decide_eq_false fun z => e (Sum.inr.inj z)
      have h2 : ¬ x = n := fun z => e z.symm
      show (decide ((Sum.inr n : Key) = Sum.inr x) || decide (x ∈ names)) = _
      rw [h1, Bool.false_or]
      exact decide_eq_decide.mpr ⟨fun z => List.mem_cons_of_mem _ z, fun z => (List.mem_cons.mp z).resolve_left h2⟩
theorem cnt_put {names : List Str} {c : Str → Int} {x : Str} {v : Int} (h : x ∈ names) : putK (cntD names c) (.inr x) (.int v) = cntD names fun n => if n = x then v else c n := by
  unfold putK
  rw [cnt_any, decide_eq_true h, if_pos rfl]
  unfold cntD
  rw [List.map_map]
  refine List.map_congr_left fun n _ => ?_
  show (if (Sum.inr n : Key) = Sum.inr x then _ else _) = ((.inr n, .int (if n = x then v else c n)) : Key × V)
  by_cases e : n = x
  · subst e
    rw [if_pos rfl]
    simp
  · rw [if_neg fun z => e (Sum.inr.inj z), if_neg e]
theorem cnt_new {names : List Str} {c : Str → Int} {x : Str} {v : Int} (h : x ∉ names) : putK (cntD names c) (.inr x) (.int v) = cntD names c ++ [(.inr x, .int v)] := by
  unfold putK
  rw [cnt_any, decide_eq_false h, if_neg Bool.false_ne_true]
/-- the sum of the numbers with the name n -/
def sumN (ps : List (Str × Int)) (n : Str) : Int := ((ps.filter fun p => decide (p.1 = n)).map (·.2)).sum
theorem sumN_snoc (ps : List (Str × Int)) (p : Str × Int) (n : Str) : sumN (ps ++ [p]) n = if n = p.1 then sumN ps n + p.2 else sumN ps n := by
  unfold sumN
  rw [List.filter_append, List.map_append, List.sum_append]
  by_cases e : p.1 = n
  · rw [if_pos e.symm]
    simp [e]
  · rw [if_neg fun z => e z.symm]
    simp [e]
theorem sumN_app (ps qs : List (Str × Int)) (n : Str) : sumN (ps ++ qs) n = sumN ps n + sumN qs n := by
  unfold sumN
  rw [List.filter_append, List.map_append, List.sum_append]
def totD (is : List It) (c : Str → Int) : PyData := .tuple ((linesI is).map fun n => pairD (n, c n))
theorem uniq_nd (xs : List Str) : (uniq [] xs).Nodup := uniq_nodup xs [] .nil
theorem lines_nd (is : List It) : (linesI is).Nodup := (srt_perm _).nodup_iff.mpr (uniq_nd _)
theorem lines_mem {is : List It} {x : Str} : x ∈ linesI is ↔ x ∈ (Its.sp 1 is).map (·.1) := by
  unfold linesI
  rw [(srt_perm _).mem_iff, uniq_mem]
  simp
theorem lines_len {is : List It} : (linesI is).length ≤ Its.nl is := by
  unfold linesI
  rw [(srt_perm _).length_eq]
  have z := uniq_len ((Its.sp 1 is).map (·.1)) []
  rw [List.length_map, Its.sp_len] at z
  have z0 : ([] : List Str).length = 0 := rfl
  omega
theorem sumN_nil (n : Str) : sumN [] n = 0 := rfl
mutual
/-- a line's ticks, r times -/
theorem It.sp_count (n : Str) (r : Int) : ∀ i : It, It.nn i → sumN (It.sp r i) n = r * ((It.w i).count n : Nat)
  | .line x t, h => by
    rw [It.nn] at h
    rw [It.sp, It.w]
    unfold sumN
    by_cases e : x = n
    · subst e
      rw [List.count_replicate_self]
      simp
      rw [Int.max_eq_left h]
    · rw [List.count_replicate, if_neg (by simpa using e)]
      simp [e]
  | .loop k is, h => by
    rw [It.nn] at h
    rw [It.sp, It.w, Its.sp_count n (r * k) is h.2, flat_count, Int.natCast_mul, Int.toNat_of_nonneg h.1, Int.mul_assoc]
theorem Its.sp_count (n : Str) (r : Int) : ∀ is : List It, Its.nn is → sumN (Its.sp r is) n = r * ((Its.w is).count n : Nat)
  | [], _ => by
    rw [Its.sp, Its.w, sumN_nil]
    simp
  | i :: is, h => by
    rw [Its.nn] at h
    rw [Its.sp, Its.w, sumN_app, It.sp_count n r i h.1, Its.sp_count n r is h.2, List.count_append, Int.natCast_add, Int.mul_add]
end
mutual
theorem It.sp_sum (r : Int) : ∀ i : It, It.nn i → ((It.sp r i).map (·.2)).sum = r * ((It.w i).length : Nat)
  | .line x t, h => by
    rw [It.nn] at h
    rw [It.sp, It.w, List.length_replicate, Int.toNat_of_nonneg h]
    simp
  | .loop k is, h => by
    rw [It.nn] at h
    rw [It.sp, It.w, Its.sp_sum (r * k) is h.2, flat_len, Int.natCast_mul, Int.toNat_of_nonneg h.1, Int.mul_assoc]
theorem Its.sp_sum (r : Int) : ∀ is : List It, Its.nn is → ((Its.sp r is).map (·.2)).sum = r * ((Its.w is).length : Nat)
  | [], _ => by
    rw [Its.sp, Its.w]
    simp
  | i :: is, h => by
    rw [Its.nn] at h
    rw [Its.sp, Its.w, List.map_append, List.sum_append, It.sp_sum r i h.1, Its.sp_sum r is h.2, List.length_append, Int.natCast_add, Int.mul_add]
end
theorem len_w {is : List It} (h : Its.nn is) : lenI is = ((Its.w is).length : Nat) := by
  unfold lenI
  rw [Its.sp_sum 1 is h, Int.one_mul]
theorem len_one {i : It} (h : It.nn i) : lenI [i] = ((It.w i).length : Nat) := by
  rw [len_w (by rw [Its.nn, Its.nn]; exact ⟨h, trivial⟩), w_one]
mutual
theorem It.sp_mem (x : Str) (r : Int) : ∀ i : It, It.ps i → (x ∈ (It.sp r i).map (·.1) ↔ x ∈ It.w i)
  | .line z t, h => by
    rw [It.ps] at h
    rw [It.sp, It.w, List.mem_replicate]
    simp
    intro e
    omega
  | .loop k is, h => by
    rw [It.ps] at h
    rw [It.sp, It.w, Its.sp_mem x (r * k) is h.2.2, mem_flat (by omega)]
theorem Its.sp_mem (x : Str) (r : Int) : ∀ is : List It, Its.ps is → (x ∈ (Its.sp r is).map (·.1) ↔ x ∈ Its.w is)
  | [], _ => by
    rw [Its.sp, Its.w]
    simp
  | i :: is, h => by
    rw [Its.ps] at h
    rw [Its.sp, Its.w, List.map_append, List.mem_append, List.mem_append, It.sp_mem x r i h.1, Its.sp_mem x r is h.2]
end
theorem lines_w {is : List It} (h : Its.ps is) {x : Str} : x ∈ linesI is ↔ x ∈ Its.w is := by
  rw [lines_mem, Its.sp_mem x 1 is h]
theorem lines_eq {is : List It} (h : Its.ps is) : linesI is = srtS (uniq [] (Its.w is)) := by
  unfold linesI
  refine srt_eq (uniq_nd _) (uniq_nd _) fun x => ?_
  rw [uniq_mem, uniq_mem, Its.sp_mem x 1 is h]
end Ev

/-! ## The row -/
namespace Ev
open PySem
def topS (i : Nat) : Stmt := PySem.Challenge.pw_evensamples_k60_texts_changed_anywhere.main.body.getD i (.Pass ⟨0, 0, 0, 0⟩)
end Ev

/-! ## Programs as texts: what reading does -/
namespace Ev
open PySem PySem.Spec PyProof.Rows L2
def letB (c : Nat) : Bool := decide (97 ≤ c) && decide (c ≤ 122)
def digB (c : Nat) : Bool := decide (48 ≤ c) && decide (c ≤ 57)
theorem letB_iff {c : Nat} : letB c = true ↔ 97 ≤ c ∧ c ≤ 122 := by
  unfold letB
  rw [Bool.and_eq_true, decide_eq_true_eq, decide_eq_true_eq]
theorem digB_iff {c : Nat} : digB c = true ↔ 48 ≤ c ∧ c ≤ 57 := by
  unfold digB
  rw [Bool.and_eq_true, decide_eq_true_eq, decide_eq_true_eq]
/-- digits that go on with a number while it is at most `most`: the number, how many digits -/
def numW (most : Nat) : Nat → List Nat → Nat × Nat
  | n, [] => (n, 0)
  | n, c :: cs => if digB c = true ∧ n * 10 + (c - 48) ≤ most then ((numW most (n * 10 + (c - 48)) cs).1, (numW most (n * 10 + (c - 48)) cs).2 + 1) else (n, 0)
abbrev Rdx (α : Type) := Except Nat α
def rdNum (l : List Nat) (most a : Nat) : Rdx (Nat × Nat) :=
  match l[a]? with
  | some c => if digB c = true ∧ c ≠ 48 then .ok ((numW most 0 (l.drop a)).1, a + (numW most 0 (l.drop a)).2) else .error a
  | none => .error a
def nameEnd (l : List Nat) (a : Nat) : Nat := a + 1 + (((l.drop (a + 1)).take 7).takeWhile letB).length
def rdBh (l : List Nat) : List Nat → Nat → Rdx Nat
  | [], a => .ok a
  | c :: cs, a => if l[a]? = some c then rdBh l cs (a + 1) else .error a
abbrev RdI := Nat → Nat → Rdx (It × Nat × Nat)
def rdMore (f : RdI) (l : List Nat) : Nat → Nat → Nat → Rdx (List It × Nat × Nat)
  | 0, a, r => .ok ([], a, r)
  | k + 1, a, r => if l[a]? = some 32 ∧ 0 < r then
      match f (a + 1) r with
      | .error e => .error e
      | .ok (i, a2, r2) => match rdMore f l k a2 r2 with
        | .error e => .error e
        | .ok (is, a3, r3) => .ok (i :: is, a3, r3)
    else .ok ([], a, r)
def rdMany (f : RdI) (l : List Nat) (a r : Nat) : Rdx (List It × Nat × Nat) :=
  match f a r with
  | .error e => .error e
  | .ok (i, a2, r2) => match rdMore f l 19 a2 r2 with
    | .error e => .error e
    | .ok (is, a3, r3) => .ok (i :: is, a3, r3)
def isLet (l : List Nat) (a : Nat) : Bool := match l[a]? with
  | some c => letB c
  | none => false
def cutN (l : List Nat) (a b : Nat) : Str := ⟨((l.drop a).take (b - a)).toArray⟩
def rdLine (l : List Nat) : RdI := fun a r =>
  match rdBh l [58] (nameEnd l a) with
  | .error e => .error e
  | .ok b => match rdNum l 1000000000000 b with
    | .error e => .error e
    | .ok (t, c) => .ok (.line (cutN l a (nameEnd l a)) (t : Nat), c, r - 1)
def rdLoop (f : RdI) (l : List Nat) : RdI := fun a r =>
  if r < 2 then .error a else
  match rdNum l 1000000000000000000 a with
  | .error e => .error e
  | .ok (n, b) => match rdBh l [42, 40] b with
    | .error e => .error e
    | .ok c => match rdMany f l c (r - 1) with
      | .error e => .error e
      | .ok (is, d, r2) => match rdBh l [41] d with
        | .error e => .error e
        | .ok e2 => .ok (.loop (n : Nat) is, e2, r2)
def rdIt (l : List Nat) : Nat → RdI
  | 0 => fun a r => if isLet l a = true then rdLine l a r else .error a
  | d + 1 => fun a r => if isLet l a = true then rdLine l a r else rdLoop (rdIt l d) l a r
/-- a whole text -/
def rdP (l : List Nat) : Rdx (List It) :=
  match rdMany (rdIt l 5) l 0 60 with
  | .error e => .error e
  | .ok (is, a, _) => if a < l.length then .error a else .ok is
/-! ### writing -/
mutual
def It.tx : It → List Nat
  | .line x t => x.cps.toList ++ (58 :: TL.numL t.toNat)
  | .loop r is => TL.numL r.toNat ++ (42 :: 40 :: (Its.tx is ++ [41]))
def Its.tx : List It → List Nat
  | [] => []
  | [i] => It.tx i
  | i :: j :: is => It.tx i ++ (32 :: Its.tx (j :: is))
end

def okN (x : Str) : Prop := 1 ≤ x.cps.size ∧ x.cps.size ≤ 8 ∧ ∀ c ∈ x.cps.toList, letB c = true
/-- items that may stand in a text -/
def Vt : Nat → It → Prop
  | _, .line x t => okN x ∧ 1 ≤ t ∧ t ≤ 1000000000000
  | 0, .loop _ _ => False
  | n + 1, .loop r is => 1 ≤ r ∧ r ≤ 1000000000000000000 ∧ 1 ≤ is.length ∧ is.length ≤ 20 ∧ ∀ i ∈ is, Vt n i
theorem vt_line {n : Nat} {x : Str} {t : Int} : Vt n (.line x t) ↔ okN x ∧ 1 ≤ t ∧ t ≤ 1000000000000 := by
  cases n <;> exact Iff.rfl
/-- what may follow a number -/
def Stop (rest : List Nat) : Prop := ∀ c, rest.head? = some c → digB c = false
theorem foldl_ge : ∀ (ds : List Nat) (n : Nat), n ≤ ds.foldl (fun a c => a * 10 + (c - 48)) n
  | [], _ => Nat.le_refl _
  | c :: ds, n => by
    have z := foldl_ge ds (n * 10 + (c - 48))
    rw [List.foldl_cons]
    omega
theorem numW_go {most : Nat} {rest : List Nat} (hs : Stop rest) : ∀ (ds : List Nat) (n : Nat), (∀ c ∈ ds, digB c = true) → ds.foldl (fun a c => a * 10 + (c - 48)) n ≤ most → numW most n (ds ++ rest) = (ds.foldl (fun a c => a * 10 + (c - 48)) n, ds.length)
  | [], n, _, _ => by
    cases rest with
    | nil => rfl
    | cons c cs =>
      have h := hs c rfl
      show (if digB c = true ∧ n * 10 + (c - 48) ≤ most then _ else (n, 0)) = (n, 0)
      rw [if_neg (fun z => by rw [h] at z; exact Bool.false_ne_true z.1)]
  | c :: ds, n, hd, hm => by
    rw [List.foldl_cons] at hm
    have z := foldl_ge ds (n * 10 + (c - 48))
    have ih := numW_go hs ds (n * 10 + (c - 48)) (fun d h => hd d (List.mem_cons_of_mem _ h)) hm
    rw [List.cons_append, numW, if_pos ⟨hd c (List.mem_cons_self ..), Nat.le_trans z hm⟩, ih]
    rfl
theorem numL_dig {n c : Nat} (h : c ∈ TL.numL n) : digB c = true := by
  have z := TL.numL_digits n c h
  exact digB_iff.mpr (by omega)
theorem numL_head : ∀ n : Nat, 1 ≤ n → ∃ c cs, TL.numL n = c :: cs ∧ c ≠ 48 := by
  intro n
  induction n using Nat.strongRecOn with
  | _ n ih =>
    intro hn
    by_cases h : n < 10
    · rw [TL.numL_lt h]
      exact ⟨_, _, rfl, by omega⟩
    · obtain ⟨c, cs, e, hc⟩ := ih (n / 10) (by omega) (by omega)
      rw [TL.numL_step (by omega), e]
      exact ⟨c, _, rfl, hc⟩
theorem drop_at {l x y : List Nat} {a : Nat} (h : l.drop a = x ++ y) : l.drop (a + x.length) = y := by
  rw [← List.drop_drop, h, List.drop_left]
theorem get_at {l x : List Nat} {a c : Nat} (h : l.drop a = c :: x) : l[a]? = some c := by
  have z : (l.drop a)[0]? = some c := by
    rw [h]
    rfl
  rw [List.getElem?_drop] at z
  exact z
theorem get_end {l : List Nat} {a : Nat} (h : l.drop a = []) : l[a]? = none := by
  have z : (l.drop a)[0]? = none := by
    rw [h]
    rfl
  rw [List.getElem?_drop] at z
  exact z
theorem rdNum_ok {l rest : List Nat} {a most n : Nat} (h : l.drop a = TL.numL n ++ rest) (h1 : 1 ≤ n) (h2 : n ≤ most) (hs : Stop rest) : rdNum l most a = .ok (n, a + (TL.numL n).length) := by
  obtain ⟨c, cs, e, hc⟩ := numL_head n h1
  have hg : l[a]? = some c := get_at (by rw [h, e]; rfl)
  have hv : (TL.numL n).foldl (fun a c => a * 10 + (c - 48)) 0 = n := TL.numL_val n
  have hw := numW_go (most := most) hs (TL.numL n) 0 (fun c h => numL_dig h) (by rw [hv]; exact h2)
  rw [hv] at hw
  unfold rdNum
  rw [hg]
  dsimp only
  rw [if_pos ⟨numL_dig (n := n) (by rw [e]; exact List.mem_cons_self ..), hc⟩, h, hw]
theorem rdBh_ok {l rest : List Nat} : ∀ {x : List Nat} {a : Nat}, l.drop a = x ++ rest → rdBh l x a = .ok (a + x.length)
  | [], _, _ => rfl
  | c :: x, a, h => by
    have hg : l[a]? = some c := get_at h
    have hd : l.drop (a + 1) = x ++ rest := drop_at (x := [c]) h
    rw [rdBh, if_pos hg, rdBh_ok hd, List.length_cons]
    congr 1
    omega
theorem takeWhile_stop {p : Nat → Bool} {c : Nat} (hc : p c = false) : ∀ (x y : List Nat), (∀ d ∈ x, p d = true) → (x ++ c :: y).takeWhile p = x
  | [], y, _ => by
    rw [List.nil_append, List.takeWhile_cons, hc]
    rfl
  | d :: x, y, h => by
    rw [List.cons_append, List.takeWhile_cons, h d (List.mem_cons_self ..)]
    exact congrArg (d :: ·) (takeWhile_stop hc x y fun e he => h e (List.mem_cons_of_mem _ he))
theorem takeWhile_all {p : Nat → Bool} : ∀ (x : List Nat), (∀ d ∈ x, p d = true) → x.takeWhile p = x
  | [], _ => rfl
  | d :: x, h => by
    rw [List.takeWhile_cons, h d (List.mem_cons_self ..)]
    exact congrArg (d :: ·) (takeWhile_all x fun e he => h e (List.mem_cons_of_mem _ he))
theorem nameEnd_ok {l x rest : List Nat} {a c : Nat} (h : l.drop a = x ++ c :: rest) (h1 : 1 ≤ x.length) (h2 : x.length ≤ 8) (hx : ∀ d ∈ x, letB d = true) (hc : letB c = false) : nameEnd l a = a + x.length := by
  cases x with
  | nil => exact absurd h1 (by decide)
  | cons d x =>
    have hd : l.drop (a + 1) = x ++ c :: rest := drop_at (x := [d]) h
    have hx' : ∀ e ∈ x, letB e = true := fun e he => hx e (List.mem_cons_of_mem _ he)
    unfold nameEnd
    rw [hd]
    have hl : x.length ≤ 7 := by
      rw [List.length_cons] at h2
      omega
    have e : ((x ++ c :: rest).take 7).takeWhile letB = x := by
      by_cases h7 : x.length = 7
      · rw [← h7, List.take_left]
        exact takeWhile_all x hx'
      · have : (x ++ c :: rest).take 7 = x ++ c :: rest.take (6 - x.length) := by
          rw [List.take_append, List.take_of_length_le (by omega), show 7 - x.length = (6 - x.length) + 1 by omega, List.take_succ_cons]
        rw [this]
        exact takeWhile_stop hc x _ hx'
    rw [e, List.length_cons]
    omega
theorem isLet_yes {l x : List Nat} {a c : Nat} (h : l.drop a = c :: x) (hc : letB c = true) : isLet l a = true := by
  unfold isLet
  rw [get_at h]
  exact hc
theorem isLet_no {l x : List Nat} {a c : Nat} (h : l.drop a = c :: x) (hc : letB c = false) : isLet l a = false := by
  unfold isLet
  rw [get_at h]
  exact hc
theorem rdLine_ok {l rest : List Nat} {a r : Nat} {x : Str} {t : Int} (hx : okN x) (h1 : 1 ≤ t) (h2 : t ≤ 1000000000000) (h : l.drop a = It.tx (.line x t) ++ rest) (hs : Stop rest) : rdLine l a r = .ok (.line x t, a + (It.tx (.line x t)).length, r - 1) := by
  rw [It.tx, List.append_assoc, List.cons_append] at h
  obtain ⟨n1, n2, n3⟩ := hx
  have hn := nameEnd_ok h (by rw [Array.length_toList]; exact n1) (by rw [Array.length_toList]; exact n2) n3 (by decide)
  have hd := drop_at h
  have hb := rdBh_ok (x := [58]) hd
  have hd2 := drop_at (x := [58]) hd
  have hq := rdNum_ok (most := 1000000000000) hd2 (by omega) (by omega) hs
  have hc : cutN l a (nameEnd l a) = x := by
    unfold cutN
    rw [hn, h, show a + x.cps.toList.length - a = x.cps.toList.length by omega, List.take_left]
  unfold rdLine
  rw [hc, hn, hb]
  dsimp only
  rw [hq]
  dsimp only
  rw [It.tx, List.length_append, List.length_cons, Int.toNat_of_nonneg (by omega)]
  congr 3
  simp only [List.length_cons, List.length_nil]
  omega
theorem It.ni_ge (i : It) : 1 ≤ It.ni i := by
  cases i with
  | line _ _ => rw [It.ni]; exact Nat.le_refl _
  | loop _ _ => rw [It.ni]; omega
/-- what stands behind the first item -/
def moreT : List It → List Nat
  | [] => []
  | i :: is => 32 :: (It.tx i ++ moreT is)
theorem tx_more : ∀ (i : It) (is : List It), Its.tx (i :: is) = It.tx i ++ moreT is
  | i, [] => by rw [Its.tx, moreT, List.append_nil]
  | i, j :: is => by rw [Its.tx, moreT, tx_more j is]
/-- a reader that reads such items -/
def Reads (f : RdI) (l : List Nat) (G : It → Prop) : Prop := ∀ (i : It) (a r : Nat) (rest : List Nat), G i → l.drop a = It.tx i ++ rest → Stop rest → It.ni i ≤ r → f a r = .ok (i, a + (It.tx i).length, r - It.ni i)
theorem stop_more {is : List It} {rest : List Nat} (hs : Stop rest) : Stop (moreT is ++ rest) := by
  cases is with
  | nil => exact hs
  | cons i is =>
    intro c hc
    rw [moreT] at hc
    cases hc
    decide
theorem rdMore_ok {f : RdI} {l : List Nat} {G : It → Prop} (hf : Reads f l G) {rest : List Nat} (hs : Stop rest) (h32 : rest.head? ≠ some 32) : ∀ (k : Nat) (is : List It) (a r : Nat), is.length ≤ k → (∀ i ∈ is, G i) → l.drop a = moreT is ++ rest → Its.ni is ≤ r → rdMore f l k a r = .ok (is, a + (moreT is).length, r - Its.ni is)
  | k, [], a, r, _, _, h, _ => by
    rw [moreT, List.nil_append] at h
    rw [Its.ni, moreT]
    cases k with
    | zero => rfl
    | succ k =>
      rw [rdMore, if_neg]
      · rfl
      · rintro ⟨z, _⟩
        apply h32
        rw [← h, List.head?_drop]
        exact z
  | 0, i :: is, a, r, hl, _, _, _ => absurd hl (by rw [List.length_cons]; omega)
  | k + 1, i :: is, a, r, hl, hg, h, hn => by
    rw [moreT, List.cons_append, List.append_assoc] at h
    have hg32 : l[a]? = some 32 := get_at h
    have hd := drop_at (x := [32]) h
    have hi := It.ni_ge i
    rw [Its.ni] at hn
    have e1 := hf i (a + 1) r _ (hg i (List.mem_cons_self ..)) hd (stop_more hs) (by omega)
    have hd2 := drop_at hd
    have e2 := rdMore_ok hf hs h32 k is _ (r - It.ni i) (by rw [List.length_cons] at hl; omega) (fun j hj => hg j (List.mem_cons_of_mem _ hj)) hd2 (by omega)
    simp only [List.length_cons, List.length_nil] at e2
    rw [rdMore, if_pos ⟨hg32, by omega⟩, e1]
    dsimp only
    rw [Nat.zero_add] at e2
    rw [e2]
    dsimp only
    rw [moreT, Its.ni, List.length_cons, List.length_append]
    congr 3
    · omega
    · omega
theorem rdMany_ok {f : RdI} {l : List Nat} {G : It → Prop} (hf : Reads f l G) {rest : List Nat} (hs : Stop rest) (h32 : rest.head? ≠ some 32) {is : List It} {a r : Nat} (h1 : 1 ≤ is.length) (h2 : is.length ≤ 20) (hg : ∀ i ∈ is, G i) (h : l.drop a = Its.tx is ++ rest) (hn : Its.ni is ≤ r) :
    rdMany f l a r = .ok (is, a + (Its.tx is).length, r - Its.ni is) := by
  cases is with
  | nil => exact absurd h1 (by decide)
  | cons i is =>
    rw [tx_more, List.append_assoc] at h
    rw [Its.ni] at hn
    have e1 := hf i a r _ (hg i (List.mem_cons_self ..)) h (stop_more hs) (by omega)
    have e2 := rdMore_ok hf hs h32 19 is _ (r - It.ni i) (by rw [List.length_cons] at h2; omega) (fun j hj => hg j (List.mem_cons_of_mem _ hj)) (drop_at h) (by omega)
    unfold rdMany
    rw [e1]
    dsimp only
    rw [e2]
    dsimp only
    rw [tx_more, Its.ni, List.length_append]
    congr 3
    · omega
    · omega
theorem let_of_ok {x : Str} (h : okN x) : ∃ c cs, x.cps.toList = c :: cs ∧ letB c = true := by
  obtain ⟨n1, _, n3⟩ := h
  cases e : x.cps.toList with
  | nil =>
    rw [← Array.length_toList, e] at n1
    exact absurd n1 (by decide)
  | cons c cs =>
    rw [e] at n3
    exact ⟨c, cs, rfl, n3 c (List.mem_cons_self ..)⟩
theorem dig_let {c : Nat} (h : digB c = true) : letB c = false := by
  have z := digB_iff.mp h
  cases e : letB c with
  | false => rfl
  | true =>
    have := letB_iff.mp e
    omega
theorem rdIt_ok {l : List Nat} : ∀ d : Nat, Reads (rdIt l d) l (Vt d)
  | d, .line x t, a, r, rest, hv, h, hs, hn => by
    obtain ⟨hx, h1, h2⟩ := vt_line.mp hv
    obtain ⟨c, cs, e, hc⟩ := let_of_ok hx
    have hL : isLet l a = true := isLet_yes (c := c) (by rw [h, It.tx, e]; rfl) hc
    rw [It.ni]
    cases d with
    | zero => rw [rdIt]; dsimp only; rw [if_pos hL]; exact rdLine_ok hx h1 h2 h hs
    | succ d => rw [rdIt]; dsimp only; rw [if_pos hL]; exact rdLine_ok hx h1 h2 h hs
  | 0, .loop k is, a, r, rest, hv, _, _, _ => hv.elim
  | d + 1, .loop k is, a, r, rest, hv, h, hs, hn => by
    obtain ⟨k1, k2, l1, l2, hg⟩ : 1 ≤ k ∧ k ≤ 1000000000000000000 ∧ 1 ≤ is.length ∧ is.length ≤ 20 ∧ ∀ i ∈ is, Vt d i := hv
    have hni : 1 ≤ Its.ni is := by
      cases is with
      | nil => exact absurd l1 (by decide)
      | cons i is =>
        have := It.ni_ge i
        rw [Its.ni]
        omega
    rw [It.ni] at hn
    rw [It.tx, List.append_assoc] at h
    obtain ⟨c, cs, e, _⟩ := numL_head k.toNat (by omega)
    have hcd : digB c = true := numL_dig (n := k.toNat) (by rw [e]; exact List.mem_cons_self ..)
    have hL : isLet l a = false := isLet_no (c := c) (by rw [h, e]; rfl) (dig_let hcd)
    have e1 := rdNum_ok (most := 1000000000000000000) h (by omega) (by omega) (fun c hc => by cases hc; decide)
    have h2 := drop_at h
    have e2 := rdBh_ok (x := [42, 40]) (rest := Its.tx is ++ (41 :: rest)) (by rw [h2]; simp)
    have h3 := drop_at (x := [42, 40]) (y := Its.tx is ++ (41 :: rest)) (l := l) (a := a + (TL.numL k.toNat).length) (by rw [h2]; simp)
    have e3 := rdMany_ok (rdIt_ok d) (rest := 41 :: rest) (fun c hc => by cases hc; decide) (by simp) l1 l2 hg h3 (r := r - 1) (by omega)
    have h4 := drop_at h3
    have e4 := rdBh_ok (x := [41]) h4
    rw [rdIt]
    dsimp only
    rw [hL, if_neg Bool.false_ne_true]
    unfold rdLoop
    rw [if_neg (by omega), e1]
    dsimp only
    rw [e2]
    dsimp only
    rw [e3]
    dsimp only
    rw [e4]
    dsimp only
    rw [It.tx, It.ni, Int.toNat_of_nonneg (by omega)]
    simp only [List.length_append, List.length_cons, List.length_nil]
    congr 3
    · omega
    · omega
/-- what is written is read again -/
theorem rdP_ok {is : List It} (h1 : 1 ≤ is.length) (h2 : is.length ≤ 20) (h3 : Its.ni is ≤ 60) (hg : ∀ i ∈ is, Vt 5 i) : rdP (Its.tx is) = .ok is := by
  have e := rdMany_ok (rdIt_ok (l := Its.tx is) 5) (rest := []) (a := 0) (fun c hc => by cases hc) (by simp) h1 h2 hg (by rw [List.drop_zero, List.append_nil]) h3
  unfold rdP
  rw [e]
  dsimp only
  rw [if_neg (by omega)]
theorem tx_len_more : ∀ is : List It, (moreT is).length ≤ (is.map fun i => (It.tx i).length + 1).sum
  | [] => by
    rw [moreT]
    exact Nat.zero_le _
  | i :: is => by
    have := tx_len_more is
    rw [moreT, List.map_cons, List.sum_cons, List.length_cons, List.length_append]
    omega
mutual
theorem It.tx_len : ∀ (d : Nat) (i : It), Vt d i → (It.tx i).length + 1 ≤ 41 * It.ni i
  | d, .line x t, h => by
    obtain ⟨⟨_, n2, _⟩, h1, h2⟩ := vt_line.mp h
    have hl := TL.numL_len (n := t.toNat) (k := 13) (by decide) (by omega)
    rw [It.tx, It.ni, List.length_append, List.length_cons, Array.length_toList]
    omega
  | 0, .loop r is, h => h.elim
  | d + 1, .loop r is, h => by
    obtain ⟨h1, h2, _, _, hg⟩ : 1 ≤ r ∧ r ≤ 1000000000000000000 ∧ 1 ≤ is.length ∧ is.length ≤ 20 ∧ ∀ i ∈ is, Vt d i := h
    have hl := TL.numL_len (n := r.toNat) (k := 19) (by decide) (by omega)
    have z := Its.tx_len d is hg
    rw [It.tx, It.ni]
    simp only [List.length_append, List.length_cons, List.length_nil]
    omega
theorem Its.tx_len : ∀ (d : Nat) (is : List It), (∀ i ∈ is, Vt d i) → (Its.tx is).length ≤ 41 * Its.ni is
  | d, [], _ => by
    rw [Its.tx]
    exact Nat.zero_le _
  | d, i :: is, h => by
    have h1 := It.tx_len d i (h i (List.mem_cons_self ..))
    have h2 := Its.tx_len d is fun j hj => h j (List.mem_cons_of_mem _ hj)
    have h3 := It.ni_ge i
    cases is with
    | nil =>
      rw [Its.tx, Its.ni]
      omega
    | cons j is =>
      rw [Its.tx, Its.ni, List.length_append, List.length_cons]
      omega
end
def mkS (l : List Nat) : Str := ⟨l.toArray⟩
theorem tl_mkS (l : List Nat) : TL.tl (mkS l) = l := rfl
theorem mkS_eq {z : Str} {l : List Nat} (h : TL.tl z = l) : z = mkS l := TL.ext_tl h
theorem join_tx : ∀ is : List It, TL.joinL [32] (is.map It.tx) = Its.tx is
  | [] => by
    rw [Its.tx]
    rfl
  | [i] => by
    rw [Its.tx]
    rfl
  | i :: j :: is => by
    rw [Its.tx, ← join_tx (j :: is)]
    rfl
theorem txt_join (is : List It) : Txt.join (Str.ofString " ") (is.map fun i => mkS (It.tx i)) = mkS (Its.tx is) := by
  refine TL.ext_tl ?_
  rw [TL.join_eq, TL.tl_join, List.map_map, show TL.tl (Str.ofString " ") = [32] from by decide +kernel]
  exact join_tx is
theorem sum_tx {d : Nat} : ∀ is : List It, (∀ i ∈ is, Vt d i) → ((is.map fun i => mkS (It.tx i)).map (·.length)).sum + is.length ≤ 41 * Its.ni is
  | [], _ => Nat.zero_le _
  | i :: is, h => by
    have h1 := It.tx_len d i (h i (List.mem_cons_self ..))
    have h2 := sum_tx is fun j hj => h j (List.mem_cons_of_mem _ hj)
    rw [List.map_cons, List.map_cons, List.sum_cons, List.length_cons, Its.ni, TL.len_tl, tl_mkS]
    omega
theorem ni_mem0 : ∀ {is : List It} {i : It}, i ∈ is → It.ni i ≤ Its.ni is
  | j :: is, i, h => by
    rw [Its.ni]
    rcases List.mem_cons.mp h with rfl | h
    · exact Nat.le_add_right _ _
    · exact Nat.le_trans (ni_mem0 h) (Nat.le_add_left _ _)
theorem ni_len0 : ∀ is : List It, is.length ≤ Its.ni is
  | [] => Nat.zero_le _
  | i :: is => by
    have h1 := It.ni_ge i
    have h2 := ni_len0 is
    rw [Its.ni, List.length_cons]
    omega
theorem tw_go {p : Nat → Bool} : ∀ (y : List Nat) (k : Nat), k < (y.takeWhile p).length → ∃ c, y[k]? = some c ∧ p c = true
  | [], _, h => absurd h (Nat.not_lt_zero _)
  | c :: y, k, h => by
    rw [List.takeWhile_cons] at h
    by_cases e : p c = true
    · rw [if_pos e, List.length_cons] at h
      cases k with
      | zero => exact ⟨c, rfl, e⟩
      | succ k => exact tw_go y k (by omega)
    · rw [if_neg e] at h
      exact absurd h (Nat.not_lt_zero _)
theorem tw_end {p : Nat → Bool} : ∀ (y : List Nat) (c : Nat), y[(y.takeWhile p).length]? = some c → p c = false
  | [], _, h => by cases h
  | d :: y, c, h => by
    rw [List.takeWhile_cons] at h
    by_cases e : p d = true
    · rw [if_pos e, List.length_cons] at h
      exact tw_end y c h
    · rw [if_neg e] at h
      cases h
      exact Bool.eq_false_iff.mpr e
/-- the letters behind the first one -/
def nameL (l : List Nat) (a : Nat) : List Nat := ((l.drop (a + 1)).take 7).takeWhile letB
theorem nameL_le (l : List Nat) (a : Nat) : (nameL l a).length ≤ 7 := by
  have h := (List.takeWhile_sublist (p := letB) (l := (l.drop (a + 1)).take 7)).length_le
  rw [List.length_take] at h
  unfold nameL
  omega
theorem nameL_go {l : List Nat} {a k : Nat} (h : k < (nameL l a).length) : k < 7 ∧ isLet l (a + 1 + k) = true := by
  have h7 := nameL_le l a
  obtain ⟨c, hc, e⟩ := tw_go _ k h
  refine ⟨by omega, ?_⟩
  rw [List.getElem?_take, if_pos (by omega), List.getElem?_drop] at hc
  unfold isLet
  rw [hc]
  exact e
theorem nameL_end {l : List Nat} {a : Nat} (h : (nameL l a).length < 7) : isLet l (a + 1 + (nameL l a).length) = false := by
  unfold isLet
  cases hc : l[a + 1 + (nameL l a).length]? with
  | none => rfl
  | some c =>
    show letB c = false
    refine tw_end ((l.drop (a + 1)).take 7) c ?_
    rw [List.getElem?_take, if_pos (by exact h), List.getElem?_drop]
    exact hc
theorem nameEnd_eq (l : List Nat) (a : Nat) : nameEnd l a = a + 1 + (nameL l a).length := rfl
/-- digits read on, one by one -/
theorem numW_step {l : List Nat} {most n a : Nat} : numW most n (l.drop a) = match l[a]? with
    | some c => if digB c = true ∧ n * 10 + (c - 48) ≤ most then ((numW most (n * 10 + (c - 48)) (l.drop (a + 1))).1, (numW most (n * 10 + (c - 48)) (l.drop (a + 1))).2 + 1) else (n, 0)
    | none => (n, 0) := by
  cases h : l[a]? with
  | none =>
    rw [List.drop_eq_nil_of_le (List.getElem?_eq_none_iff.mp h)]
    rfl
  | some c =>
    obtain ⟨hl, e⟩ := List.getElem?_eq_some_iff.mp h
    rw [List.drop_eq_getElem_cons hl, e]
    rfl
/-- more items behind those that there are -/
def rdApp (js : List It) (r : Rdx (List It × Nat × Nat)) : Rdx (List It × Nat × Nat) := match r with
  | .error e => .error e
  | .ok x => .ok (js ++ x.1, x.2)
theorem rdMany_app (f : RdI) (l : List Nat) (a r : Nat) : rdMany f l a r = match f a r with
    | .error e => .error e
    | .ok x => rdApp [x.1] (rdMore f l 19 x.2.1 x.2.2) := by
  unfold rdMany
  cases f a r with
  | error e => rfl
  | ok x =>
    obtain ⟨i, a2, r2⟩ := x
    dsimp only
    cases rdMore f l 19 a2 r2 with
    | error e => rfl
    | ok y => rfl
theorem rdMore_no {f : RdI} {l : List Nat} {k a r : Nat} {js : List It} (h : k = 0 ∨ ¬ (l[a]? = some 32 ∧ 0 < r)) : rdApp js (rdMore f l k a r) = .ok (js, a, r) := by
  have e : rdMore f l k a r = .ok ([], a, r) := by
    cases k with
    | zero => rfl
    | succ k =>
      rcases h with h | h
      · cases h
      · rw [rdMore, if_neg h]
  rw [e]
  show Except.ok (js ++ [], a, r) = _
  rw [List.append_nil]
theorem rdMore_yes {f : RdI} {l : List Nat} {k a r : Nat} {js : List It} (h : l[a]? = some 32 ∧ 0 < r) : rdApp js (rdMore f l (k + 1) a r) = match f (a + 1) r with
    | .error e => .error e
    | .ok x => rdApp (js ++ [x.1]) (rdMore f l k x.2.1 x.2.2) := by
  rw [rdMore, if_pos h]
  cases f (a + 1) r with
  | error e => rfl
  | ok x =>
    obtain ⟨i, a2, r2⟩ := x
    dsimp only
    cases rdMore f l k a2 r2 with
    | error e => rfl
    | ok y =>
      show Except.ok (js ++ (i :: y.1), y.2) = Except.ok (js ++ [i] ++ y.1, y.2)
      rw [List.append_assoc]
      rfl
theorem rdMore_room {f : RdI} {l : List Nat} (hf : ∀ a r x, f a r = .ok x → x.2.2 ≤ r) : ∀ (k a r : Nat) (x : List It × Nat × Nat), rdMore f l k a r = .ok x → x.2.2 ≤ r
  | 0, a, r, x, h => by
    cases h
    exact Nat.le_refl _
  | k + 1, a, r, x, h => by
    rw [rdMore] at h
    split at h
    · cases hi : f (a + 1) r with
      | error e =>
        rw [hi] at h
        cases h
      | ok y =>
        obtain ⟨i, a2, r2⟩ := y
        rw [hi] at h
        dsimp only at h
        have h1 := hf _ _ _ hi
        cases hm : rdMore f l k a2 r2 with
        | error e =>
          rw [hm] at h
          cases h
        | ok y =>
          rw [hm] at h
          cases h
          have h2 := rdMore_room hf k a2 r2 y hm
          exact Nat.le_trans h2 h1
    · cases h
      exact Nat.le_refl _
theorem rdMany_room {f : RdI} {l : List Nat} (hf : ∀ a r x, f a r = .ok x → x.2.2 ≤ r) {a r : Nat} {x : List It × Nat × Nat} (h : rdMany f l a r = .ok x) : x.2.2 ≤ r := by
  unfold rdMany at h
  cases hi : f a r with
  | error e =>
    rw [hi] at h
    cases h
  | ok y =>
    obtain ⟨i, a2, r2⟩ := y
    rw [hi] at h
    dsimp only at h
    have h1 := hf _ _ _ hi
    cases hm : rdMore f l 19 a2 r2 with
    | error e =>
      rw [hm] at h
      cases h
    | ok y =>
      rw [hm] at h
      cases h
      have h2 := rdMore_room hf 19 a2 r2 y hm
      exact Nat.le_trans h2 h1
theorem rdLine_room {l : List Nat} {a r : Nat} {x : It × Nat × Nat} (h : rdLine l a r = .ok x) : x.2.2 ≤ r := by
  unfold rdLine at h
  cases hb : rdBh l [58] (nameEnd l a) with
  | error e =>
    rw [hb] at h
    cases h
  | ok b =>
    rw [hb] at h
    dsimp only at h
    cases hn : rdNum l 1000000000000 b with
    | error e =>
      rw [hn] at h
      cases h
    | ok y =>
      rw [hn] at h
      cases h
      exact Nat.sub_le _ _
theorem rdLoop_room {f : RdI} {l : List Nat} (hf : ∀ a r x, f a r = .ok x → x.2.2 ≤ r) {a r : Nat} {x : It × Nat × Nat} (h : rdLoop f l a r = .ok x) : x.2.2 ≤ r := by
  unfold rdLoop at h
  split at h
  · cases h
  · cases hn : rdNum l 1000000000000000000 a with
    | error e =>
      rw [hn] at h
      cases h
    | ok y =>
      obtain ⟨n, b⟩ := y
      rw [hn] at h
      dsimp only at h
      cases hb : rdBh l [42, 40] b with
      | error e =>
        rw [hb] at h
        cases h
      | ok c =>
        rw [hb] at h
        dsimp only at h
        cases hm : rdMany f l c (r - 1) with
        | error e =>
          rw [hm] at h
          cases h
        | ok y =>
          obtain ⟨is, d, r2⟩ := y
          rw [hm] at h
          dsimp only at h
          have h1 := rdMany_room hf hm
          cases he : rdBh l [41] d with
          | error e =>
            rw [he] at h
            cases h
          | ok e2 =>
            rw [he] at h
            cases h
            exact Nat.le_trans h1 (Nat.sub_le _ _)
theorem rdIt_room {l : List Nat} : ∀ {d a r : Nat} {x : It × Nat × Nat}, rdIt l d a r = .ok x → x.2.2 ≤ r
  | 0, a, r, x, h => by
    rw [rdIt] at h
    dsimp only at h
    split at h
    · exact rdLine_room h
    · cases h
  | d + 1, a, r, x, h => by
    rw [rdIt] at h
    dsimp only at h
    split at h
    · exact rdLine_room h
    · exact rdLoop_room (fun a r x => rdIt_room (d := d)) h
theorem numL_sm {n c : Nat} (h : c ∈ TL.numL n) : c ≤ 122 := by
  have z := digB_iff.mp (numL_dig h)
  omega
mutual
theorem It.tx_sm : ∀ (d : Nat) (i : It), Vt d i → ∀ c ∈ It.tx i, c ≤ 122
  | d, .line x t, h, c, hc => by
    obtain ⟨⟨_, _, n3⟩, _, _⟩ := vt_line.mp h
    rw [It.tx] at hc
    rcases List.mem_append.mp hc with hc | hc
    · exact (letB_iff.mp (n3 c hc)).2
    · rcases List.mem_cons.mp hc with rfl | hc
      · decide
      · exact numL_sm hc
  | 0, .loop r is, h, _, _ => h.elim
  | d + 1, .loop r is, h, c, hc => by
    obtain ⟨_, _, _, _, hg⟩ : 1 ≤ r ∧ r ≤ 1000000000000000000 ∧ 1 ≤ is.length ∧ is.length ≤ 20 ∧ ∀ i ∈ is, Vt d i := h
    rw [It.tx] at hc
    rcases List.mem_append.mp hc with hc | hc
    · exact numL_sm hc
    · rcases List.mem_cons.mp hc with rfl | hc
      · decide
      · rcases List.mem_cons.mp hc with rfl | hc
        · decide
        · rcases List.mem_append.mp hc with hc | hc
          · exact Its.tx_sm d is hg c hc
          · rw [List.mem_singleton.mp hc]
            decide
theorem Its.tx_sm : ∀ (d : Nat) (is : List It), (∀ i ∈ is, Vt d i) → ∀ c ∈ Its.tx is, c ≤ 122
  | d, [], _, c, hc => by
    rw [Its.tx] at hc
    cases hc
  | d, [i], h, c, hc => by
    rw [Its.tx] at hc
    exact It.tx_sm d i (h i (List.mem_cons_self ..)) c hc
  | d, i :: j :: is, h, c, hc => by
    rw [Its.tx] at hc
    rcases List.mem_append.mp hc with hc | hc
    · exact It.tx_sm d i (h i (List.mem_cons_self ..)) c hc
    · rcases List.mem_cons.mp hc with rfl | hc
      · decide
      · exact Its.tx_sm d (j :: is) (fun k hk => h k (List.mem_cons_of_mem _ hk)) c hc
end
end Ev

/-! ## Going from sign to sign, and reading: the same place -/
namespace Ev
open PySem PySem.Spec PyProof.Rows L2
inductive Sg where
  | start
  | name (w : List Nat)
  | mark
  | ticks (w : List Nat)
  | rounds (w : List Nat)
  | star
  | done
def valL (w : List Nat) : Nat := w.foldl (fun a c => a * 10 + (c - 48)) 0
/-- the state behind a sign and the loops that stand open; none where no text goes on so -/
def nxG : Sg → Nat → Nat → Option (Sg × Nat)
  | .start, op, c => if letB c = true then some (.name [c], op) else if digB c = true ∧ c ≠ 48 then some (.rounds [c], op) else none
  | .name w, op, c => if letB c = true ∧ w.length < 8 then some (.name (w ++ [c]), op) else if c = 58 then some (.mark, op) else none
  | .mark, op, c => if digB c = true ∧ c ≠ 48 then some (.ticks [c], op) else none
  | .ticks w, op, c => if digB c = true ∧ valL (w ++ [c]) ≤ 1000000000000 then some (.ticks (w ++ [c]), op) else if c = 41 ∧ 0 < op then some (.done, op - 1) else if c = 32 then some (.start, op) else none
  | .rounds w, op, c => if digB c = true ∧ valL (w ++ [c]) ≤ 1000000000000000000 then some (.rounds (w ++ [c]), op) else if c = 42 then some (.star, op) else none
  | .star, op, c => if c = 40 then some (.start, op + 1) else none
  | .done, op, c => if c = 41 ∧ 0 < op then some (.done, op - 1) else if c = 32 then some (.start, op) else none
def Sg.fin : Sg → Bool
  | .ticks _ => true
  | .done => true
  | _ => false
/-- from a state on: where no text goes on, the end if it comes too early, none if the text is whole -/
def goG : Sg → Nat → List Nat → Nat → Option Nat
  | s, op, [], a => if op = 0 ∧ s.fin = true then none else some a
  | s, op, c :: cs, a => match nxG s op c with
    | none => some a
    | some x => goG x.1 x.2 cs (a + 1)
def wrongG (l : List Nat) : Option Nat := goG .start 0 l 0
/-! ### bounds of a text, by weights of its signs -/
structure Wt (w : Nat → Int) : Prop where
  open2 : w 42 + w 40 = 1
  close : w 41 = -1
  gap : w 32 = 0
  colon : w 58 = 0
  letter : ∀ c, letB c = true → w c = 0
  digit : ∀ c, digB c = true → w c = 0
def dpL (w : Nat → Int) : Int → List Nat → Prop
  | d, [] => d ≤ 4
  | d, c :: cs => d ≤ 4 ∧ dpL w (d + w c) cs
def spL (w : Nat → Int) (k : Int) : Int → List Nat → Nat
  | _, [] => 0
  | d, c :: cs => (if c = 32 ∧ d = k then 1 else 0) + spL w k (d + w c) cs
def totL : List Nat → Nat
  | [] => 0
  | c :: cs => (if c = 32 ∨ c = 40 then 1 else 0) + totL cs
theorem dpL_le {w : Nat → Int} {d : Int} {l : List Nat} (h : dpL w d l) : d ≤ 4 := by
  cases l with
  | nil => exact h
  | cons c cs => exact h.1
def Pln (w : Nat → Int) (xs : List Nat) : Prop := ∀ c ∈ xs, c ≠ 32 ∧ c ≠ 40 ∧ c ≠ 41 ∧ w c = 0
theorem dpL_pln {w : Nat → Int} {d : Int} {z : List Nat} : ∀ {xs : List Nat}, Pln w xs → dpL w d (xs ++ z) → dpL w d z
  | [], _, h => h
  | c :: cs, hp, h => by
    have hc := h.2
    rw [(hp c (List.mem_cons_self ..)).2.2.2, Int.add_zero] at hc
    exact dpL_pln (fun x hx => hp x (List.mem_cons_of_mem _ hx)) hc
theorem spL_pln {w : Nat → Int} {k d : Int} {z : List Nat} : ∀ {xs : List Nat}, Pln w xs → spL w k d (xs ++ z) = spL w k d z
  | [], _ => rfl
  | c :: cs, hp => by
    have hc := hp c (List.mem_cons_self ..)
    rw [List.cons_append, spL, if_neg (fun z => hc.1 z.1), hc.2.2.2, Int.add_zero, Nat.zero_add]
    exact spL_pln (fun x hx => hp x (List.mem_cons_of_mem _ hx))
theorem totL_pln {w : Nat → Int} {z : List Nat} : ∀ {xs : List Nat}, Pln w xs → totL (xs ++ z) = totL z
  | [], _ => rfl
  | c :: cs, hp => by
    have hc := hp c (List.mem_cons_self ..)
    rw [List.cons_append, totL, if_neg (fun z => z.elim hc.1 hc.2.1), Nat.zero_add]
    exact totL_pln (fun x hx => hp x (List.mem_cons_of_mem _ hx))
theorem pln_let {w : Nat → Int} (hw : Wt w) {xs : List Nat} (h : ∀ c ∈ xs, letB c = true) : Pln w xs := fun c hc => by
  have z := letB_iff.mp (h c hc)
  exact ⟨by omega, by omega, by omega, hw.letter c (h c hc)⟩
theorem pln_dig {w : Nat → Int} (hw : Wt w) {xs : List Nat} (h : ∀ c ∈ xs, digB c = true) : Pln w xs := fun c hc => by
  have z := digB_iff.mp (h c hc)
  exact ⟨by omega, by omega, by omega, hw.digit c (h c hc)⟩
theorem pln_app {w : Nat → Int} {xs ys : List Nat} (h1 : Pln w xs) (h2 : Pln w ys) : Pln w (xs ++ ys) := fun c hc => by
  rcases List.mem_append.mp hc with h | h
  · exact h1 c h
  · exact h2 c h
theorem pln_colon {w : Nat → Int} (hw : Wt w) : Pln w [58] := fun x hx => by
  rw [List.mem_singleton] at hx
  subst hx
  exact ⟨by decide, by decide, by decide, hw.colon⟩
/-! ### going along -/
theorem drop_get {l : List Nat} {a c : Nat} (h : l[a]? = some c) : l.drop a = c :: l.drop (a + 1) := by
  obtain ⟨hl, e⟩ := List.getElem?_eq_some_iff.mp h
  rw [List.drop_eq_getElem_cons hl, e]
theorem drop_none {l : List Nat} {a : Nat} (h : l[a]? = none) : l.drop a = [] :=
  List.drop_eq_nil_of_le (List.getElem?_eq_none_iff.mp h)
theorem valL_app (w : List Nat) (c : Nat) : valL (w ++ [c]) = valL w * 10 + (c - 48) := by
  unfold valL
  rw [List.foldl_append]
  rfl
theorem valL_le (w : List Nat) : ∀ ds : List Nat, valL w ≤ valL (w ++ ds) := fun ds => by
  unfold valL
  rw [List.foldl_append]
  exact foldl_ge ds _
theorem goG_ticks {op : Nat} {rest : List Nat} : ∀ (ds w : List Nat) (a : Nat), (∀ c ∈ ds, digB c = true) → valL (w ++ ds) ≤ 1000000000000 → goG (.ticks w) op (ds ++ rest) a = goG (.ticks (w ++ ds)) op rest (a + ds.length)
  | [], w, a, _, _ => by
    rw [List.nil_append, List.append_nil]
    rfl
  | c :: cs, w, a, hd, hv => by
    have e : w ++ c :: cs = (w ++ [c]) ++ cs := by rw [List.append_assoc]; rfl
    rw [e] at hv ⊢
    have h1 : nxG (.ticks w) op c = some (.ticks (w ++ [c]), op) := by
      rw [nxG, if_pos ⟨hd c (List.mem_cons_self ..), Nat.le_trans (valL_le _ cs) hv⟩]
    rw [List.cons_append, goG, h1]
    show goG (.ticks (w ++ [c])) op (cs ++ rest) (a + 1) = _
    rw [goG_ticks cs (w ++ [c]) (a + 1) (fun x hx => hd x (List.mem_cons_of_mem _ hx)) hv, List.length_cons, Nat.add_assoc, Nat.add_comm 1]
theorem goG_rounds {op : Nat} {rest : List Nat} : ∀ (ds w : List Nat) (a : Nat), (∀ c ∈ ds, digB c = true) → valL (w ++ ds) ≤ 1000000000000000000 → goG (.rounds w) op (ds ++ rest) a = goG (.rounds (w ++ ds)) op rest (a + ds.length)
  | [], w, a, _, _ => by
    rw [List.nil_append, List.append_nil]
    rfl
  | c :: cs, w, a, hd, hv => by
    have e : w ++ c :: cs = (w ++ [c]) ++ cs := by rw [List.append_assoc]; rfl
    rw [e] at hv ⊢
    have h1 : nxG (.rounds w) op c = some (.rounds (w ++ [c]), op) := by
      rw [nxG, if_pos ⟨hd c (List.mem_cons_self ..), Nat.le_trans (valL_le _ cs) hv⟩]
    rw [List.cons_append, goG, h1]
    show goG (.rounds (w ++ [c])) op (cs ++ rest) (a + 1) = _
    rw [goG_rounds cs (w ++ [c]) (a + 1) (fun x hx => hd x (List.mem_cons_of_mem _ hx)) hv, List.length_cons, Nat.add_assoc, Nat.add_comm 1]
theorem goG_name {op : Nat} {rest : List Nat} : ∀ (ds w : List Nat) (a : Nat), (∀ c ∈ ds, letB c = true) → (w ++ ds).length ≤ 8 → goG (.name w) op (ds ++ rest) a = goG (.name (w ++ ds)) op rest (a + ds.length)
  | [], w, a, _, _ => by
    rw [List.nil_append, List.append_nil]
    rfl
  | c :: cs, w, a, hd, hv => by
    have e : w ++ c :: cs = (w ++ [c]) ++ cs := by rw [List.append_assoc]; rfl
    rw [e] at hv ⊢
    have h1 : nxG (.name w) op c = some (.name (w ++ [c]), op) := by
      rw [nxG, if_pos ⟨hd c (List.mem_cons_self ..), by simp only [List.length_append, List.length_cons, List.length_nil] at hv; omega⟩]
    rw [List.cons_append, goG, h1]
    show goG (.name (w ++ [c])) op (cs ++ rest) (a + 1) = _
    rw [goG_name cs (w ++ [c]) (a + 1) (fun x hx => hd x (List.mem_cons_of_mem _ hx)) hv, List.length_cons, Nat.add_assoc, Nat.add_comm 1]
/-- behind the last digit of ticks it is as behind a loop -/
theorem goG_tickEnd {op a : Nat} {w rest : List Nat} (h : ∀ c cs, rest = c :: cs → digB c = true → 1000000000000 < valL (w ++ [c])) : goG (.ticks w) op rest a = goG .done op rest a := by
  cases rest with
  | nil => rfl
  | cons c cs =>
    have e : nxG (.ticks w) op c = nxG .done op c := by
      rw [nxG, nxG, if_neg (fun z => by have := h c cs rfl z.1; omega)]
    rw [goG, goG, e]
/-! ### numbers -/
theorem numW_is {most : Nat} : ∀ (l : List Nat) (n : Nat), n ≤ most → ∃ ds, l = ds ++ l.drop (numW most n l).2 ∧ ds.length = (numW most n l).2 ∧ (∀ c ∈ ds, digB c = true) ∧ (numW most n l).1 = ds.foldl (fun a c => a * 10 + (c - 48)) n ∧ (numW most n l).1 ≤ most ∧ (∀ c cs, l.drop (numW most n l).2 = c :: cs → digB c = true → most < (numW most n l).1 * 10 + (c - 48))
  | [], n, hn => by
    refine ⟨[], rfl, rfl, ?_, rfl, hn, ?_⟩
    · intro c h
      exact nomatch h
    · intro c cs h
      exact nomatch h
  | c :: cs, n, hn => by
    by_cases h : digB c = true ∧ n * 10 + (c - 48) ≤ most
    · obtain ⟨ds, h1, h2, h3, h4, h5, h6⟩ := numW_is cs (n * 10 + (c - 48)) h.2
      have e : numW most n (c :: cs) = ((numW most (n * 10 + (c - 48)) cs).1, (numW most (n * 10 + (c - 48)) cs).2 + 1) := by
        rw [numW, if_pos h]
      rw [e]
      refine ⟨c :: ds, ?_, ?_, ?_, ?_, h5, ?_⟩
      · show c :: cs = c :: ds ++ (c :: cs).drop (_ + 1)
        rw [List.drop_succ_cons, List.cons_append, ← h1]
      · show (c :: ds).length = _ + 1
        rw [List.length_cons, h2]
      · intro x hx
        rcases List.mem_cons.mp hx with rfl | hx
        · exact h.1
        · exact h3 x hx
      · exact h4
      · intro x xs hx
        exact h6 x xs (by rwa [List.drop_succ_cons] at hx)
    · have e : numW most n (c :: cs) = (n, 0) := by
        rw [numW, if_neg h]
      rw [e]
      refine ⟨[], rfl, rfl, ?_, rfl, hn, ?_⟩
      · intro c h
        exact nomatch h
      intro x xs hx hd
      have hx' : c :: cs = x :: xs := hx
      cases hx'
      apply Nat.lt_of_not_le
      intro z
      exact h ⟨hd, z⟩
theorem numL_go : ∀ (ds : List Nat) (n : Nat), 1 ≤ n → (∀ x ∈ ds, digB x = true) → TL.numL (ds.foldl (fun a c => a * 10 + (c - 48)) n) = TL.numL n ++ ds
  | [], n, _, _ => (List.append_nil _).symm
  | x :: ds, n, hn, hd => by
    have zx := digB_iff.mp (hd x (List.mem_cons_self ..))
    rw [List.foldl_cons, numL_go ds (n * 10 + (x - 48)) (by omega) (fun y hy => hd y (List.mem_cons_of_mem _ hy)), TL.numL_step (by omega)]
    have e1 : (n * 10 + (x - 48)) / 10 = n := by omega
    have e2 : (n * 10 + (x - 48)) % 10 + 48 = x := by omega
    have e3 : 48 + (n * 10 + (x - 48)) % 10 = x := by omega
    rw [e1, List.append_assoc]
    first
      | rw [e2]; rfl
      | rw [e3]; rfl
theorem numL_of (ds : List Nat) (c : Nat) (hc : digB c = true) (h0 : c ≠ 48) (hd : ∀ x ∈ ds, digB x = true) : TL.numL (ds.foldl (fun a c => a * 10 + (c - 48)) (c - 48)) = c :: ds := by
  have z := digB_iff.mp hc
  have e1 : c - 48 + 48 = c := by omega
  have e2 : 48 + (c - 48) = c := by omega
  rw [numL_go ds (c - 48) (by omega) hd, TL.numL_lt (by omega)]
  first
    | rw [e1]; rfl
    | rw [e2]; rfl
theorem rdNum_is {l : List Nat} {most a n b : Nat} (hm : 9 ≤ most) (h : rdNum l most a = .ok (n, b)) : ∃ c cs, l.drop a = (c :: cs) ++ l.drop b ∧ b = a + (c :: cs).length ∧ TL.numL n = c :: cs ∧ (∀ x ∈ c :: cs, digB x = true) ∧ c ≠ 48 ∧ valL (c :: cs) = n ∧ 1 ≤ n ∧ n ≤ most ∧ (∀ x xs, l.drop b = x :: xs → digB x = true → most < n * 10 + (x - 48)) := by
  unfold rdNum at h
  split at h
  · rename_i c hc
    by_cases hd : digB c = true ∧ c ≠ 48
    · rw [if_pos hd] at h
      have h' := Except.ok.inj h
      have hz := digB_iff.mp hd.1
      have e0 := drop_get hc
      obtain ⟨ds, h1, h2, h3, h4, h5, h6⟩ := numW_is (most := most) (l.drop a) 0 (Nat.zero_le _)
      have en : (numW most 0 (l.drop a)).1 = n := congrArg Prod.fst h'
      have eb : a + (numW most 0 (l.drop a)).2 = b := congrArg Prod.snd h'
      have hpos : 1 ≤ (numW most 0 (l.drop a)).2 := by
        rw [e0, numW, if_pos ⟨hd.1, by omega⟩]
        show 1 ≤ _ + 1
        omega
      have edr : (l.drop a).drop (numW most 0 (l.drop a)).2 = l.drop b := by
        rw [List.drop_drop, eb]
      rw [edr] at h1 h6
      rw [en] at h4 h5 h6
      cases ds with
      | nil =>
        rw [← h2] at hpos
        exact absurd hpos (by decide)
      | cons c' cs =>
        have ec : c' = c := by
          have := h1.symm.trans e0
          rw [List.cons_append] at this
          exact (List.cons.inj this).1
        subst ec
        have ev : n = cs.foldl (fun a c => a * 10 + (c - 48)) (c' - 48) := by
          rw [h4, List.foldl_cons, Nat.zero_mul, Nat.zero_add]
        refine ⟨c', cs, h1, by rw [h2]; exact eb.symm, ?_, h3, hd.2, h4.symm, ?_, h5, h6⟩
        · rw [ev]
          exact numL_of cs c' hd.1 hd.2 (fun x hx => h3 x (List.mem_cons_of_mem _ hx))
        · rw [ev]
          have := foldl_ge cs (c' - 48)
          omega
    · rw [if_neg hd] at h
      exact nomatch h
  · exact nomatch h
theorem rdNum_err {l : List Nat} {most a e : Nat} (h : rdNum l most a = .error e) : e = a ∧ (l.drop a = [] ∨ ∃ c, l.drop a = c :: l.drop (a + 1) ∧ ¬ (digB c = true ∧ c ≠ 48)) := by
  unfold rdNum at h
  split at h
  · rename_i c hc
    by_cases hd : digB c = true ∧ c ≠ 48
    · rw [if_pos hd] at h
      exact nomatch h
    · rw [if_neg hd] at h
      exact ⟨(Except.error.inj h).symm, .inr ⟨c, drop_get hc, hd⟩⟩
  · rename_i hc
    exact ⟨(Except.error.inj h).symm, .inl (drop_none hc)⟩
/-- one sign that must stand there -/
theorem rdBh1 {l : List Nat} {c a : Nat} {x : Nat} (h : rdBh l [c] a = .ok x) : x = a + 1 ∧ l.drop a = c :: l.drop (a + 1) := by
  rw [rdBh] at h
  by_cases hc : l[a]? = some c
  · rw [if_pos hc, rdBh] at h
    exact ⟨(Except.ok.inj h).symm, drop_get hc⟩
  · rw [if_neg hc] at h
    exact nomatch h
theorem rdBh1_err {l : List Nat} {c a e : Nat} (h : rdBh l [c] a = .error e) : e = a ∧ ∀ x xs, l.drop a = x :: xs → x ≠ c := by
  rw [rdBh] at h
  by_cases hc : l[a]? = some c
  · rw [if_pos hc, rdBh] at h
    exact nomatch h
  · rw [if_neg hc] at h
    refine ⟨(Except.error.inj h).symm, fun x xs hx ex => ?_⟩
    exact hc (ex ▸ get_at hx)
end Ev

/-! ## Reading a text that stays under the limits: as by going from sign to sign -/
namespace Ev
open PySem PySem.Spec PyProof.Rows L2
def OkG (W : Nat → Int) (l : List Nat) (op a b r2 : Nat) : Prop := dpL W (op : Int) (l.drop b) ∧ (∀ k, spL W k (op : Int) (l.drop b) ≤ spL W k (op : Int) (l.drop a)) ∧ totL (l.drop b) + 1 ≤ r2
def PreG (W : Nat → Int) (l : List Nat) (op a r : Nat) : Prop := dpL W (op : Int) (l.drop a) ∧ (∀ k, spL W k (op : Int) (l.drop a) ≤ 19) ∧ totL (l.drop a) + 2 ≤ r
def IsI (f : RdI) (l : List Nat) (G : It → Prop) : Prop := ∀ (a r : Nat) (x : It × Nat × Nat), 1 ≤ r → f a r = .ok x → l.drop a = It.tx x.1 ++ l.drop x.2.1 ∧ G x.1 ∧ It.ni x.1 + x.2.2 ≤ r
def GoI (W : Nat → Int) (f : RdI) (l : List Nat) (op : Nat) : Prop := ∀ a r : Nat, PreG W l op a r → (∀ e, f a r = .error e → goG .start op (l.drop a) a = some e) ∧ (∀ x, f a r = .ok x → goG .start op (l.drop a) a = goG .done op (l.drop x.2.1) x.2.1 ∧ OkG W l op a x.2.1 x.2.2)
/-! ### lines -/
theorem isLet_get {l : List Nat} {a : Nat} (h : isLet l a = true) : ∃ c, l.drop a = c :: l.drop (a + 1) ∧ letB c = true := by
  unfold isLet at h
  split at h
  · rename_i c hc
    exact ⟨c, drop_get hc, h⟩
  · exact nomatch h
theorem isLet_not {l : List Nat} {a c : Nat} {cs : List Nat} (h : isLet l a = false) (hd : l.drop a = c :: cs) : letB c = false := by
  unfold isLet at h
  rw [get_at hd] at h
  exact h
theorem name_is {l : List Nat} {a : Nat} (h : isLet l a = true) : ∃ w, l.drop a = w ++ l.drop (nameEnd l a) ∧ nameEnd l a = a + w.length ∧ 1 ≤ w.length ∧ w.length ≤ 8 ∧ (∀ c ∈ w, letB c = true) ∧ (w.length < 8 → ∀ x xs, l.drop (nameEnd l a) = x :: xs → letB x = false) ∧ cutN l a (nameEnd l a) = ⟨w.toArray⟩ ∧ (∀ op, goG .start op (l.drop a) a = goG (.name w) op (l.drop (nameEnd l a)) (nameEnd l a)) := by
  obtain ⟨c, hc, hl⟩ := isLet_get h
  have e1 : l.drop (a + 1) = nameL l a ++ l.drop (nameEnd l a) := by
    have e2 : l.drop (a + 1) = nameL l a ++ (((l.drop (a + 1)).take 7).dropWhile letB ++ (l.drop (a + 1)).drop 7) := by
      unfold nameL
      rw [← List.append_assoc, List.takeWhile_append_dropWhile, List.take_append_drop]
    have e3 := drop_at e2
    rw [nameEnd_eq, e3]
    exact e2
  have e4 : l.drop a = (c :: nameL l a) ++ l.drop (nameEnd l a) := by
    rw [hc, List.cons_append, ← e1]
  have hall : ∀ x ∈ nameL l a, letB x = true := fun x hx => by
    unfold nameL at hx
    have := List.all_takeWhile (p := letB) (l := (l.drop (a + 1)).take 7)
    exact List.all_eq_true.mp this x hx
  have h7 := nameL_le l a
  have elen : nameEnd l a = a + (c :: nameL l a).length := by
    rw [nameEnd_eq, List.length_cons]
    omega
  refine ⟨c :: nameL l a, e4, elen, Nat.succ_le_succ (Nat.zero_le _), by rw [List.length_cons]; omega, ?_, ?_, ?_, ?_⟩
  · intro x hx
    rcases List.mem_cons.mp hx with rfl | hx
    · exact hl
    · exact hall x hx
  · intro hlt x xs hx
    have z := nameL_end (l := l) (a := a) (by rw [List.length_cons] at hlt; omega)
    rw [← nameEnd_eq] at z
    exact isLet_not z hx
  · unfold cutN
    have e5 : nameEnd l a - a = (c :: nameL l a).length := by omega
    rw [e5, e4, List.take_left]
  · intro op
    rw [e4]
    have h1 : nxG .start op c = some (.name [c], op) := by
      rw [nxG, if_pos hl]
    rw [List.cons_append, goG, h1]
    show goG (.name [c]) op (nameL l a ++ l.drop (nameEnd l a)) (a + 1) = _
    rw [goG_name (nameL l a) [c] (a + 1) hall (by rw [List.length_append, List.length_cons, List.length_nil]; omega)]
    rfl
theorem line_isI {l : List Nat} {a r : Nat} {x : It × Nat × Nat} (hl : isLet l a = true) (hr : 1 ≤ r) (h : rdLine l a r = .ok x) : l.drop a = It.tx x.1 ++ l.drop x.2.1 ∧ (∀ n, Vt n x.1) ∧ It.ni x.1 + x.2.2 ≤ r ∧ (∃ w : List Nat, l.drop a = w ++ l.drop x.2.1 ∧ ∀ W, Wt W → Pln W w) ∧ x.2.2 = r - 1 ∧ (∀ op, goG .start op (l.drop a) a = goG .done op (l.drop x.2.1) x.2.1) := by
  obtain ⟨w, h1, h2, h3, h4, h5, h6, h7, h8⟩ := name_is hl
  unfold rdLine at h
  cases hb : rdBh l [58] (nameEnd l a) with
  | error e =>
    rw [hb] at h
    exact nomatch h
  | ok b =>
    rw [hb] at h
    have h' : (match rdNum l 1000000000000 b with | .error e => .error e | .ok (t, c) => .ok (.line (cutN l a (nameEnd l a)) (t : Nat), c, r - 1) : Rdx (It × Nat × Nat)) = .ok x := h
    obtain ⟨eb, hd⟩ := rdBh1 hb
    cases hn : rdNum l 1000000000000 b with
    | error e =>
      rw [hn] at h'
      exact nomatch h'
    | ok tc =>
      obtain ⟨t, c⟩ := tc
      rw [hn] at h'
      have ex := Except.ok.inj h'
      subst ex
      obtain ⟨d, ds, n1, n2, n3, n4, n5, n6, n7, n8, n9⟩ := rdNum_is (by decide) hn
      rw [eb] at n1
      have edr : l.drop a = (w ++ 58 :: (d :: ds)) ++ l.drop c := by
        rw [h1, hd, n1, List.append_assoc, List.cons_append]
        rfl
      have hpl : ∀ W, Wt W → Pln W (w ++ 58 :: (d :: ds)) := fun W hw => pln_app (pln_let hw h5) (pln_app (xs := [58]) (pln_colon hw) (pln_dig hw n4))
      refine ⟨?_, ?_, ?_, ⟨_, edr, hpl⟩, rfl, ?_⟩
      · show l.drop a = It.tx (.line (cutN l a (nameEnd l a)) (t : Nat)) ++ l.drop c
        rw [It.tx, h7, Int.toNat_natCast, n3]
        exact edr
      · intro n
        refine vt_line.mpr ⟨?_, by omega, by omega⟩
        rw [h7]
        exact ⟨h3, h4, h5⟩
      · show It.ni (.line _ _) + (r - 1) ≤ r
        rw [It.ni]
        omega
      · intro op
        rw [h8, hd]
        have m1 : nxG (.name w) op 58 = some (.mark, op) := by
          rw [nxG, if_neg (fun z => by have := z.1; revert this; decide), if_pos rfl]
        rw [goG, m1]
        show goG .mark op (l.drop (nameEnd l a + 1)) (nameEnd l a + 1) = _
        rw [n1, ← eb]
        have m2 : nxG .mark op d = some (.ticks [d], op) := by
          rw [nxG, if_pos ⟨n4 d (List.mem_cons_self ..), n5⟩]
        rw [List.cons_append, goG, m2]
        show goG (.ticks [d]) op (ds ++ l.drop c) (b + 1) = _
        rw [goG_ticks ds [d] (b + 1) (fun y hy => n4 y (List.mem_cons_of_mem _ hy)) (by show valL (d :: ds) ≤ _; omega)]
        have ec : b + 1 + ds.length = c := by rw [n2, List.length_cons]; omega
        rw [ec]
        refine goG_tickEnd ?_
        intro y ys hy hdy
        have := n9 y ys hy hdy
        rw [valL_app]
        show _ < valL (d :: ds) * 10 + (y - 48)
        rw [n6]
        exact this
theorem line_err {l : List Nat} {a r op e : Nat} (hl : isLet l a = true) (h : rdLine l a r = .error e) : goG .start op (l.drop a) a = some e := by
  obtain ⟨w, h1, h2, h3, h4, h5, h6, h7, h8⟩ := name_is hl
  unfold rdLine at h
  rw [h8]
  cases hb : rdBh l [58] (nameEnd l a) with
  | error e' =>
    rw [hb] at h
    have ee : e' = e := Except.error.inj h
    obtain ⟨h9, h10⟩ := rdBh1_err hb
    subst ee
    rw [h9]
    cases hz : l.drop (nameEnd l a) with
    | nil => rw [goG, if_neg (fun z => by have := z.2; exact nomatch this)]
    | cons x xs =>
      have m : nxG (.name w) op x = none := by
        rw [nxG, if_neg (fun z => by rw [h6 z.2 x xs hz] at z; exact nomatch z.1), if_neg (h10 x xs hz)]
      rw [goG, m]
  | ok b =>
    rw [hb] at h
    have h' : (match rdNum l 1000000000000 b with | .error e => .error e | .ok (t, c) => .ok (.line (cutN l a (nameEnd l a)) (t : Nat), c, r - 1) : Rdx (It × Nat × Nat)) = .error e := h
    obtain ⟨eb, hd⟩ := rdBh1 hb
    have m1 : nxG (.name w) op 58 = some (.mark, op) := by
      rw [nxG, if_neg (fun z => by have := z.1; revert this; decide), if_pos rfl]
    rw [hd, goG, m1]
    show goG .mark op (l.drop (nameEnd l a + 1)) (nameEnd l a + 1) = _
    rw [← eb]
    cases hn : rdNum l 1000000000000 b with
    | ok tc =>
      rw [hn] at h'
      exact nomatch h'
    | error e' =>
      rw [hn] at h'
      have ee : e' = e := Except.error.inj h'
      obtain ⟨h9, h10⟩ := rdNum_err hn
      rw [← ee, h9]
      rcases h10 with h10 | ⟨c, h10, h11⟩
      · rw [h10, goG, if_neg (fun z => by have := z.2; exact nomatch this)]
      · have m : nxG .mark op c = none := by
          rw [nxG, if_neg h11]
        rw [h10, goG, m]
/-! ### loops -/
theorem go_start_none {op a : Nat} {z : List Nat} (h : ∀ x xs, z = x :: xs → letB x = false ∧ ¬ (digB x = true ∧ x ≠ 48)) : goG .start op z a = some a := by
  cases z with
  | nil => rw [goG, if_neg (fun z => by have := z.2; exact nomatch this)]
  | cons x xs =>
    obtain ⟨h1, h2⟩ := h x xs rfl
    have m : nxG .start op x = none := by
      rw [nxG, if_neg (by rw [h1]; exact Bool.false_ne_true), if_neg h2]
    rw [goG, m]
/-- the head of a loop -/
theorem head_ok {l : List Nat} {a n b : Nat} (hl : isLet l a = false) (hn : rdNum l 1000000000000000000 a = .ok (n, b)) : ∃ w, l.drop a = w ++ l.drop b ∧ (∀ W, Wt W → Pln W w) ∧ TL.numL n = w ∧ 1 ≤ n ∧ n ≤ 1000000000000000000 ∧ (∀ op, goG .start op (l.drop a) a = goG (.rounds w) op (l.drop b) b) ∧ (∀ op x, (∃ xs, l.drop b = x :: xs) → x ≠ 42 → nxG (.rounds w) op x = none) := by
  obtain ⟨d, ds, n1, n2, n3, n4, n5, n6, n7, n8, n9⟩ := rdNum_is (by decide) hn
  have hdl : letB d = false := isLet_not hl n1
  refine ⟨d :: ds, n1, fun W hw => pln_dig hw n4, n3, n7, n8, ?_, ?_⟩
  · intro op
    have m2 : nxG .start op d = some (.rounds [d], op) := by
      rw [nxG, if_neg (by rw [hdl]; exact Bool.false_ne_true), if_pos ⟨n4 d (List.mem_cons_self ..), n5⟩]
    rw [n1, List.cons_append, goG, m2]
    show goG (.rounds [d]) op (ds ++ l.drop b) (a + 1) = _
    rw [goG_rounds ds [d] (a + 1) (fun y hy => n4 y (List.mem_cons_of_mem _ hy)) (by show valL (d :: ds) ≤ _; omega)]
    have ec : a + 1 + ds.length = b := by rw [n2, List.length_cons]; omega
    rw [ec]
    rfl
  · rintro op x ⟨xs, hx⟩ h42
    rw [nxG, if_neg, if_neg h42]
    rintro ⟨z1, z2⟩
    have := n9 x xs hx z1
    rw [valL_app, n6] at z2
    omega
theorem bh2_ok {l : List Nat} {b c : Nat} (h : rdBh l [42, 40] b = .ok c) : c = b + 2 ∧ l.drop b = 42 :: 40 :: l.drop (b + 2) := by
  rw [rdBh] at h
  by_cases hc : l[b]? = some 42
  · rw [if_pos hc] at h
    obtain ⟨h1, h2⟩ := rdBh1 h
    exact ⟨h1, by rw [drop_get hc, h2]⟩
  · rw [if_neg hc] at h
    exact nomatch h
theorem bh2_err {l w : List Nat} {op b e : Nat} (hw : ∀ x, (∃ xs, l.drop b = x :: xs) → x ≠ 42 → nxG (.rounds w) op x = none) (h42 : nxG (.rounds w) op 42 = some (.star, op)) (h : rdBh l [42, 40] b = .error e) : goG (.rounds w) op (l.drop b) b = some e := by
  rw [rdBh] at h
  by_cases hc : l[b]? = some 42
  · rw [if_pos hc] at h
    obtain ⟨h1, h2⟩ := rdBh1_err h
    rw [drop_get hc, goG, h42]
    show goG .star op (l.drop (b + 1)) (b + 1) = _
    rw [h1]
    cases hz : l.drop (b + 1) with
    | nil => rw [goG, if_neg (fun z => by have := z.2; exact nomatch this)]
    | cons x xs =>
      have m : nxG .star op x = none := by
        rw [nxG, if_neg (h2 x xs hz)]
      rw [goG, m]
  · rw [if_neg hc] at h
    have ee : b = e := Except.error.inj h
    rw [← ee]
    cases hz : l.drop b with
    | nil => rw [goG, if_neg (fun z => by have := z.2; exact nomatch this)]
    | cons x xs =>
      have m : nxG (.rounds w) op x = none := hw x ⟨xs, hz⟩ (fun z => hc (z ▸ get_at hz))
      rw [goG, m]
def IsM (f : RdI) (l : List Nat) (G : It → Prop) : Prop := ∀ (a r : Nat) (x : List It × Nat × Nat), 1 ≤ r → rdMany f l a r = .ok x → l.drop a = Its.tx x.1 ++ l.drop x.2.1 ∧ 1 ≤ x.1.length ∧ x.1.length ≤ 20 ∧ (∀ i ∈ x.1, G i) ∧ Its.ni x.1 + x.2.2 ≤ r
def GoM (W : Nat → Int) (f : RdI) (l : List Nat) (op : Nat) : Prop := ∀ a r : Nat, PreG W l op a r → (∀ e, rdMany f l a r = .error e → goG .start op (l.drop a) a = some e) ∧ (∀ x, rdMany f l a r = .ok x → goG .start op (l.drop a) a = goG .done op (l.drop x.2.1) x.2.1 ∧ OkG W l op a x.2.1 x.2.2 ∧ (∀ y ys, l.drop x.2.1 = y :: ys → y ≠ 32))
theorem more_is {f : RdI} {l : List Nat} {G : It → Prop} (hf : IsI f l G) : ∀ (k a r : Nat) (x : List It × Nat × Nat), rdMore f l k a r = .ok x → l.drop a = moreT x.1 ++ l.drop x.2.1 ∧ x.1.length ≤ k ∧ (∀ i ∈ x.1, G i) ∧ Its.ni x.1 + x.2.2 ≤ r
  | 0, a, r, x, h => by
    rw [rdMore] at h
    have ex := Except.ok.inj h
    subst ex
    exact ⟨rfl, Nat.le_refl _, fun i hi => (List.not_mem_nil hi).elim, by show Its.ni [] + r ≤ r; rw [Its.ni]; omega⟩
  | k + 1, a, r, x, h => by
    rw [rdMore] at h
    by_cases hc : l[a]? = some 32 ∧ 0 < r
    · rw [if_pos hc] at h
      cases hi : f (a + 1) r with
      | error e =>
        rw [hi] at h
        exact nomatch h
      | ok y =>
        obtain ⟨i, a2, r2⟩ := y
        rw [hi] at h
        have h' : (match rdMore f l k a2 r2 with | .error e => .error e | .ok (is, a3, r3) => .ok (i :: is, a3, r3) : Rdx (List It × Nat × Nat)) = .ok x := h
        obtain ⟨i1, i2, i3⟩ := hf (a + 1) r _ hc.2 hi
        cases hm : rdMore f l k a2 r2 with
        | error e =>
          rw [hm] at h'
          exact nomatch h'
        | ok y =>
          obtain ⟨is, a3, r3⟩ := y
          rw [hm] at h'
          have ex := Except.ok.inj h'
          subst ex
          obtain ⟨m1, m2, m3, m4⟩ := more_is hf k a2 r2 _ hm
          refine ⟨?_, ?_, ?_, ?_⟩
          · show l.drop a = moreT (i :: is) ++ l.drop a3
            rw [drop_get hc.1, moreT, List.cons_append, List.append_assoc, ← m1]
            exact congrArg (List.cons 32) i1
          · show (i :: is).length ≤ k + 1
            rw [List.length_cons]
            exact Nat.succ_le_succ m2
          · intro j hj
            rcases List.mem_cons.mp hj with rfl | hj
            · exact i2
            · exact m3 j hj
          · show Its.ni (i :: is) + r3 ≤ r
            rw [Its.ni]
            have : Its.ni is + r3 ≤ r2 := m4
            have : It.ni i + r2 ≤ r := i3
            omega
    · rw [if_neg hc] at h
      have ex := Except.ok.inj h
      subst ex
      exact ⟨rfl, Nat.zero_le _, fun i hi => (List.not_mem_nil hi).elim, by show Its.ni [] + r ≤ r; rw [Its.ni]; omega⟩
theorem many_is {f : RdI} {l : List Nat} {G : It → Prop} (hf : IsI f l G) : IsM f l G := by
  intro a r x hr h
  unfold rdMany at h
  cases hi : f a r with
  | error e =>
    rw [hi] at h
    exact nomatch h
  | ok y =>
    obtain ⟨i, a2, r2⟩ := y
    rw [hi] at h
    have h' : (match rdMore f l 19 a2 r2 with | .error e => .error e | .ok (is, a3, r3) => .ok (i :: is, a3, r3) : Rdx (List It × Nat × Nat)) = .ok x := h
    obtain ⟨i1, i2, i3⟩ := hf a r _ hr hi
    cases hm : rdMore f l 19 a2 r2 with
    | error e =>
      rw [hm] at h'
      exact nomatch h'
    | ok y =>
      obtain ⟨is, a3, r3⟩ := y
      rw [hm] at h'
      have ex := Except.ok.inj h'
      subst ex
      obtain ⟨m1, m2, m3, m4⟩ := more_is hf 19 a2 r2 _ hm
      refine ⟨?_, Nat.succ_le_succ (Nat.zero_le _), Nat.succ_le_succ m2, ?_, ?_⟩
      · show l.drop a = Its.tx (i :: is) ++ l.drop a3
        rw [tx_more, List.append_assoc, ← m1]
        exact i1
      · intro j hj
        rcases List.mem_cons.mp hj with rfl | hj
        · exact i2
        · exact m3 j hj
      · show Its.ni (i :: is) + r3 ≤ r
        rw [Its.ni]
        have : Its.ni is + r3 ≤ r2 := m4
        have : It.ni i + r2 ≤ r := i3
        omega
theorem go_done_32 {op a : Nat} {z : List Nat} : goG .done op (32 :: z) a = goG .start op z (a + 1) := by
  have m : nxG .done op 32 = some (.start, op) := by
    rw [nxG, if_neg (fun z => by have := z.1; exact absurd this (by decide)), if_pos rfl]
  rw [goG, m]
theorem more_go {W : Nat → Int} (hw : Wt W) {f : RdI} {l : List Nat} {op : Nat} (hf : GoI W f l op) : ∀ (k a r : Nat), dpL W (op : Int) (l.drop a) → (∀ j, spL W j (op : Int) (l.drop a) ≤ 19) → spL W (op : Int) (op : Int) (l.drop a) ≤ k → totL (l.drop a) + 1 ≤ r →
    (∀ e, rdMore f l k a r = .error e → goG .done op (l.drop a) a = some e) ∧ (∀ x, rdMore f l k a r = .ok x → goG .done op (l.drop a) a = goG .done op (l.drop x.2.1) x.2.1 ∧ OkG W l op a x.2.1 x.2.2 ∧ (∀ y ys, l.drop x.2.1 = y :: ys → y ≠ 32))
  | 0, a, r, h1, h2, h3, h4 => by
    refine ⟨fun e h => (nomatch h), fun x h => ?_⟩
    rw [rdMore] at h
    have ex := Except.ok.inj h
    subst ex
    refine ⟨rfl, ⟨h1, fun _ => Nat.le_refl _, h4⟩, ?_⟩
    intro y ys hy hy32
    subst hy32
    have hy' : l.drop a = 32 :: ys := hy
    rw [hy', spL, if_pos ⟨rfl, rfl⟩] at h3
    omega
  | k + 1, a, r, h1, h2, h3, h4 => by
    by_cases hc : l[a]? = some 32 ∧ 0 < r
    · have ed := drop_get hc.1
      have d0 : W 32 = 0 := hw.gap
      have p1 : dpL W (op : Int) (l.drop (a + 1)) := by
        rw [ed, dpL, d0, Int.add_zero] at h1
        exact h1.2
      have p2 : ∀ j, spL W j (op : Int) (l.drop a) = (if 32 = 32 ∧ (op : Int) = j then 1 else 0) + spL W j (op : Int) (l.drop (a + 1)) := fun j => by
        rw [ed, spL, d0, Int.add_zero]
      have p3 : ∀ j, spL W j (op : Int) (l.drop (a + 1)) ≤ spL W j (op : Int) (l.drop a) := fun j => by
        rw [p2 j]
        exact Nat.le_add_left ..
      have p4 : totL (l.drop (a + 1)) + 2 ≤ r := by
        rw [ed, totL, if_pos (.inl rfl)] at h4
        omega
      have p5 : spL W (op : Int) (op : Int) (l.drop (a + 1)) ≤ k := by
        have := p2 (op : Int)
        rw [if_pos ⟨rfl, rfl⟩] at this
        omega
      obtain ⟨f1, f2⟩ := hf (a + 1) r ⟨p1, fun j => Nat.le_trans (p3 j) (h2 j), p4⟩
      rw [rdMore, if_pos hc, ed, go_done_32]
      cases hi : f (a + 1) r with
      | error e' =>
        refine ⟨fun e h => ?_, fun x h => (nomatch h)⟩
        have ee : e' = e := Except.error.inj h
        exact ee ▸ f1 _ hi
      | ok y =>
        obtain ⟨i, a2, r2⟩ := y
        obtain ⟨g1, g2, g3, g4⟩ := f2 _ hi
        obtain ⟨m1, m2⟩ := more_go hw hf k a2 r2 g2 (fun j => Nat.le_trans (g3 j) (Nat.le_trans (p3 j) (h2 j))) (Nat.le_trans (g3 _) p5) g4
        rw [g1]
        show (∀ e, (match rdMore f l k a2 r2 with | .error e => .error e | .ok (is, a3, r3) => .ok (i :: is, a3, r3) : Rdx (List It × Nat × Nat)) = .error e → _) ∧ (∀ x, (match rdMore f l k a2 r2 with | .error e => .error e | .ok (is, a3, r3) => .ok (i :: is, a3, r3) : Rdx (List It × Nat × Nat)) = .ok x → _)
        cases hm : rdMore f l k a2 r2 with
        | error e' =>
          refine ⟨fun e h => ?_, fun x h => (nomatch h)⟩
          have ee : e' = e := Except.error.inj h
          exact ee ▸ m1 _ hm
        | ok y =>
          obtain ⟨is, a3, r3⟩ := y
          refine ⟨fun e h => (nomatch h), fun x h => ?_⟩
          have ex := Except.ok.inj h
          subst ex
          obtain ⟨q1, ⟨q2, q3, q4⟩, q5⟩ := m2 _ hm
          refine ⟨q1, ⟨q2, fun j => ?_, q4⟩, q5⟩
          exact Nat.le_trans (q3 j) (Nat.le_trans (g3 j) (p3 j))
    · have er : rdMore f l (k + 1) a r = .ok ([], a, r) := by rw [rdMore, if_neg hc]
      rw [er]
      refine ⟨fun e h => (nomatch h), fun x h => ?_⟩
      have ex := Except.ok.inj h
      subst ex
      refine ⟨rfl, ⟨h1, fun _ => Nat.le_refl _, h4⟩, ?_⟩
      intro y ys hy hy32
      subst hy32
      exact hc ⟨get_at hy, by omega⟩
theorem many_go {W : Nat → Int} (hw : Wt W) {f : RdI} {l : List Nat} {op : Nat} (hf : GoI W f l op) : GoM W f l op := by
  intro a r hp
  obtain ⟨f1, f2⟩ := hf a r hp
  unfold rdMany
  cases hi : f a r with
  | error e' =>
    refine ⟨fun e h => ?_, fun x h => (nomatch h)⟩
    have ee : e' = e := Except.error.inj h
    exact ee ▸ f1 _ hi
  | ok y =>
    obtain ⟨i, a2, r2⟩ := y
    obtain ⟨g1, g2, g3, g4⟩ := f2 _ hi
    obtain ⟨m1, m2⟩ := more_go hw hf 19 a2 r2 g2 (fun j => Nat.le_trans (g3 j) (hp.2.1 j)) (Nat.le_trans (g3 _) (hp.2.1 _)) g4
    rw [g1]
    show (∀ e, (match rdMore f l 19 a2 r2 with | .error e => .error e | .ok (is, a3, r3) => .ok (i :: is, a3, r3) : Rdx (List It × Nat × Nat)) = .error e → _) ∧ (∀ x, (match rdMore f l 19 a2 r2 with | .error e => .error e | .ok (is, a3, r3) => .ok (i :: is, a3, r3) : Rdx (List It × Nat × Nat)) = .ok x → _)
    cases hm : rdMore f l 19 a2 r2 with
    | error e' =>
      refine ⟨fun e h => ?_, fun x h => (nomatch h)⟩
      have ee : e' = e := Except.error.inj h
      exact ee ▸ m1 _ hm
    | ok y =>
      obtain ⟨is, a3, r3⟩ := y
      refine ⟨fun e h => (nomatch h), fun x h => ?_⟩
      have ex := Except.ok.inj h
      subst ex
      obtain ⟨q1, ⟨q2, q3, q4⟩, q5⟩ := m2 _ hm
      exact ⟨q1, ⟨q2, fun j => Nat.le_trans (q3 j) (g3 j), q4⟩, q5⟩
theorem loop_is {f : RdI} {l : List Nat} {n : Nat} (hf : IsI f l (Vt n)) {a r : Nat} {x : It × Nat × Nat} (hl : isLet l a = false) (h : rdLoop f l a r = .ok x) : l.drop a = It.tx x.1 ++ l.drop x.2.1 ∧ Vt (n + 1) x.1 ∧ It.ni x.1 + x.2.2 ≤ r := by
  unfold rdLoop at h
  by_cases hr : r < 2
  · rw [if_pos hr] at h
    exact nomatch h
  rw [if_neg hr] at h
  cases hn : rdNum l 1000000000000000000 a with
  | error e => rw [hn] at h; exact nomatch h
  | ok y =>
    obtain ⟨m, b⟩ := y
    rw [hn] at h
    obtain ⟨w, w1, w2, w3, w4, w5, w6, w7⟩ := head_ok hl hn
    replace h : (match rdBh l [42, 40] b with | .error e => .error e | .ok c => match rdMany f l c (r - 1) with | .error e => .error e | .ok (is, d, r2) => match rdBh l [41] d with | .error e => .error e | .ok e2 => .ok (.loop (m : Nat) is, e2, r2) : Rdx (It × Nat × Nat)) = .ok x := h
    cases hb : rdBh l [42, 40] b with
    | error e => rw [hb] at h; exact nomatch h
    | ok c =>
      rw [hb] at h
      obtain ⟨b1, b2⟩ := bh2_ok hb
      replace h : (match rdMany f l c (r - 1) with | .error e => .error e | .ok (is, d, r2) => match rdBh l [41] d with | .error e => .error e | .ok e2 => .ok (.loop (m : Nat) is, e2, r2) : Rdx (It × Nat × Nat)) = .ok x := h
      cases hm : rdMany f l c (r - 1) with
      | error e => rw [hm] at h; exact nomatch h
      | ok y =>
        obtain ⟨is, d, r2⟩ := y
        rw [hm] at h
        obtain ⟨m1, m2, m3, m4, m5⟩ := many_is hf c (r - 1) _ (by omega) hm
        replace h : (match rdBh l [41] d with | .error e => .error e | .ok e2 => .ok (.loop (m : Nat) is, e2, r2) : Rdx (It × Nat × Nat)) = .ok x := h
        cases he : rdBh l [41] d with
        | error e => rw [he] at h; exact nomatch h
        | ok e2 =>
          rw [he] at h
          have ex := Except.ok.inj h
          subst ex
          obtain ⟨e1, e3⟩ := rdBh1 he
          refine ⟨?_, ?_, ?_⟩
          · show l.drop a = It.tx (.loop (m : Nat) is) ++ l.drop e2
            rw [It.tx, Int.toNat_natCast, w3, w1, b2, ← b1, m1, e1]
            show w ++ 42 :: 40 :: (Its.tx is ++ l.drop d) = _
            rw [e3]
            simp only [List.append_assoc, List.cons_append, List.nil_append]
          · show Vt (n + 1) (.loop (m : Nat) is)
            exact ⟨by omega, by omega, m2, m3, m4⟩
          · show It.ni (.loop (m : Nat) is) + r2 ≤ r
            rw [It.ni]
            have : Its.ni is + r2 ≤ r - 1 := m5
            omega
theorem loop_go {W : Nat → Int} (hw : Wt W) {f : RdI} {l : List Nat} {op : Nat} (hf : GoI W f l (op + 1)) {a r : Nat} (hl : isLet l a = false) (hp : PreG W l op a r) : (∀ e, rdLoop f l a r = .error e → goG .start op (l.drop a) a = some e) ∧ (∀ x, rdLoop f l a r = .ok x → goG .start op (l.drop a) a = goG .done op (l.drop x.2.1) x.2.1 ∧ OkG W l op a x.2.1 x.2.2) := by
  obtain ⟨p1, p2, p3⟩ := hp
  unfold rdLoop
  rw [if_neg (by omega : ¬ r < 2)]
  cases hn : rdNum l 1000000000000000000 a with
  | error e' =>
    refine ⟨fun e h => ?_, fun x h => (nomatch h)⟩
    have ee : e' = e := Except.error.inj h
    obtain ⟨h9, h10⟩ := rdNum_err hn
    rw [← ee, h9]
    refine go_start_none ?_
    intro x xs hx
    refine ⟨isLet_not hl hx, ?_⟩
    rcases h10 with h10 | ⟨c, h10, h11⟩
    · rw [h10] at hx
      exact nomatch hx
    · rw [h10] at hx
      exact (List.cons.inj hx).1 ▸ h11
  | ok y =>
    obtain ⟨m, b⟩ := y
    obtain ⟨w, w1, w2, w3, w4, w5, w6, w7⟩ := head_ok hl hn
    rw [w6]
    have h42 : nxG (.rounds w) op 42 = some (.star, op) := by
      rw [nxG, if_neg (fun z => by have := z.1; revert this; decide), if_pos rfl]
    show (∀ e, (match rdBh l [42, 40] b with | .error e => .error e | .ok c => match rdMany f l c (r - 1) with | .error e => .error e | .ok (is, d, r2) => match rdBh l [41] d with | .error e => .error e | .ok e2 => .ok (.loop (m : Nat) is, e2, r2) : Rdx (It × Nat × Nat)) = .error e → _) ∧ (∀ x, (match rdBh l [42, 40] b with | .error e => .error e | .ok c => match rdMany f l c (r - 1) with | .error e => .error e | .ok (is, d, r2) => match rdBh l [41] d with | .error e => .error e | .ok e2 => .ok (.loop (m : Nat) is, e2, r2) : Rdx (It × Nat × Nat)) = .ok x → _)
    cases hb : rdBh l [42, 40] b with
    | error e' =>
      refine ⟨fun e h => ?_, fun x h => (nomatch h)⟩
      have ee : e' = e := Except.error.inj h
      exact ee ▸ bh2_err (w7 op) h42 hb
    | ok c =>
      obtain ⟨b1, b2⟩ := bh2_ok hb
      subst b1
      have s40 : nxG .star op 40 = some (.start, op + 1) := by rw [nxG, if_pos rfl]
      have g0 : goG (.rounds w) op (l.drop b) b = goG .start (op + 1) (l.drop (b + 2)) (b + 2) := by
        rw [b2, goG, h42]
        show goG .star op (40 :: l.drop (b + 2)) (b + 1) = _
        rw [goG, s40]
      have cst : ((op + 1 : Nat) : Int) = (op : Int) + W 42 + W 40 := by have := hw.open2; omega
      have hw2 := w2 W hw
      have p1' : dpL W ((op + 1 : Nat) : Int) (l.drop (b + 2)) := by
        rw [w1] at p1
        have z := dpL_pln hw2 p1
        rw [b2, dpL, dpL] at z
        rw [cst]
        exact z.2.2
      have p2' : ∀ k, spL W k ((op + 1 : Nat) : Int) (l.drop (b + 2)) = spL W k (op : Int) (l.drop a) := fun k => by
        rw [w1, spL_pln hw2, b2, spL, spL, cst, if_neg (fun z => absurd z.1 (by decide)), if_neg (fun z => absurd z.1 (by decide)), Nat.zero_add, Nat.zero_add]
      have p3' : totL (l.drop (b + 2)) + 2 ≤ r - 1 := by
        rw [w1, totL_pln hw2, b2, totL, totL, if_neg (by decide), if_pos (.inr rfl)] at p3
        omega
      obtain ⟨m1, m2⟩ := many_go hw hf (b + 2) (r - 1) ⟨p1', fun k => by rw [p2' k]; exact p2 k, p3'⟩
      rw [g0]
      show (∀ e, (match rdMany f l (b + 2) (r - 1) with | .error e => .error e | .ok (is, d, r2) => match rdBh l [41] d with | .error e => .error e | .ok e2 => .ok (.loop (m : Nat) is, e2, r2) : Rdx (It × Nat × Nat)) = .error e → _) ∧ (∀ x, (match rdMany f l (b + 2) (r - 1) with | .error e => .error e | .ok (is, d, r2) => match rdBh l [41] d with | .error e => .error e | .ok e2 => .ok (.loop (m : Nat) is, e2, r2) : Rdx (It × Nat × Nat)) = .ok x → _)
      cases hm : rdMany f l (b + 2) (r - 1) with
      | error e' =>
        refine ⟨fun e h => ?_, fun x h => (nomatch h)⟩
        have ee : e' = e := Except.error.inj h
        exact ee ▸ m1 _ hm
      | ok y =>
        obtain ⟨is, d, r2⟩ := y
        obtain ⟨q1, ⟨q2, q3, q4⟩, q5⟩ := m2 _ hm
        replace q1 : goG .start (op + 1) (l.drop (b + 2)) (b + 2) = goG .done (op + 1) (l.drop d) d := q1
        rw [q1]
        show (∀ e, (match rdBh l [41] d with | .error e => .error e | .ok e2 => .ok (.loop (m : Nat) is, e2, r2) : Rdx (It × Nat × Nat)) = .error e → _) ∧ (∀ x, (match rdBh l [41] d with | .error e => .error e | .ok e2 => .ok (.loop (m : Nat) is, e2, r2) : Rdx (It × Nat × Nat)) = .ok x → _)
        cases he : rdBh l [41] d with
        | error e' =>
          refine ⟨fun e h => ?_, fun x h => (nomatch h)⟩
          have ee : e' = e := Except.error.inj h
          obtain ⟨h9, h10⟩ := rdBh1_err he
          rw [← ee, h9]
          cases hz : l.drop d with
          | nil => rw [goG, if_neg (fun z => absurd z.1 (Nat.succ_ne_zero _))]
          | cons x xs =>
            have mm : nxG .done (op + 1) x = none := by
              rw [nxG, if_neg (fun z => h10 x xs hz z.1), if_neg (q5 x xs hz)]
            rw [goG, mm]
        | ok e2 =>
          refine ⟨fun e h => (nomatch h), fun x h => ?_⟩
          have ex := Except.ok.inj h
          subst ex
          obtain ⟨e1, e3⟩ := rdBh1 he
          subst e1
          have d41 : W 41 = -1 := hw.close
          have cs2 : ((op + 1 : Nat) : Int) + -1 = (op : Int) := by omega
          replace q2 : dpL W ((op + 1 : Nat) : Int) (l.drop d) := q2
          replace q3 : ∀ k, spL W k ((op + 1 : Nat) : Int) (l.drop d) ≤ spL W k ((op + 1 : Nat) : Int) (l.drop (b + 2)) := q3
          replace q4 : totL (l.drop d) + 1 ≤ r2 := q4
          refine ⟨?_, ?_, ?_, ?_⟩
          · show goG .done (op + 1) (l.drop d) d = goG .done op (l.drop (d + 1)) (d + 1)
            have mm : nxG .done (op + 1) 41 = some (.done, op) := by
              rw [nxG, if_pos ⟨rfl, Nat.succ_pos _⟩]
              rfl
            rw [e3, goG, mm]
          · show dpL W (op : Int) (l.drop (d + 1))
            rw [e3, dpL, d41, cs2] at q2
            exact q2.2
          · intro k
            show spL W k (op : Int) (l.drop (d + 1)) ≤ _
            have z := q3 k
            rw [e3, spL, d41, cs2, if_neg (fun z => absurd z.1 (by decide)), Nat.zero_add, p2' k] at z
            exact z
          · show totL (l.drop (d + 1)) + 1 ≤ r2
            rw [e3, totL, if_neg (by decide), Nat.zero_add] at q4
            exact q4
theorem it_is {l : List Nat} : ∀ d : Nat, IsI (rdIt l d) l (Vt d)
  | 0 => fun a r x hr h => by
    replace h : (if isLet l a = true then rdLine l a r else .error a : Rdx (It × Nat × Nat)) = .ok x := h
    by_cases hl : isLet l a = true
    · rw [if_pos hl] at h
      obtain ⟨h1, h2, h3, _⟩ := line_isI hl hr h
      exact ⟨h1, h2 0, h3⟩
    · rw [if_neg hl] at h
      exact nomatch h
  | d + 1 => fun a r x hr h => by
    replace h : (if isLet l a = true then rdLine l a r else rdLoop (rdIt l d) l a r : Rdx (It × Nat × Nat)) = .ok x := h
    by_cases hl : isLet l a = true
    · rw [if_pos hl] at h
      obtain ⟨h1, h2, h3, _⟩ := line_isI hl hr h
      exact ⟨h1, h2 _, h3⟩
    · rw [if_neg hl] at h
      exact loop_is (it_is d) (Bool.eq_false_iff.mpr hl) h
theorem it_go {W : Nat → Int} (hw : Wt W) {l : List Nat} : ∀ (d op : Nat), op + d = 5 → GoI W (rdIt l d) l op
  | 0, op, hd => fun a r hp => by
    have z := dpL_le hp.1
    omega
  | d + 1, op, hd => fun a r hp => by
    show (∀ e, (if isLet l a = true then rdLine l a r else rdLoop (rdIt l d) l a r : Rdx (It × Nat × Nat)) = .error e → _) ∧ (∀ x, (if isLet l a = true then rdLine l a r else rdLoop (rdIt l d) l a r : Rdx (It × Nat × Nat)) = .ok x → _)
    by_cases hl : isLet l a = true
    · rw [if_pos hl]
      refine ⟨fun e h => line_err hl h, fun x h => ?_⟩
      obtain ⟨h1, h2, h3, ⟨w, h4, h5⟩, h6, h7⟩ := line_isI hl (by have := hp.2.2; omega) h
      have p1 := hp.1
      have p3 := hp.2.2
      rw [h4] at p1 p3
      rw [totL_pln (h5 W hw)] at p3
      have h5 := h5 W hw
      refine ⟨h7 op, dpL_pln h5 p1, fun k => ?_, by omega⟩
      rw [h4, spL_pln h5]
      exact Nat.le_refl _
    · rw [if_neg hl]
      exact loop_go hw (it_go hw d (op + 1) (by omega)) (Bool.eq_false_iff.mpr hl) hp
/-- what is read is what stands there -/
theorem rdP_is {l : List Nat} {is : List It} (h : rdP l = .ok is) : Its.tx is = l ∧ 1 ≤ is.length ∧ is.length ≤ 20 ∧ (∀ i ∈ is, Vt 5 i) ∧ Its.ni is ≤ 60 := by
  unfold rdP at h
  cases hm : rdMany (rdIt l 5) l 0 60 with
  | error e => rw [hm] at h; exact nomatch h
  | ok y =>
    obtain ⟨js, a, r⟩ := y
    rw [hm] at h
    replace h : (if a < l.length then .error a else .ok js : Rdx (List It)) = .ok is := h
    obtain ⟨m1, m2, m3, m4, m5⟩ := many_is (it_is 5) 0 60 _ (by decide) hm
    by_cases ha : a < l.length
    · rw [if_pos ha] at h
      exact nomatch h
    · rw [if_neg ha] at h
      have ex := Except.ok.inj h
      subst ex
      refine ⟨?_, m2, m3, m4, ?_⟩
      · have z : l.drop 0 = Its.tx js ++ l.drop a := m1
        rw [List.drop_eq_nil_of_le (Nat.le_of_not_lt ha), List.append_nil, List.drop_zero] at z
        exact z.symm
      · have : Its.ni js + r ≤ 60 := m5
        omega
/-- texts under the limits -/
def LimL (W : Nat → Int) (l : List Nat) : Prop := dpL W 0 l ∧ (∀ k, spL W k 0 l ≤ 19) ∧ totL l ≤ 58
theorem rdP_go {W : Nat → Int} (hw : Wt W) {l : List Nat} (h : LimL W l) : wrongG l = match rdP l with
    | .error e => some e
    | .ok _ => none := by
  obtain ⟨m1, m2⟩ := many_go hw (it_go hw 5 0 rfl) 0 60 (l := l) ⟨h.1, h.2.1, by have := h.2.2; rw [List.drop_zero]; omega⟩
  unfold wrongG rdP
  cases hm : rdMany (rdIt l 5) l 0 60 with
  | error e => exact m1 e hm
  | ok y =>
    obtain ⟨js, a, r⟩ := y
    obtain ⟨q1, ⟨q2, q3, q4⟩, q5⟩ := m2 _ hm
    replace q1 : goG .start 0 l 0 = goG .done 0 (l.drop a) a := q1
    rw [q1]
    show _ = match (if a < l.length then .error a else .ok js : Rdx (List It)) with
      | .error e => some e
      | .ok _ => none
    by_cases ha : a < l.length
    · rw [if_pos ha]
      cases hz : l.drop a with
      | nil =>
        have := List.drop_eq_nil_iff.mp hz
        omega
      | cons x xs =>
        have mm : nxG .done 0 x = none := by
          rw [nxG, if_neg (fun z => absurd z.2 (by decide)), if_neg (q5 x xs hz)]
        rw [goG, mm]
    · rw [if_neg ha, List.drop_eq_nil_of_le (Nat.le_of_not_lt ha), goG, if_pos ⟨rfl, rfl⟩]
end Ev

/-! ## Texts of small programs, spoilt once and twice, stay under the limits -/
namespace Ev
open PySem PySem.Spec PyProof.Rows L2
def sumW (w : Nat → Int) : List Nat → Int
  | [] => 0
  | c :: cs => w c + sumW w cs
theorem sumW_app (w : Nat → Int) : ∀ x y : List Nat, sumW w (x ++ y) = sumW w x + sumW w y
  | [], y => by rw [List.nil_append, sumW, Int.zero_add]
  | c :: cs, y => by rw [List.cons_append, sumW, sumW, sumW_app w cs y, Int.add_assoc]
/-- no stretch of a text rises by more than r -/
def Rz (w : Nat → Int) (r : Int) (l : List Nat) : Prop := ∀ x y z, l = x ++ (y ++ z) → sumW w y ≤ r
def SpM (w : Nat → Int) (N : Nat) (l : List Nat) : Prop := ∀ k d, spL w k d l ≤ N
theorem rz_pos {w : Nat → Int} {r : Int} {l : List Nat} (h : Rz w r l) : 0 ≤ r := h [] [] l rfl
theorem cross {p q x y z : List Nat} (h : p ++ q = x ++ (y ++ z)) : (∃ z', p = x ++ (y ++ z')) ∨ (∃ x', q = x' ++ (y ++ z)) ∨ (∃ y1 y2, y = y1 ++ y2 ∧ p = x ++ y1 ∧ q = y2 ++ z) := by
  rcases List.append_eq_append_iff.mp h with ⟨a, h1, h2⟩ | ⟨a, h1, h2⟩
  · exact .inr (.inl ⟨a, h2⟩)
  · rcases List.append_eq_append_iff.mp h2 with ⟨b, h3, h4⟩ | ⟨b, h3, h4⟩
    · exact .inl ⟨b, by rw [h1, h3]⟩
    · exact .inr (.inr ⟨a, b, h3, h1, h4⟩)
theorem rz_mono {w : Nat → Int} {r s : Int} {l : List Nat} (h : Rz w r l) (hs : r ≤ s) : Rz w s l := fun x y z e => Int.le_trans (h x y z e) hs
theorem rz_splice {w : Nat → Int} {r : Int} {l p q u v : List Nat} (h : Rz w r l) (hp : l = p ++ u) (hq : l = v ++ q) : Rz w (r + r) (p ++ q) := by
  intro x y z e
  have h0 := rz_pos h
  rcases cross e with ⟨z', e1⟩ | ⟨x', e1⟩ | ⟨y1, y2, e1, e2, e3⟩
  · have := h x y (z' ++ u) (by rw [hp, e1]; simp only [List.append_assoc])
    omega
  · have := h (v ++ x') y z (by rw [hq, e1]; simp only [List.append_assoc])
    omega
  · have h1 := h x y1 u (by rw [hp, e2]; simp only [List.append_assoc])
    have h2 := h v y2 z (by rw [hq, e3])
    rw [e1, sumW_app]
    omega
theorem rz_ins {w : Nat → Int} {r t : Int} {p q : List Nat} {c : Nat} (h : Rz w r (p ++ q)) (hc : w c ≤ t) (ht : 0 ≤ t) : Rz w (r + t) (p ++ c :: q) := by
  intro x y z e
  have h0 := rz_pos h
  rcases cross e with ⟨z', e1⟩ | ⟨x', e1⟩ | ⟨y1, y2, e1, e2, e3⟩
  · have := h x y (z' ++ q) (by rw [e1]; simp only [List.append_assoc])
    omega
  · cases x' with
    | nil =>
      cases y with
      | nil => show (0 : Int) ≤ _; omega
      | cons d y' =>
        have e1' : c :: q = d :: (y' ++ z) := e1
        obtain ⟨e2, e3⟩ := List.cons.inj e1'
        have := h p y' z (by rw [e3])
        rw [sumW, ← e2]
        omega
    | cons d x'' =>
      have e1' : c :: q = d :: (x'' ++ (y ++ z)) := e1
      obtain ⟨e2, e3⟩ := List.cons.inj e1'
      have := h (p ++ x'') y z (by rw [e3]; simp only [List.append_assoc])
      omega
  · cases y2 with
    | nil =>
      have := h x y1 q (by rw [e2]; simp only [List.append_assoc])
      rw [e1, List.append_nil]
      omega
    | cons d y2' =>
      have e3' : c :: q = d :: (y2' ++ z) := e3
      obtain ⟨e4, e5⟩ := List.cons.inj e3'
      have := h x (y1 ++ y2') z (by rw [e2, e5]; simp only [List.append_assoc])
      rw [sumW_app] at this
      rw [e1, sumW_app, sumW, ← e4]
      omega
theorem rz_del {w : Nat → Int} (hw : ∀ c, -1 ≤ w c) {r : Int} {p q : List Nat} {c : Nat} (h : Rz w r (p ++ c :: q)) : Rz w (r + 1) (p ++ q) := by
  intro x y z e
  have h0 := rz_pos h
  rcases cross e with ⟨z', e1⟩ | ⟨x', e1⟩ | ⟨y1, y2, e1, e2, e3⟩
  · have := h x y (z' ++ c :: q) (by rw [e1]; simp only [List.append_assoc])
    omega
  · have := h (p ++ c :: x') y z (by rw [e1]; simp only [List.append_assoc, List.cons_append])
    omega
  · have := h x (y1 ++ c :: y2) z (by rw [e2, e3]; simp only [List.append_assoc, List.cons_append])
    rw [sumW_app, sumW] at this
    have := hw c
    rw [e1, sumW_app]
    omega
theorem spL_app {w : Nat → Int} {k : Int} : ∀ (x y : List Nat) (d : Int), spL w k d (x ++ y) = spL w k d x + spL w k (d + sumW w x) y
  | [], y, d => by
    rw [List.nil_append, spL, Nat.zero_add, sumW, Int.add_zero]
  | c :: cs, y, d => by
    rw [List.cons_append, spL, spL, spL_app cs y, sumW, Int.add_assoc, Nat.add_assoc]
theorem totL_app : ∀ x y : List Nat, totL (x ++ y) = totL x + totL y
  | [], y => by rw [List.nil_append, totL, Nat.zero_add]
  | c :: cs, y => by rw [List.cons_append, totL, totL, totL_app cs y, Nat.add_assoc]
/-- one thing otherwise -/
inductive Spo (l : List Nat) : List Nat → Prop where
  | splice (p q u v : List Nat) : l = p ++ u → l = v ++ q → Spo l (p ++ q)
  | ins (p q : List Nat) (c : Nat) : l = p ++ q → Spo l (p ++ c :: q)
  | rep (p q : List Nat) (m c : Nat) : l = p ++ m :: q → Spo l (p ++ c :: q)
theorem spo_form {l l' : List Nat} (h : Spo l l') : ∃ p q u v cs, l' = p ++ (cs ++ q) ∧ l = p ++ u ∧ l = v ++ q ∧ cs.length ≤ 1 := by
  cases h with
  | splice p q u v h1 h2 => exact ⟨p, q, u, v, [], rfl, h1, h2, Nat.zero_le _⟩
  | ins p q c h1 => exact ⟨p, q, q, p, [c], rfl, h1, h1, Nat.le_refl _⟩
  | rep p q m c h1 => exact ⟨p, q, m :: q, p ++ [m], [c], rfl, h1, by rw [h1]; simp only [List.append_assoc, List.cons_append, List.nil_append], Nat.le_refl _⟩
theorem spo_sp {w : Nat → Int} {N : Nat} {l l' : List Nat} (h : Spo l l') (hn : SpM w N l) : SpM w (N + N + 1) l' := by
  obtain ⟨p, q, u, v, cs, e1, e2, e3, e4⟩ := spo_form h
  intro k d
  rw [e1, spL_app, spL_app]
  have h1 := hn k d
  rw [e2, spL_app] at h1
  have h2 := hn k (d + sumW w p + sumW w cs - sumW w v)
  rw [e3, spL_app, Int.sub_add_cancel] at h2
  have h3 : spL w k (d + sumW w p) cs ≤ 1 := by
    cases cs with
    | nil => exact Nat.zero_le _
    | cons c cs' =>
      cases cs' with
      | nil =>
        rw [spL, spL]
        split <;> omega
      | cons _ _ =>
        simp only [List.length_cons] at e4
        omega
  omega
theorem spo_tot {T : Nat} {l l' : List Nat} (h : Spo l l') (hn : totL l ≤ T) : totL l' ≤ T + T + 1 := by
  obtain ⟨p, q, u, v, cs, e1, e2, e3, e4⟩ := spo_form h
  rw [e1, totL_app, totL_app]
  have h1 := hn
  rw [e2, totL_app] at h1
  have h2 := hn
  rw [e3, totL_app] at h2
  have h3 : totL cs ≤ 1 := by
    cases cs with
    | nil => exact Nat.zero_le _
    | cons c cs' =>
      cases cs' with
      | nil =>
        rw [totL, totL]
        split <;> omega
      | cons _ _ =>
        simp only [List.length_cons] at e4
        omega
  omega
def wA (c : Nat) : Int := if c = 42 then 1 else if c = 41 then -1 else 0
def wB (c : Nat) : Int := if c = 40 then 1 else if c = 41 then -1 else 0
theorem wA_ok : Wt wA := by
  refine ⟨rfl, rfl, rfl, rfl, fun c h => ?_, fun c h => ?_⟩
  · have := letB_iff.mp h
    unfold wA
    rw [if_neg (by omega), if_neg (by omega)]
  · have := digB_iff.mp h
    unfold wA
    rw [if_neg (by omega), if_neg (by omega)]
theorem wB_ok : Wt wB := by
  refine ⟨rfl, rfl, rfl, rfl, fun c h => ?_, fun c h => ?_⟩
  · have := letB_iff.mp h
    unfold wB
    rw [if_neg (by omega), if_neg (by omega)]
  · have := digB_iff.mp h
    unfold wB
    rw [if_neg (by omega), if_neg (by omega)]
theorem wA_bd (c : Nat) : -1 ≤ wA c ∧ wA c ≤ 1 := by
  unfold wA
  split
  · omega
  · split <;> omega
theorem wB_bd (c : Nat) : -1 ≤ wB c ∧ wB c ≤ 1 := by
  unfold wB
  split
  · omega
  · split <;> omega
theorem spo_rz2 {w : Nat → Int} (hw : ∀ c, -1 ≤ w c ∧ w c ≤ 1) {r : Int} {l l' : List Nat} (h : Spo l l') (hr : Rz w r l) (h2 : 2 ≤ r) : Rz w (r + r) l' := by
  cases h with
  | splice p q u v h1 h2 => exact rz_splice hr h1 h2
  | ins p q c h1 =>
    rw [h1] at hr
    exact rz_mono (rz_ins hr (hw c).2 (by decide)) (by omega)
  | rep p q m c h1 =>
    rw [h1] at hr
    exact rz_mono (rz_ins (rz_del (fun c => (hw c).1) hr) (hw c).2 (by decide)) (by omega)
theorem spo_rz1 {l l' : List Nat} (h : Spo l l') (hA : Rz wA 1 l) (hB : Rz wB 1 l) : Rz wA 2 l' ∨ Rz wB 2 l' := by
  cases h with
  | splice p q u v h1 h2 => exact .inl (rz_splice hA h1 h2)
  | ins p q c h1 =>
    rw [h1] at hA
    exact .inl (rz_ins hA (wA_bd c).2 (by decide))
  | rep p q m c h1 =>
    by_cases hc : c = 42
    · rw [h1] at hB
      exact .inr (rz_ins (t := 0) (rz_del (fun c => (wB_bd c).1) hB) (by rw [hc]; decide) (by decide))
    · rw [h1] at hA
      refine .inl (rz_ins (t := 0) (rz_del (fun c => (wA_bd c).1) hA) ?_ (by decide))
      unfold wA
      rw [if_neg hc]
      split <;> omega
theorem dpL_of {w : Nat → Int} : ∀ (l : List Nat) (d : Int), (∀ y z, l = y ++ z → d + sumW w y ≤ 4) → dpL w d l
  | [], d, h => by
    have := h [] [] rfl
    rw [sumW] at this
    show d ≤ 4
    omega
  | c :: cs, d, h => by
    refine ⟨?_, dpL_of cs _ fun y z e => ?_⟩
    · have := h [] (c :: cs) rfl
      rw [sumW] at this
      omega
    · have := h (c :: y) z (by rw [e]; rfl)
      rw [sumW] at this
      omega
theorem lim_of {w : Nat → Int} {l : List Nat} (h1 : Rz w 4 l) (h2 : SpM w 19 l) (h3 : totL l ≤ 58) : LimL w l :=
  ⟨dpL_of l 0 fun y z e => by have := h1 [] y z e; omega, fun k => h2 k 0, h3⟩
/-- what is asked of a text before it is spoilt -/
structure PgL (l : List Nat) : Prop where
  rA : Rz wA 1 l
  rB : Rz wB 1 l
  sA : SpM wA 3 l
  sB : SpM wB 3 l
  tot : totL l ≤ 8
def Lim (l : List Nat) : Prop := ∃ w, Wt w ∧ LimL w l
theorem PgL.once {l l' : List Nat} (h : PgL l) (hs : Spo l l') : Lim l' := by
  have ht := spo_tot hs h.tot
  rcases spo_rz1 hs h.rA h.rB with hr | hr
  · exact ⟨wA, wA_ok, lim_of (rz_mono hr (by decide)) (fun k d => Nat.le_trans (spo_sp hs h.sA k d) (by decide)) (by omega)⟩
  · exact ⟨wB, wB_ok, lim_of (rz_mono hr (by decide)) (fun k d => Nat.le_trans (spo_sp hs h.sB k d) (by decide)) (by omega)⟩
theorem PgL.twice {l l1 l2 : List Nat} (h : PgL l) (hs : Spo l l1) (hs2 : Spo l1 l2) : Lim l2 := by
  have ht := spo_tot hs2 (spo_tot hs h.tot)
  rcases spo_rz1 hs h.rA h.rB with hr | hr
  · exact ⟨wA, wA_ok, lim_of (rz_mono (spo_rz2 wA_bd hs2 hr (by decide)) (by decide)) (fun k d => Nat.le_trans (spo_sp hs2 (spo_sp hs h.sA) k d) (by decide)) (by omega)⟩
  · exact ⟨wB, wB_ok, lim_of (rz_mono (spo_rz2 wB_bd hs2 hr (by decide)) (by decide)) (fun k d => Nat.le_trans (spo_sp hs2 (spo_sp hs h.sB) k d) (by decide)) (by omega)⟩
/-! ### texts by hand -/
theorem spL_tot {w : Nat → Int} {k : Int} : ∀ (l : List Nat) (d : Int), spL w k d l ≤ totL l
  | [], d => Nat.le_refl _
  | c :: cs, d => by
    have := spL_tot (w := w) (k := k) cs (d + w c)
    rw [spL, totL]
    by_cases hc : c = 32 ∧ d = k
    · rw [if_pos hc, if_pos (.inl hc.1)]
      omega
    · rw [if_neg hc]
      omega
theorem dpB_tot : ∀ (l : List Nat) (d : Int), d + totL l ≤ 4 → dpL wB d l
  | [], d, h => by
    rw [totL] at h
    show d ≤ 4
    omega
  | c :: cs, d, h => by
    rw [totL] at h
    refine ⟨by omega, dpB_tot cs _ ?_⟩
    unfold wB
    by_cases h40 : c = 40
    · rw [if_pos (.inr h40)] at h
      rw [if_pos h40]
      omega
    · rw [if_neg h40]
      split <;> omega
theorem lim_hand {l : List Nat} (h : totL l ≤ 4) : Lim l :=
  ⟨wB, wB_ok, dpB_tot l 0 (by omega), fun k => Nat.le_trans (spL_tot l 0) (by omega), by omega⟩
/-! ### texts of programs of up to three items -/
def inR (w : Nat → Int) : Int → List Nat → Prop
  | d, [] => 0 ≤ d ∧ d ≤ 1
  | d, c :: cs => (0 ≤ d ∧ d ≤ 1) ∧ inR w (d + w c) cs
theorem inR_pre {w : Nat → Int} : ∀ (y z : List Nat) (d : Int), inR w d (y ++ z) → 0 ≤ d + sumW w y ∧ d + sumW w y ≤ 1
  | [], z, d, h => by
    rw [sumW, Int.add_zero]
    cases z with
    | nil => exact h
    | cons c cs => exact h.1
  | c :: cs, z, d, h => by
    have := inR_pre cs z (d + w c) h.2
    rw [sumW]
    omega
theorem rz_of_inR {w : Nat → Int} {l : List Nat} (h : inR w 0 l) : Rz w 1 l := by
  intro x y z e
  rw [e] at h
  have h1 := inR_pre x (y ++ z) 0 h
  rw [← List.append_assoc] at h
  have h2 := inR_pre (x ++ y) z 0 h
  rw [sumW_app] at h2
  omega
def Zr (w : Nat → Int) (xs : List Nat) : Prop := ∀ c ∈ xs, w c = 0
theorem inR_zr {w : Nat → Int} {z : List Nat} : ∀ {xs : List Nat} {d : Int}, Zr w xs → inR w d z → inR w d (xs ++ z)
  | [], d, _, h => h
  | c :: cs, d, hp, h => by
    refine ⟨?_, ?_⟩
    · cases z with
      | nil => exact h
      | cons c cs => exact h.1
    · rw [hp c (List.mem_cons_self ..), Int.add_zero]
      exact inR_zr (fun x hx => hp x (List.mem_cons_of_mem _ hx)) h
theorem line_pln {w : Nat → Int} (hw : Wt w) {n : Nat} {x : Str} {t : Int} (h : Vt n (.line x t)) : Pln w (It.tx (.line x t)) := by
  obtain ⟨h1, h2, h3⟩ := vt_line.mp h
  rw [It.tx]
  exact pln_app (pln_let hw h1.2.2) (pln_app (xs := [58]) (pln_colon hw) (pln_dig hw fun c hc => numL_dig hc))
theorem pln_zr {w : Nat → Int} {xs : List Nat} (h : Pln w xs) : Zr w xs := fun c hc => (h c hc).2.2.2
/-- an item of such a program -/
def Pgi : It → Prop
  | .line x t => Vt 0 (.line x t)
  | .loop r is => Vt 1 (.loop r is) ∧ is.length ≤ 2
theorem vt0_line {i : It} (h : Vt 0 i) : ∃ x t, i = .line x t := by
  cases i with
  | line x t => exact ⟨x, t, rfl⟩
  | loop r is => exact h.elim
/-- what stands in such a loop: no weight, one gap at most -/
theorem inner_tx {w : Nat → Int} (hw : Wt w) {is : List It} (h : ∀ i ∈ is, Vt 0 i) (hl : is.length ≤ 2) : ∃ p q : List Nat, Pln w p ∧ Pln w q ∧ (Its.tx is = p ∨ Its.tx is = p ++ 32 :: q) := by
  match is with
  | [] => exact ⟨[], [], fun c h => (List.not_mem_nil h).elim, fun c h => (List.not_mem_nil h).elim, .inl (by rw [Its.tx])⟩
  | [i] =>
    obtain ⟨x, t, e⟩ := vt0_line (h i (List.mem_cons_self ..))
    have hi := h i (List.mem_cons_self ..)
    rw [e] at hi
    refine ⟨It.tx i, [], by rw [e]; exact line_pln hw hi, fun c h => (List.not_mem_nil h).elim, .inl (by rw [Its.tx])⟩
  | [i, j] =>
    obtain ⟨x, t, e⟩ := vt0_line (h i (List.mem_cons_self ..))
    have hi := h i (List.mem_cons_self ..)
    rw [e] at hi
    have hjm : j ∈ [i, j] := List.mem_cons_of_mem _ (List.mem_cons_self ..)
    obtain ⟨x', t', e'⟩ := vt0_line (h j hjm)
    have hj := h j hjm
    rw [e'] at hj
    refine ⟨It.tx i, It.tx j, by rw [e]; exact line_pln hw hi, by rw [e']; exact line_pln hw hj, .inr ?_⟩
    rw [Its.tx, Its.tx]
  | i :: j :: k :: is =>
    simp only [List.length_cons] at hl
    omega
theorem pgi_bd {w : Nat → Int} (hw : Wt w) (hb : ∀ c, -1 ≤ w c ∧ w c ≤ 1) (h42 : 0 ≤ w 42 ∧ 0 ≤ w 40) {i : It} (h : Pgi i) (z : List Nat) : (inR w 0 z → inR w 0 (It.tx i ++ z)) ∧ (∀ k d, spL w k d (It.tx i ++ z) ≤ (if k = d + 1 then 1 else 0) + spL w k d z) ∧ totL (It.tx i ++ z) ≤ 2 + totL z := by
  cases i with
  | line x t =>
    have hp := line_pln hw (n := 0) h
    refine ⟨fun hz => inR_zr (pln_zr hp) hz, fun k d => ?_, ?_⟩
    · rw [spL_pln hp]
      exact Nat.le_add_left ..
    · rw [totL_pln hp]
      exact Nat.le_add_left ..
  | loop r is =>
    obtain ⟨⟨v1, v2, v3, v4, v5⟩, v6⟩ := h
    obtain ⟨p, q, hp, hq, hpq⟩ := inner_tx hw v5 v6
    have hd : Pln w (TL.numL r.toNat) := pln_dig hw fun c hc => numL_dig hc
    have e : It.tx (.loop r is) ++ z = TL.numL r.toNat ++ (42 :: 40 :: (Its.tx is ++ 41 :: z)) := by
      rw [It.tx]
      simp only [List.append_assoc, List.cons_append, List.nil_append]
    have o2 := hw.open2
    have hzi : Zr w (Its.tx is) := by
      rcases hpq with hh | hh
      · rw [hh]
        exact pln_zr hp
      · rw [hh]
        intro c hc
        rcases List.mem_append.mp hc with hc | hc
        · exact pln_zr hp c hc
        · rcases List.mem_cons.mp hc with rfl | hc
          · exact hw.gap
          · exact pln_zr hq c hc
    have hs0 : sumW w (Its.tx is) = 0 := by
      have : ∀ xs : List Nat, Zr w xs → sumW w xs = 0 := by
        intro xs
        induction xs with
        | nil => intro _; rfl
        | cons c cs ih =>
          intro hx
          rw [sumW, hx c (List.mem_cons_self ..), ih fun y hy => hx y (List.mem_cons_of_mem _ hy)]
          rfl
      exact this _ hzi
    rw [e]
    refine ⟨fun hz => ?_, fun k d => ?_, ?_⟩
    · refine inR_zr (pln_zr hd) ⟨by omega, by omega, ?_⟩
      have e1 : (0 : Int) + w 42 + w 40 = 1 := by omega
      rw [e1]
      refine inR_zr hzi ⟨by omega, ?_⟩
      rw [hw.close]
      exact hz
    · rw [spL_pln hd, spL, spL, if_neg (fun z => absurd z.1 (by decide)), if_neg (fun z => absurd z.1 (by decide)), Nat.zero_add, Nat.zero_add]
      have e1 : d + w 42 + w 40 = d + 1 := by omega
      rw [e1, spL_app, hs0, Int.add_zero, spL, if_neg (fun z => absurd z.1 (by decide)), Nat.zero_add, hw.close, Int.add_neg_cancel_right]
      refine Nat.add_le_add_right ?_ _
      rcases hpq with hh | hh
      · have e2 : spL w k (d + 1) (Its.tx is) = 0 := by
          rw [hh]
          have := spL_pln (k := k) (d := d + 1) (z := []) hp
          rw [List.append_nil] at this
          rw [this]
          rfl
        rw [e2]
        exact Nat.zero_le _
      · have e2 : spL w k (d + 1) (Its.tx is) = if k = d + 1 then 1 else 0 := by
          rw [hh, spL_pln hp, spL]
          have := spL_pln (k := k) (d := d + 1 + w 32) (z := []) hq
          rw [List.append_nil] at this
          rw [this]
          show (if 32 = 32 ∧ d + 1 = k then 1 else 0) + 0 = _
          by_cases hk : k = d + 1
          · rw [if_pos ⟨rfl, hk.symm⟩, if_pos hk]
          · rw [if_neg (fun z => hk z.2.symm), if_neg hk]
        rw [e2]
        exact Nat.le_refl _
    · rw [totL_pln hd, totL, totL, if_neg (by decide), if_pos (.inr rfl), totL_app, totL, if_neg (by decide)]
      have e2 : totL (Its.tx is) ≤ 1 := by
        rcases hpq with hh | hh
        · have := totL_pln (z := []) hp
          rw [List.append_nil] at this
          rw [hh, this]
          exact Nat.zero_le _
        · have := totL_pln (z := []) hq
          rw [List.append_nil] at this
          rw [hh, totL_pln hp, totL, this, if_pos (.inl rfl)]
          exact Nat.le_refl _
      omega
theorem more_bd {w : Nat → Int} (hw : Wt w) (hb : ∀ c, -1 ≤ w c ∧ w c ≤ 1) (h42 : 0 ≤ w 42 ∧ 0 ≤ w 40) : ∀ is : List It, (∀ i ∈ is, Pgi i) → inR w 0 (moreT is) ∧ (∀ k d, spL w k d (moreT is) ≤ (if k = d then is.length else 0) + (if k = d + 1 then is.length else 0)) ∧ totL (moreT is) ≤ 3 * is.length
  | [], _ => ⟨⟨by decide, by decide⟩, fun k d => Nat.zero_le _, Nat.zero_le _⟩
  | i :: is, h => by
    obtain ⟨h1, h2, h3⟩ := more_bd hw hb h42 is fun j hj => h j (List.mem_cons_of_mem _ hj)
    obtain ⟨p1, p2, p3⟩ := pgi_bd hw hb h42 (h i (List.mem_cons_self ..)) (moreT is)
    rw [moreT]
    refine ⟨⟨⟨by decide, by decide⟩, ?_⟩, fun k d => ?_, ?_⟩
    · rw [hw.gap, Int.add_zero]
      exact p1 h1
    · rw [spL, hw.gap, Int.add_zero, List.length_cons]
      have a := p2 k d
      have b := h2 k d
      by_cases hk : k = d
      · rw [if_pos hk] at b ⊢
        have hk1 : ¬ k = d + 1 := by omega
        rw [if_neg hk1] at a b ⊢
        rw [if_pos ⟨rfl, hk.symm⟩]
        omega
      · rw [if_neg hk] at b ⊢
        rw [if_neg (fun z => hk z.2.symm)]
        by_cases hk1 : k = d + 1
        · rw [if_pos hk1] at a b ⊢
          omega
        · rw [if_neg hk1] at a b ⊢
          omega
    · rw [totL, if_pos (.inl rfl), List.length_cons]
      omega
theorem page_bd {w : Nat → Int} (hw : Wt w) (hb : ∀ c, -1 ≤ w c ∧ w c ≤ 1) (h42 : 0 ≤ w 42 ∧ 0 ≤ w 40) {is : List It} (h : ∀ i ∈ is, Pgi i) (hl : is.length ≤ 3) : Rz w 1 (Its.tx is) ∧ SpM w 3 (Its.tx is) ∧ totL (Its.tx is) ≤ 8 := by
  cases is with
  | nil =>
    rw [Its.tx]
    exact ⟨rz_of_inR ⟨by decide, by decide⟩, fun k d => Nat.zero_le _, Nat.zero_le _⟩
  | cons i is =>
    obtain ⟨h1, h2, h3⟩ := more_bd hw hb h42 is fun j hj => h j (List.mem_cons_of_mem _ hj)
    obtain ⟨p1, p2, p3⟩ := pgi_bd hw hb h42 (h i (List.mem_cons_self ..)) (moreT is)
    rw [List.length_cons] at hl
    rw [tx_more]
    refine ⟨rz_of_inR (p1 h1), fun k d => ?_, by omega⟩
    have a := p2 k d
    have b := h2 k d
    by_cases hk : k = d
    · rw [if_pos hk] at b
      rw [if_neg (by omega)] at a b
      omega
    · rw [if_neg hk] at b
      by_cases hk1 : k = d + 1
      · rw [if_pos hk1] at a b
        omega
      · rw [if_neg hk1] at a b
        omega
theorem pgL_of {is : List It} (h : ∀ i ∈ is, Pgi i) (hl : is.length ≤ 3) : PgL (Its.tx is) := by
  obtain ⟨a1, a2, a3⟩ := page_bd wA_ok wA_bd ⟨by decide, by decide⟩ h hl
  obtain ⟨b1, b2, _⟩ := page_bd wB_ok wB_bd ⟨by decide, by decide⟩ h hl
  exact ⟨a1, b1, a2, b2, a3⟩
end Ev

/-! ## Sums over classes -/
namespace Ev
open PySem
def sumK (h : Nat → Int) : Nat → Int
  | 0 => 0
  | n + 1 => sumK h n + h n
theorem sumK_congr {g h : Nat → Int} : ∀ {n : Nat}, (∀ k, k < n → g k = h k) → sumK g n = sumK h n
  | 0, _ => rfl
  | n + 1, e => by
    show sumK g n + g n = sumK h n + h n
    rw [sumK_congr fun k hk => e k (Nat.lt_succ_of_lt hk), e n (Nat.lt_succ_self n)]
theorem sumK_left (h : Nat → Int) : ∀ n : Nat, sumK h (n + 1) = h 0 + sumK (fun k => h (k + 1)) n
  | 0 => by
    show 0 + h 0 = h 0 + 0
    omega
  | n + 1 => by
    show sumK h (n + 1) + h (n + 1) = h 0 + (sumK (fun k => h (k + 1)) n + h (n + 1))
    rw [sumK_left h n]
    omega
theorem sumK_app (h : Nat → Int) (m : Nat) : ∀ n : Nat, sumK h (m + n) = sumK h m + sumK (fun k => h (m + k)) n
  | 0 => by
    show sumK h m = sumK h m + 0
    omega
  | n + 1 => by
    show sumK h (m + n) + h (m + n) = sumK h m + (sumK (fun k => h (m + k)) n + h (m + n))
    rw [sumK_app h m n]
    omega
theorem sumK_zero : ∀ n : Nat, sumK (fun _ => 0) n = 0
  | 0 => rfl
  | n + 1 => by
    show sumK _ n + 0 = 0
    rw [sumK_zero n]
    rfl
theorem sumK_plus (g h : Nat → Int) : ∀ n : Nat, sumK (fun k => g k + h k) n = sumK g n + sumK h n
  | 0 => rfl
  | n + 1 => by
    show sumK _ n + (g n + h n) = (sumK g n + g n) + (sumK h n + h n)
    rw [sumK_plus g h n]
    omega
theorem sumK_mul (c : Int) (h : Nat → Int) : ∀ n : Nat, sumK (fun k => c * h k) n = c * sumK h n
  | 0 => (Int.mul_zero c).symm
  | n + 1 => by
    show sumK _ n + c * h n = c * (sumK h n + h n)
    rw [sumK_mul c h n, Int.mul_add]
theorem sumK_mulR (c : Int) (h : Nat → Int) (n : Nat) : sumK (fun k => h k * c) n = sumK h n * c := by
  rw [Int.mul_comm, ← sumK_mul]
  exact sumK_congr fun k _ => Int.mul_comm _ _
theorem sumK_swap (h : Nat → Nat → Int) (m : Nat) : ∀ n : Nat, sumK (fun a => sumK (fun b => h a b) m) n = sumK (fun b => sumK (fun a => h a b) n) m
  | 0 => (sumK_zero m).symm
  | n + 1 => by
    show sumK (fun a => sumK (fun b => h a b) m) n + sumK (fun b => h n b) m = sumK (fun b => sumK (fun a => h a b) n + h n b) m
    rw [sumK_swap h m n, sumK_plus]
theorem sumK_shift1 (h : Nat → Int) (m : Nat) : sumK (fun a => h ((a + 1) % (m + 1))) (m + 1) = sumK h (m + 1) := by
  show sumK (fun a => h ((a + 1) % (m + 1))) m + h ((m + 1) % (m + 1)) = _
  rw [sumK_left h m, Nat.mod_self, sumK_congr (h := fun k => h (k + 1)) fun k hk => by rw [Nat.mod_eq_of_lt (by omega)]]
  omega
theorem sumK_shift {m : Nat} (hm : 0 < m) (h : Nat → Int) : ∀ s : Nat, sumK (fun a => h ((a + s) % m)) m = sumK h m
  | 0 => sumK_congr fun k hk => by rw [Nat.add_zero, Nat.mod_eq_of_lt hk]
  | s + 1 => by
    rw [← sumK_shift hm h s]
    obtain ⟨m', rfl⟩ : ∃ m', m = m' + 1 := ⟨m - 1, by omega⟩
    rw [← sumK_shift1 (fun a => h ((a + s) % (m' + 1))) m']
    exact sumK_congr fun k _ => by rw [Nat.mod_add_mod, show k + (s + 1) = k + 1 + s by omega]
theorem sumK_rev (h : Nat → Int) : ∀ n : Nat, sumK (fun k => h (n - 1 - k)) n = sumK h n
  | 0 => rfl
  | n + 1 => by
    rw [sumK_left]
    show h (n + 1 - 1 - 0) + sumK (fun k => h (n + 1 - 1 - (k + 1))) n = sumK h n + h n
    rw [← sumK_rev h n, sumK_congr (g := fun k => h (n + 1 - 1 - (k + 1))) (h := fun k => h (n - 1 - k)) fun k _ => by rw [show n + 1 - 1 - (k + 1) = n - 1 - k by omega]]
    rw [show n + 1 - 1 - 0 = n by omega]
    omega
theorem sumK_pick {c : Nat} (h : Nat → Int) : ∀ {m : Nat}, c < m → sumK (fun b => h b * (if b = c then 1 else 0)) m = h c
  | m + 1, hc => by
    show sumK _ m + h m * (if m = c then 1 else 0) = h c
    by_cases e : m = c
    · subst e
      rw [if_pos rfl, sumK_congr (h := fun _ => 0) fun k hk => by rw [if_neg (by omega), Int.mul_zero], sumK_zero]
      omega
    · rw [if_neg e, sumK_pick h (show c < m by omega)]
      omega
theorem sumK_le {h : Nat → Int} {M : Int} : ∀ {n : Nat}, (∀ k, k < n → (h k).natAbs ≤ M) → (sumK h n).natAbs ≤ n * M
  | 0, _ => by
    show ((0 : Int).natAbs : Int) ≤ 0 * M
    rw [Int.zero_mul]
    decide
  | n + 1, e => by
    show ((sumK h n + h n).natAbs : Int) ≤ ((n + 1 : Nat) : Int) * M
    have a := sumK_le fun k hk => e k (Nat.lt_succ_of_lt hk)
    have b := e n (Nat.lt_succ_self n)
    have c := Int.natAbs_add_le (sumK h n) (h n)
    rw [show ((n + 1 : Nat) : Int) * M = n * M + M by rw [Int.natCast_add, Int.add_mul]; simp]
    omega
theorem sumK_nn {h : Nat → Int} : ∀ {n : Nat}, (∀ k, k < n → 0 ≤ h k) → 0 ≤ sumK h n
  | 0, _ => Int.le_refl 0
  | n + 1, e => by
    have a := sumK_nn fun k hk => e k (Nat.lt_succ_of_lt hk)
    have b := e n (Nat.lt_succ_self n)
    show 0 ≤ sumK h n + h n
    omega
/-! ### classes, turned back -/
def rot (m c k : Nat) : Nat := (((c : Int) - (k : Int)) % (m : Int)).toNat
section
variable {m : Nat}
theorem rot_int (hm : 0 < m) (c k : Nat) : ((rot m c k : Nat) : Int) = ((c : Int) - k) % m := Int.toNat_of_nonneg (Int.emod_nonneg _ (by omega))
theorem rot_lt (hm : 0 < m) (c k : Nat) : rot m c k < m := by
  have a := rot_int hm c k
  have b := Int.emod_lt_of_pos ((c : Int) - k) (show (0 : Int) < m by omega)
  omega
theorem emod_of {a b : Int} {q : Int} (h : a - b = m * q) : a % (m : Int) = b % m := by
  rw [show a = b + m * q by omega, Int.add_mul_emod_self_left]
/-- what is r modulo m -/
theorem rot_eq (hm : 0 < m) {c k r : Nat} {q : Int} (hr : r < m) (h : (c : Int) - k - r = m * q) : rot m c k = r := by
  have a := rot_int hm c k
  rw [emod_of h, Int.emod_eq_of_lt (by omega) (by omega)] at a
  omega
theorem div_mod (a : Int) (m : Nat) : a % (m : Int) = a - m * (a / m) := by
  have := Int.emod_add_mul_ediv a m
  omega
theorem rot_back (hm : 0 < m) {a k : Nat} (ha : a < m) : rot m ((a + k) % m) k = a := by
  refine rot_eq hm ha (q := -(((a + k : Nat) : Int) / m)) ?_
  have z := div_mod ((a + k : Nat) : Int) m
  rw [Int.natCast_emod, z, Int.mul_neg]
  omega
theorem reindex (hm : 0 < m) (f g : Nat → Int) (s : Nat) : sumK (fun b => f (rot m b s) * g b) m = sumK (fun a => f a * g ((a + s) % m)) m := by
  rw [← sumK_shift hm (fun b => f (rot m b s) * g b) s]
  exact sumK_congr fun a ha => by rw [rot_back hm ha]
theorem rot_per (hm : 0 < m) (c k : Nat) : rot m c (k + m) = rot m c k := by
  refine rot_eq hm (rot_lt hm _ _) (q := ((c : Int) - k) / m - 1) ?_
  rw [rot_int hm, div_mod]
  rw [Int.mul_sub, Int.mul_one]
  omega
theorem rot_zero (hm : 0 < m) {c : Nat} (hc : c < m) : rot m c 0 = c := rot_eq hm hc (q := 0) (by omega)
theorem rot_self (hm : 0 < m) {c : Nat} (hc : c < m) : rot m c m = c := rot_eq hm hc (q := -1) (by omega)
theorem rot_succ (hm : 0 < m) (c k : Nat) : rot m ((c + 1) % m) (k + 1) = rot m c k := by
  refine rot_eq hm (rot_lt hm _ _) (q := ((c : Int) - k) / m - ((c + 1 : Nat) : Int) / m) ?_
  rw [rot_int hm, div_mod, Int.natCast_emod, div_mod]
  rw [Int.mul_sub]
  omega
end
/-! ### what is begun again and again -/
def repF (m s t : Nat) (f : Nat → Int) (c : Nat) : Int := sumK (fun k => f (rot m c (k * s))) t
def mvF (m s : Nat) (f : Nat → Int) (c : Nat) : Int := f (rot m c s)
section
variable {m : Nat} {g : Nat → Int}
theorem sumK_per {h : Nat → Int} (L : Nat) (hp : ∀ k, h (k + L) = h k) (r : Nat) : ∀ q : Nat, sumK h (q * L + r) = q * sumK h L + sumK h r
  | 0 => by
    rw [Nat.zero_mul, Nat.zero_add]
    simp
  | q + 1 => by
    rw [show (q + 1) * L + r = L + (q * L + r) by rw [Nat.succ_mul]; omega, sumK_app, sumK_congr (h := h) (n := q * L + r) fun k _ => by rw [Nat.add_comm L k, hp], sumK_per L hp r q, Int.natCast_add, Int.add_mul]
    simp
    omega
/-- a window that moves on by one -/
theorem slide (hm : 0 < m) (r c : Nat) : sumK (fun k => g (rot m ((c + 1) % m) k)) r = sumK (fun k => g (rot m c k)) r + g ((c + 1) % m) - g (rot m ((c + 1) % m) r) := by
  have a := sumK_left (fun k => g (rot m ((c + 1) % m) k)) r
  have b : sumK (fun k => g (rot m ((c + 1) % m) k)) (r + 1) = sumK (fun k => g (rot m ((c + 1) % m) k)) r + g (rot m ((c + 1) % m) r) := rfl
  rw [sumK_congr (g := fun k => g (rot m ((c + 1) % m) (k + 1))) (h := fun k => g (rot m c k)) fun k _ => by rw [rot_succ hm]] at a
  rw [rot_zero hm (Nat.mod_lt _ hm)] at a
  omega
theorem win_all (hm : 0 < m) : ∀ c : Nat, c < m → sumK (fun k => g (rot m c k)) m = sumK g m
  | 0, _ => by
    have a := slide (g := g) hm m (m - 1)
    rw [show m - 1 + 1 = m by omega, Nat.mod_self, rot_self hm hm] at a
    have b : sumK (fun k => g (rot m (m - 1) k)) m = sumK g m := by
      rw [← sumK_rev g m]
      exact sumK_congr fun k hk => by rw [rot_eq hm (r := m - 1 - k) (q := 0) (by omega) (by omega)]
    omega
  | c + 1, hc => by
    have a := slide (g := g) hm m c
    rw [Nat.mod_eq_of_lt hc, rot_self hm hc, win_all hm c (by omega)] at a
    omega
theorem rep1 (hm : 0 < m) {c : Nat} (hc : c < m) (t : Nat) : repF m 1 t g c = (t / m : Nat) * sumK g m + sumK (fun k => g (rot m c k)) (t % m) := by
  unfold repF
  rw [sumK_congr (h := fun k => g (rot m c k)) fun k _ => by rw [Nat.mul_one]]
  have e : t = t / m * m + t % m := by rw [Nat.mul_comm]; exact (Nat.div_add_mod t m).symm
  conv => lhs; rw [e]
  rw [sumK_per m (fun k => by rw [rot_per hm]), win_all hm c hc]
/-- the last r of a ring -/
theorem tail_sum (hm : 0 < m) {r : Nat} (hr : r ≤ m) : sumK (fun k => g (m - r + k)) r = sumK (fun k => g (rot m (m - 1) k)) r := by
  rw [← sumK_rev (fun k => g (m - r + k)) r]
  exact sumK_congr fun k hk => by rw [rot_eq hm (r := m - 1 - k) (q := 0) (by omega) (by omega), show m - r + (r - 1 - k) = m - 1 - k by omega]
end
/-! ### cycles -/
theorem bezout (a b : Nat) : ∃ x y : Int, (a : Int) * x + b * y = (Nat.gcd a b : Nat) := by
  induction a, b using Nat.gcd.induction with
  | H0 b => exact ⟨0, 1, by simp⟩
  | H1 a b h ih =>
    obtain ⟨x, y, e⟩ := ih
    refine ⟨y - (b / a : Nat) * x, x, ?_⟩
    rw [Nat.gcd_rec, ← e]
    have z : ((b : Nat) : Int) = a * (b / a : Nat) + (b % a : Nat) := by
      have := Nat.div_add_mod b a
      rw [← Int.natCast_mul, ← Int.natCast_add, this]
    rw [Int.mul_sub]
    conv => lhs; rw [z]
    rw [Int.add_mul, Int.mul_assoc]
    omega
section
variable {m s : Nat} {f : Nat → Int}
theorem cyc_len (s m : Nat) : s * (m / Nat.gcd s m) = m * (s / Nat.gcd s m) := by
  obtain ⟨u, hu⟩ := Nat.gcd_dvd_left s m
  obtain ⟨v, hv⟩ := Nat.gcd_dvd_right s m
  by_cases h : Nat.gcd s m = 0
  · rw [h]
    simp
  · have h : 0 < Nat.gcd s m := Nat.pos_of_ne_zero h
    rw [Nat.div_eq_of_eq_mul_right h hv, Nat.div_eq_of_eq_mul_right h hu]
    have gen : ∀ g : Nat, s = g * u → m = g * v → s * v = m * u := fun g h1 h2 => by
      rw [h1, h2, Nat.mul_assoc, Nat.mul_assoc, Nat.mul_comm u v]
    exact gen _ hu hv
theorem cyc_lenI (s m : Nat) : (s : Int) * (m / Nat.gcd s m : Nat) = m * (s / Nat.gcd s m : Nat) := by
  rw [← Int.natCast_mul, cyc_len, Int.natCast_mul]
theorem cyc_pos (hm : 0 < m) : 0 < Nat.gcd s m ∧ 0 < m / Nat.gcd s m ∧ Nat.gcd s m ≤ m ∧ m / Nat.gcd s m ≤ m := by
  have h : 0 < Nat.gcd s m := Nat.gcd_pos_of_pos_right s hm
  exact ⟨h, Nat.div_pos (Nat.le_of_dvd hm (Nat.gcd_dvd_right s m)) h, Nat.le_of_dvd hm (Nat.gcd_dvd_right s m), Nat.div_le_self _ _⟩
/-- steps within a cycle are steps of classes -/
theorem cyc_rot (hm : 0 < m) (first at' k : Nat) : (first + s * rot (m / Nat.gcd s m) at' k) % m = rot m ((first + s * at') % m) (k * s) := by
  obtain ⟨_, hL, _, _⟩ := cyc_pos (s := s) hm
  refine (rot_eq hm (Nat.mod_lt _ hm) (q := ((first + s * rot (m / Nat.gcd s m) at' k : Nat) : Int) / m - ((first + s * at' : Nat) : Int) / m + (s / Nat.gcd s m : Nat) * (((at' : Int) - k) / (m / Nat.gcd s m : Nat))) ?_).symm
  have hl := cyc_len s m
  have e1 := rot_int hL at' k
  rw [div_mod] at e1
  have z : (s : Int) * rot (m / Nat.gcd s m) at' k = s * at' - s * k - m * ((s / Nat.gcd s m : Nat) * (((at' : Int) - k) / (m / Nat.gcd s m : Nat))) := by
    rw [e1, Int.mul_sub, Int.mul_sub, ← Int.mul_assoc (s : Int) ((m / Nat.gcd s m : Nat) : Int), cyc_lenI, Int.mul_assoc]
  rw [Int.natCast_emod, Int.natCast_emod, div_mod, div_mod, Int.mul_add, Int.mul_sub]
  simp only [Int.natCast_add, Int.natCast_mul]
  rw [z, Int.mul_comm (k : Int) s]
  omega
theorem cyc_all (hm : 0 < m) {c : Nat} (hc : c < m) : ∃ first at', first < Nat.gcd s m ∧ at' < m / Nat.gcd s m ∧ (first + s * at') % m = c := by
  obtain ⟨hg, hL, _, _⟩ := cyc_pos (s := s) hm
  obtain ⟨x, y, e⟩ := bezout s m
  have hl := cyc_len s m
  refine ⟨c % Nat.gcd s m, ((x * (c / Nat.gcd s m : Nat)) % (m / Nat.gcd s m : Nat)).toNat, Nat.mod_lt _ hg, ?_, ?_⟩
  · have a := Int.emod_lt_of_pos (x * (c / Nat.gcd s m : Nat)) (show (0 : Int) < (m / Nat.gcd s m : Nat) by omega)
    have b := Int.emod_nonneg (x * (c / Nat.gcd s m : Nat)) (show ((m / Nat.gcd s m : Nat) : Int) ≠ 0 by omega)
    omega
  · have b := Int.emod_nonneg (x * (c / Nat.gcd s m : Nat)) (show ((m / Nat.gcd s m : Nat) : Int) ≠ 0 by omega)
    have cd : ((c : Nat) : Int) = (Nat.gcd s m : Nat) * (c / Nat.gcd s m : Nat) + (c % Nat.gcd s m : Nat) := by
      have := Nat.div_add_mod c (Nat.gcd s m)
      rw [← Int.natCast_mul, ← Int.natCast_add, this]
    have key : (((c % Nat.gcd s m + s * ((x * (c / Nat.gcd s m : Nat)) % (m / Nat.gcd s m : Nat)).toNat : Nat) : Int)) % m = c := by
      rw [show ((c : Nat) : Int) = ((c : Nat) : Int) % m from (Int.emod_eq_of_lt (by omega) (by omega)).symm]
      refine emod_of (q := -(y * (c / Nat.gcd s m : Nat)) - (s / Nat.gcd s m : Nat) * (x * (c / Nat.gcd s m : Nat) / (m / Nat.gcd s m : Nat))) ?_
      rw [Int.natCast_add, Int.natCast_mul, Int.toNat_of_nonneg b, div_mod, Int.mul_sub, ← Int.mul_assoc (s : Int) x, ← Int.mul_assoc (s : Int) ((m / Nat.gcd s m : Nat) : Int), cyc_lenI]
      have e2 : (s : Int) * x = (Nat.gcd s m : Nat) - m * y := by omega
      rw [e2, Int.sub_mul, Int.mul_sub, Int.mul_neg]
      rw [Int.mul_assoc (m : Int), Int.mul_assoc (m : Int)]
      omega
    omega
end
/-! ### ticks by class -/
/-- the ticks of line n in class c, the first tick being o -/
def cf (n : Str) (m c : Nat) : List Str → Nat → Int
  | [], _ => 0
  | x :: l, o => (if x = n ∧ o % m = c then 1 else 0) + cf n m c l (o + 1)
section
variable {n : Str} {m c : Nat}
theorem cf_app : ∀ (l k : List Str) (o : Nat), cf n m c (l ++ k) o = cf n m c l o + cf n m c k (o + l.length)
  | [], k, o => by
    show cf n m c k o = 0 + cf n m c k (o + 0)
    rw [Nat.add_zero]
    omega
  | x :: l, k, o => by
    show _ + cf n m c (l ++ k) (o + 1) = (_ + cf n m c l (o + 1)) + cf n m c k (o + (l.length + 1))
    rw [cf_app l k (o + 1), show o + 1 + l.length = o + (l.length + 1) by omega]
    omega
theorem cf_mod : ∀ (l : List Str) {o o' : Nat}, o % m = o' % m → cf n m c l o = cf n m c l o'
  | [], _, _, _ => rfl
  | x :: l, o, o', h => by
    show (if x = n ∧ o % m = c then 1 else 0) + cf n m c l (o + 1) = (if x = n ∧ o' % m = c then 1 else 0) + cf n m c l (o' + 1)
    rw [h, cf_mod l (o := o + 1) (o' := o' + 1) (by rw [Nat.add_mod, h, ← Nat.add_mod])]
theorem cf_nn : ∀ (l : List Str) (o : Nat), 0 ≤ cf n m c l o ∧ cf n m c l o ≤ l.length
  | [], _ => ⟨Int.le_refl 0, Int.le_refl 0⟩
  | x :: l, o => by
    have h := cf_nn l (o + 1)
    show 0 ≤ (if x = n ∧ o % m = c then 1 else 0) + cf n m c l (o + 1) ∧ (if x = n ∧ o % m = c then 1 else 0) + cf n m c l (o + 1) ≤ ((l.length + 1 : Nat) : Int)
    split <;> omega
theorem cf_flat (l : List Str) (o : Nat) : ∀ r : Nat, cf n m c (List.replicate r l).flatten o = sumK (fun k => cf n m c l (o + k * l.length)) r
  | 0 => rfl
  | r + 1 => by
    rw [List.replicate_succ', List.flatten_append, cf_app, cf_flat l o r, flat_len]
    show _ + cf n m c (l ++ []) _ = sumK _ r + _
    rw [List.append_nil]
end
mutual
def It.cols (m : Nat) : It → (Nat → Int) → List (Str × (Nat → Int))
  | .line x t, f => [(x, repF m 1 t.toNat f)]
  | .loop r js, f => Its.cols m js (repF m (Its.w js).length r.toNat f)
def Its.cols (m : Nat) : List It → (Nat → Int) → List (Str × (Nat → Int))
  | [], _ => []
  | i :: is, f => It.cols m i f ++ Its.cols m is (mvF m (It.w i).length f)
end
def colS (n : Str) (c : Nat) : List (Str × (Nat → Int)) → Int
  | [] => 0
  | p :: ps => (if p.1 = n then p.2 c else 0) + colS n c ps
theorem colS_app {n : Str} {c : Nat} : ∀ ps qs : List (Str × (Nat → Int)), colS n c (ps ++ qs) = colS n c ps + colS n c qs
  | [], qs => by
    show colS n c qs = 0 + _
    omega
  | p :: ps, qs => by
    show _ + colS n c (ps ++ qs) = (_ + colS n c ps) + _
    rw [colS_app ps qs]
    omega
theorem cf_line {n x : Str} {m c : Nat} (hm : 0 < m) (hc : c < m) (f : Nat → Int) : ∀ t : Nat, sumK (fun a => f a * cf n m c (List.replicate t x) a) m = if x = n then repF m 1 t f c else 0
  | 0 => by
    have : sumK (fun a => f a * cf n m c (List.replicate 0 x) a) m = 0 := by
      rw [sumK_congr (h := fun _ => 0) fun a _ => by show f a * 0 = 0; omega, sumK_zero]
    rw [this]
    split <;> rfl
  | t + 1 => by
    have step : ∀ a, cf n m c (List.replicate (t + 1) x) a = cf n m c (List.replicate t x) a + (if x = n ∧ (a + t) % m = c then 1 else 0) := fun a => by
      rw [List.replicate_succ', cf_app, List.length_replicate]
      show _ + ((if x = n ∧ (a + t) % m = c then 1 else 0) + 0) = _
      omega
    rw [sumK_congr (h := fun a => f a * cf n m c (List.replicate t x) a + f a * (if x = n ∧ (a + t) % m = c then 1 else 0)) fun a _ => by rw [step a, Int.mul_add], sumK_plus, cf_line hm hc f t]
    by_cases e : x = n
    · rw [if_pos e, if_pos e]
      have z := reindex hm f (fun b => if b = c then 1 else 0) t
      rw [sumK_pick (m := m) (fun b => f (rot m b t)) hc] at z
      rw [sumK_congr (h := fun a => f a * (if (a + t) % m = c then 1 else 0)) fun a _ => by simp [e], ← z]
      show repF m 1 t f c + _ = repF m 1 t f c + f (rot m c (t * 1))
      rw [Nat.mul_one]
    · rw [if_neg e, if_neg e, sumK_congr (h := fun _ => 0) fun a _ => by rw [if_neg (by simp [e]), Int.mul_zero], sumK_zero]
      rfl
mutual
theorem It.cols_cf {n : Str} {m c : Nat} (hm : 0 < m) (hc : c < m) : ∀ (i : It) (f : Nat → Int), It.nn i → colS n c (It.cols m i f) = sumK (fun a => f a * cf n m c (It.w i) a) m
  | .line x t, f, _ => by
    rw [It.cols, It.w, cf_line hm hc]
    show (if x = n then repF m 1 t.toNat f c else 0) + 0 = _
    omega
  | .loop r js, f, h => by
    rw [It.nn] at h
    rw [It.cols, It.w, Its.cols_cf hm hc js _ h.2]
    rw [sumK_congr (h := fun b => sumK (fun k => f (rot m b (k * (Its.w js).length)) * cf n m c (Its.w js) b) r.toNat) fun b _ => by
      show sumK _ _ * _ = _
      rw [sumK_mulR], sumK_swap]
    rw [sumK_congr (h := fun k => sumK (fun a => f a * cf n m c (Its.w js) (a + k * (Its.w js).length)) m) fun k _ => by
      rw [reindex hm f (fun b => cf n m c (Its.w js) b) (k * (Its.w js).length)]
      exact sumK_congr fun a _ => by rw [cf_mod (Its.w js) (o := (a + k * (Its.w js).length) % m) (o' := a + k * (Its.w js).length) (Nat.mod_mod _ _)]]
    rw [sumK_swap]
    exact sumK_congr fun a _ => by rw [sumK_mul, cf_flat]
theorem Its.cols_cf {n : Str} {m c : Nat} (hm : 0 < m) (hc : c < m) : ∀ (is : List It) (f : Nat → Int), Its.nn is → colS n c (Its.cols m is f) = sumK (fun a => f a * cf n m c (Its.w is) a) m
  | [], f, _ => by
    rw [Its.cols, Its.w]
    show 0 = sumK (fun a => f a * 0) m
    rw [sumK_congr (h := fun _ => 0) fun a _ => Int.mul_zero _, sumK_zero]
  | i :: is, f, h => by
    rw [Its.nn] at h
    rw [Its.cols, Its.w, colS_app, It.cols_cf hm hc i f h.1, Its.cols_cf hm hc is _ h.2]
    rw [show sumK (fun a => mvF m (It.w i).length f a * cf n m c (Its.w is) a) m = sumK (fun a => f a * cf n m c (Its.w is) (a + (It.w i).length)) m from (reindex hm f (fun b => cf n m c (Its.w is) b) (It.w i).length).trans
      (sumK_congr fun a _ => by rw [cf_mod (Its.w is) (o := (a + (It.w i).length) % m) (o' := a + (It.w i).length) (Nat.mod_mod _ _)])]
    rw [← sumK_plus]
    exact sumK_congr fun a _ => by rw [cf_app, Int.mul_add]
end
/-- one start, at tick 0 -/
def one0 (a : Nat) : Int := if a = 0 then 1 else 0
theorem cols_one {n : Str} {m c : Nat} (hm : 0 < m) (hc : c < m) {is : List It} (h : Its.nn is) : colS n c (Its.cols m is one0) = cf n m c (Its.w is) 0 := by
  rw [Its.cols_cf hm hc is _ h, sumK_congr (g := fun a => one0 a * cf n m c (Its.w is) a) (h := fun b => cf n m c (Its.w is) b * (if b = 0 then 1 else 0)) fun b _ => Int.mul_comm _ _]
  exact sumK_pick (m := m) (fun b => cf n m c (Its.w is) b) hm
end Ev

/-! ## Lists of numbers by place -/
namespace Ev
open PySem PySem.Spec PyProof.Rows L2
theorem divp_by {i j : Int} {n : Nat} (hj : 0 < j) (h : i.natAbs < 2 ^ n) (hn : n ≤ 4000) : CDivP i j :=
  divp_ok hj (Nat.le_trans (PyProof.Rows.intBits_le h) (by omega))
def LI (m : Nat) (f : Nat → Int) : List V := (List.range m).map fun c => V.int (f c)
section
variable {m : Nat} {f g : Nat → Int}
theorem LI_len : (LI m f).length = m := by
  unfold LI
  rw [List.length_map, List.length_range]
theorem LI_get {c : Nat} (h : c < m) : (LI m f)[c]? = some (.int (f c)) := by
  unfold LI
  rw [List.getElem?_map, List.getElem?_range h]
  rfl
theorem LI_ints : LI m f = ((List.range m).map f).map V.int := by
  unfold LI
  rw [List.map_map]
  rfl
theorem LI_congr (e : ∀ c, c < m → f c = g c) : LI m f = LI m g := by
  unfold LI
  exact List.map_congr_left fun c hc => by rw [e c (List.mem_range.mp hc)]
theorem LI_succ : LI (m + 1) f = LI m f ++ [.int (f m)] := by
  unfold LI
  rw [List.range_succ, List.map_append]
  rfl
theorem LI_ext {xs : List V} (hl : xs.length = m) (h : ∀ c, c < m → xs[c]? = some (.int (f c))) : xs = LI m f := by
  apply List.ext_getElem?
  intro c
  by_cases hc : c < m
  · rw [h c hc, LI_get hc]
  · rw [List.getElem?_eq_none (by omega), List.getElem?_eq_none (by rw [LI_len]; omega)]
theorem range_sum (f : Nat → Int) : ∀ m : Nat, ((List.range m).map f).sum = sumK f m
  | 0 => rfl
  | m + 1 => by
    rw [List.range_succ, List.map_append, List.sum_append, range_sum f m]
    show _ + (f m + 0) = _ + _
    omega
theorem LI_at {c : Nat} (h : c < m) : atI (LI m f) (c : Nat) = some (.int (f c)) := atI_of (LI_get h)
/-- from the end -/
theorem LI_neg {c : Nat} (h0 : 0 < c) (h : c ≤ m) : atI (LI m f) (-(c : Int)) = some (.int (f (m - c))) := by
  have e : ixN (LI m f).length (-(c : Int)) = some (m - c) := by
    unfold ixN
    rw [LI_len, if_neg (by omega), if_pos (by omega)]
    congr 1
    omega
  unfold atI
  rw [e]
  exact LI_get (by omega)
theorem ixN_nat {n c : Nat} (h : c < n) : ixN n (c : Nat) = some c := by
  unfold ixN
  rw [if_pos (by omega), if_pos (by omega)]
  rfl
theorem cutV_from (xs : List V) (i : Nat) : cutV xs (some (i : Nat)) none = xs.drop i := by
  unfold cutV
  rw [HT.sIx_none, HT.sIx_nat]
  by_cases h : i ≤ xs.length
  · rw [Nat.min_eq_left h, List.take_of_length_le (by rw [List.length_drop]; exact Nat.le_refl _)]
  · rw [Nat.min_eq_right (by omega), List.drop_of_length_le (Nat.le_refl _), List.drop_of_length_le (by omega), List.take_nil]
theorem cutV_to (xs : List V) (i : Nat) : cutV xs none (some (i : Nat)) = xs.take i := by
  unfold cutV
  rw [HT.sIx_none, HT.sIx_nat, List.drop_zero, Nat.sub_zero]
  by_cases h : i ≤ xs.length
  · rw [Nat.min_eq_left h]
  · rw [Nat.min_eq_right (by omega), List.take_of_length_le (by omega), List.take_of_length_le (by omega)]
theorem LI_drop {r : Nat} (h : r ≤ m) : (LI m f).drop r = LI (m - r) fun k => f (r + k) := by
  refine LI_ext (by rw [List.length_drop, LI_len]) fun c hc => ?_
  rw [List.getElem?_drop, LI_get (by omega)]
/-- starts that are moved on -/
theorem LI_moved (hm : 0 < m) (s : Nat) {cut : Nat} (hc : (cut : Int) = (-(s : Int)) % m) : (LI m f).drop cut ++ (LI m f).take cut = LI m (mvF m s f) := by
  have c1 := Int.emod_lt_of_pos (-(s : Int)) (show (0 : Int) < m by omega)
  have z := div_mod (-(s : Int)) m
  refine LI_ext (by rw [List.length_append, List.length_drop, List.length_take, LI_len]; omega) fun c hcm => ?_
  unfold mvF
  by_cases h : c < m - cut
  · rw [List.getElem?_append_left (by rw [List.length_drop, LI_len]; exact h), List.getElem?_drop, LI_get (by omega), rot_eq hm (r := cut + c) (q := (-(s : Int)) / m) (by omega) (by omega)]
  · rw [List.getElem?_append_right (by rw [List.length_drop, LI_len]; omega), List.length_drop, LI_len, List.getElem?_take_of_lt (by omega), LI_get (by omega), rot_eq hm (r := c - (m - cut)) (q := (-(s : Int)) / m + 1) (by omega) ?_]
    rw [Int.mul_add, Int.mul_one]
    omega
end
theorem LI_set {m c : Nat} {f : Nat → Int} {v : Int} (h : c < m) : (LI m f).set c (.int v) = LI m fun x => if x = c then v else f x := by
  refine LI_ext (by rw [List.length_set, LI_len]) fun x hx => ?_
  by_cases e : x = c
  · subst e
    rw [List.getElem?_set_self (by rw [LI_len]; exact h), if_pos rfl]
  · rw [List.getElem?_set_ne (fun z => e z.symm), LI_get hx, if_neg e]
theorem LI_zero (m : Nat) : (List.replicate m [V.int 0]).flatten = LI m fun _ => 0 := by
  refine LI_ext ?_ fun c hc => ?_
  · induction m with
    | zero => rfl
    | succ m ih => rw [List.replicate_succ, List.flatten_cons, List.length_append, ih]; show 1 + m = m + 1; omega
  · have e : ∀ m : Nat, (List.replicate m [V.int 0]).flatten = List.replicate m (V.int 0) := fun m => by
      induction m with
      | zero => rfl
      | succ m ih => rw [List.replicate_succ, List.flatten_cons, ih]; rfl
    rw [e, List.getElem?_replicate, if_pos hc]
/-- one turned back, by a place that may be below 0 -/
theorem LI_back {m i r : Nat} {f : Nat → Int} (hi : i < m) (hr : r < m) : atI (LI m f) ((i : Int) - (r : Int)) = some (.int (f (rot m i r))) := by
  by_cases h : r ≤ i
  · rw [show (i : Int) - r = ((i - r : Nat) : Int) by omega, LI_at (by omega), rot_eq (by omega) (r := i - r) (q := 0) (by omega) (by omega)]
  · rw [show (i : Int) - r = -((r - i : Nat) : Int) by omega, LI_neg (by omega) (by omega), rot_eq (by omega) (r := m - (r - i)) (q := -1) (by omega) (by omega)]
theorem none_of {H H' : Hp} {p : Addr} (s : Same H H') (n : H' p = none) : H p = none := by
  cases e : H p with
  | none => rfl
  | some o =>
    rw [s _ _ e] at n
    cases n
/-- [elt for i in range(n)], the elements plain values -/
theorem g_lcR1 {H0 : Hp} {σ : L2.St} {te : TE} {ys : List V} {ta : TA} {n : Nat} {g : TG} {vs : List Nat} (hta : ∀ (H : Hp) (Q : List V → Hp → Prop), Same H0 H → Q [.int (n : Nat)] H → ta σ H Q) (hz : n ≤ 1000000) (hl : ys.length = n)
    (he : ∀ (j : Nat) (y : V), ys[j]? = some y → ∀ (H : Hp) (R : VK), Same H0 H → (∀ H', Same H H' → R y H') → g (.int (0 + j)) (wipe σ vs) H fun σ2 H2 => wipe σ2 vs = wipe σ vs ∧ te σ2 H2 R) :
    Gives H0 (tLc (iRng1 ta) g tYes te vs) (gLst (ys.map gEq)) σ := fun H Q s q => by
  refine hta H _ s ⟨(n : Nat), rfl, by omega, by omega, fun D nD => ?_⟩
  have y := sizeLine_eq
  rw [Int.toNat_natCast]
  refine lc_range (lo := 0) (n := n) (fun k H' => Same H H' ∧ H' D = some (.lst (ys.take k))) ⟨same_put nD, upd_same⟩ ?_ ?_
  · rintro k H' hk ⟨s', eD⟩
    have hk' : k < ys.length := by omega
    have hy := List.getElem?_eq_getElem hk'
    refine cast ?_ (he k ys[k] hy H' (fun y H4 => ∃ acc, H4 D = some (.lst acc) ∧ acc.length < sizeLine ∧ Same H (upd H4 D (.lst (acc ++ [y]))) ∧ upd H4 D (.lst (acc ++ [y])) D = some (.lst (ys.take (k + 1)))) (s.trans s') fun H4 s4 => ⟨_, s4 _ _ eD, ?_, ?_, ?_⟩)
    · rfl
    · rw [List.length_take]
      omega
    · intro b o e
      rw [upd_ne (ne_of_none e nD)]
      exact s4 _ _ (s' _ _ e)
    · rw [upd_same, List.take_add_one, hy]
      rfl
  · rintro H' ⟨s', eD⟩
    rw [← hl, List.take_length] at eD
    exact q H' _ s' ⟨D, ys, rfl, eD, allEq⟩
theorem s_asg {te : TE} {i : Nat} {rest : TS} {D : Ends} {σ : L2.St} {H : Hp} (h : te σ H fun u H' => rest D (σ.set i (some u)) H') : tSeq (tAsg te (gName i)) rest D σ H := h
theorem s_call {sp : Sp} {te : TE} {ta : TA} {i : Nat} {rest : TS} {D : Ends} {σ : L2.St} {H : Hp} (h : te σ H fun u H1 => ta σ H1 fun us H2 => sp (u :: us ++ []) H2 (fun v H' => rest D (σ.set i (some v)) H') E0) : tSeq (tAsg (tCall sp [] E0 (tCons te ta)) (gName i)) rest D σ H := h
/-- the same, the list being new -/
theorem lc_rng {σ : L2.St} {H : Hp} {Q : VK} {te : TE} {ys : List V} {ta : TA} {n : Nat} {g : TG} {vs : List Nat} (hta : ∀ (Q : List V → Hp → Prop), Q [.int (n : Nat)] H → ta σ H Q) (hz : n ≤ 1000000) (hl : ys.length = n)
    (he : ∀ (j : Nat) (y : V), ys[j]? = some y → ∀ (H' : Hp) (R : VK), Same H H' → (∀ H'', Same H' H'' → R y H'') → g (.int (0 + j)) (wipe σ vs) H' fun σ2 H2 => wipe σ2 vs = wipe σ vs ∧ te σ2 H2 R)
    (q : ∀ H' D, Same H H' → H D = none → H' D = some (.lst ys) → Q (.ref D) H') : tLc (iRng1 ta) g tYes te vs σ H Q := by
  refine hta _ ⟨(n : Nat), rfl, by omega, by omega, fun D nD => ?_⟩
  have y := sizeLine_eq
  rw [Int.toNat_natCast]
  refine lc_range (lo := 0) (n := n) (fun k H' => Same H H' ∧ H' D = some (.lst (ys.take k))) ⟨same_put nD, upd_same⟩ ?_ ?_
  · rintro k H' hk ⟨s', eD⟩
    have hk' : k < ys.length := by omega
    have hy := List.getElem?_eq_getElem hk'
    refine cast ?_ (he k ys[k] hy H' (fun y H4 => ∃ acc, H4 D = some (.lst acc) ∧ acc.length < sizeLine ∧ Same H (upd H4 D (.lst (acc ++ [y]))) ∧ upd H4 D (.lst (acc ++ [y])) D = some (.lst (ys.take (k + 1)))) s' fun H4 s4 => ⟨_, s4 _ _ eD, ?_, ?_, ?_⟩)
    · rfl
    · rw [List.length_take]
      omega
    · intro b o e
      rw [upd_ne (ne_of_none e nD)]
      exact s4 _ _ (s' _ _ e)
    · rw [upd_same, List.take_add_one, hy]
      rfl
  · rintro H' ⟨s', eD⟩
    rw [← hl, List.take_length] at eD
    exact q H' D s' nD eD
/-- [elt for x in a list], the elements plain values, the list new -/
theorem lc_lst {K : PySem.W.Frag} {σ : L2.St} {H : Hp} {Q : VK} {te ti : TE} {a : Addr} {xs ys : List V} {g : TG} {vs : List Nat} (hi : ∀ Q : VK, Q (.ref a) H → ti σ H Q) (hx : SqL K H a xs) (hz : xs.length ≤ 1000000) (hl : ys.length = xs.length)
    (he : ∀ (j : Nat) (x y : V), xs[j]? = some x → ys[j]? = some y → ∀ (H' : Hp) (R : VK), Same H H' → (∀ H'', Same H' H'' → R y H'') → g x (wipe σ vs) H' fun σ2 H2 => wipe σ2 vs = wipe σ vs ∧ te σ2 H2 R)
    (q : ∀ H' D, Same H H' → H D = none → H' D = some (.lst ys) → Q (.ref D) H') : tLc (iList K ti) g tYes te vs σ H Q := by
  refine hi _ ⟨a, rfl, ⟨xs, hx⟩, fun D nD => ?_⟩
  have y := sizeLine_eq
  refine lc_list (K := K) (a := a) (xs := xs) (fun k H' => Same H H' ∧ H' D = some (.lst (ys.take k))) ⟨same_put nD, upd_same⟩ (fun k H' _ ⟨s', _⟩ => s'.seq hx) ?_ ?_
  · rintro k x H' hk ⟨s', eD⟩
    have hk' : k < ys.length := by
      obtain ⟨h, _⟩ := List.getElem?_eq_some_iff.mp hk
      omega
    have hy := List.getElem?_eq_getElem hk'
    refine cast ?_ (he k x ys[k] hk hy H' (fun y H4 => ∃ acc, H4 D = some (.lst acc) ∧ acc.length < sizeLine ∧ Same H (upd H4 D (.lst (acc ++ [y]))) ∧ upd H4 D (.lst (acc ++ [y])) D = some (.lst (ys.take (k + 1)))) s' fun H4 s4 => ⟨_, s4 _ _ eD, ?_, ?_, ?_⟩)
    · rfl
    · rw [List.length_take]
      omega
    · intro b o e
      rw [upd_ne (ne_of_none e nD)]
      exact s4 _ _ (s' _ _ e)
    · rw [upd_same, List.take_add_one, hy]
      rfl
  · rintro H' ⟨s', eD⟩
    rw [← hl, List.take_length] at eD
    exact q H' D s' nD eD
/-! ### how great the numbers are -/
def Bd (R m : Nat) (f : Nat → Int) : Prop := ∀ c, c < m → (f c).natAbs < 2 ^ R
theorem sum_bd {h : Nat → Int} {R n B : Nat} (hb : ∀ k, k < n → (h k).natAbs < 2 ^ R) (hn : n < 2 ^ B) : (sumK h n).natAbs < 2 ^ (R + B) := by
  have a := sumK_le (M := (2 ^ R : Nat)) (h := h) (n := n) fun k hk => by
    have := hb k hk
    omega
  have b : n * 2 ^ R < 2 ^ B * 2 ^ R := Nat.mul_lt_mul_of_pos_right hn (Nat.pos_of_ne_zero (by simp))
  rw [← Int.natCast_mul] at a
  rw [Nat.add_comm, Nat.pow_add]
  omega
theorem bd_rep {R B m s t : Nat} {f : Nat → Int} (hm : 0 < m) (hf : Bd R m f) (ht : t < 2 ^ B) : Bd (R + B) m (repF m s t f) := fun _ _ => sum_bd (fun _ _ => hf _ (rot_lt hm _ _)) ht
theorem bd_mv {R m s : Nat} {f : Nat → Int} (hm : 0 < m) (hf : Bd R m f) : Bd R m (mvF m s f) := fun _ _ => hf _ (rot_lt hm _ _)
theorem Bd.up {R R' m : Nat} {f : Nat → Int} (hf : Bd R m f) (h : R ≤ R') : Bd R' m f := fun c hc => Nat.lt_of_lt_of_le (hf c hc) (Nat.pow_le_pow_right (by decide) h)
end Ev

/-! ## When rows of lines are even -/
namespace Ev
open PySem
theorem sumK_one {P : Prop} [Decidable P] {k : Nat} : ∀ {m : Nat}, sumK (fun c => if P ∧ k = c then 1 else 0) m = if P ∧ k < m then 1 else 0
  | 0 => by
    rw [if_neg (fun z => absurd z.2 (Nat.not_lt_zero k))]
    rfl
  | m + 1 => by
    show sumK _ m + (if P ∧ k = m then 1 else 0) = _
    rw [sumK_one (m := m)]
    by_cases h : P
    · by_cases h1 : k < m
      · rw [if_pos ⟨h, h1⟩, if_neg (fun z => by have := z.2; omega), if_pos ⟨h, by omega⟩]
        rfl
      · by_cases h2 : k = m
        · rw [if_neg (fun z => h1 z.2), if_pos ⟨h, h2⟩, if_pos ⟨h, by omega⟩]
          rfl
        · rw [if_neg (fun z => h1 z.2), if_neg (fun z => h2 z.2), if_neg (fun z => by have := z.2; omega)]
          rfl
    · rw [if_neg (fun z => h z.1), if_neg (fun z => h z.1), if_neg (fun z => h z.1)]
      rfl
theorem cf_sum {n : Str} {m : Nat} (hm : 0 < m) : ∀ (l : List Str) (o : Nat), sumK (fun c => cf n m c l o) m = (l.count n : Nat)
  | [], _ => by
    show sumK (fun _ => 0) m = _
    rw [sumK_zero]
    rfl
  | x :: l, o => by
    show sumK (fun c => (if x = n ∧ o % m = c then 1 else 0) + cf n m c l (o + 1)) m = _
    rw [sumK_plus, sumK_one, cf_sum hm l (o + 1), List.count_cons]
    have := Nat.mod_lt o hm
    by_cases h : x = n
    · rw [if_pos ⟨h, this⟩, if_pos (beq_iff_eq.mpr h)]
      omega
    · rw [if_neg (fun z => h z.1), if_neg (fun z => h (beq_iff_eq.mp z))]
      omega
theorem sumK_const (k : Int) : ∀ m : Nat, sumK (fun _ => k) m = m * k
  | 0 => by
    show (0 : Int) = 0 * k
    omega
  | m + 1 => by
    show sumK _ m + k = _
    rw [sumK_const k m, Int.natCast_add, Int.add_mul]
    omega
/-- equal classes: the modulus divides how many there are -/
theorem even_dvd {n : Str} {m : Nat} (hm : 0 < m) {l : List Str} {o : Nat} (h : ∀ c, c < m → cf n m c l o = cf n m 0 l o) : m ∣ l.count n := by
  have z := cf_sum (n := n) hm l o
  rw [sumK_congr (h := fun _ => cf n m 0 l o) (fun c hc => h c hc), sumK_const] at z
  have h0 := (cf_nn (n := n) (m := m) (c := 0) l o).1
  refine ⟨(cf n m 0 l o).toNat, ?_⟩
  have e : ((m * (cf n m 0 l o).toNat : Nat) : Int) = (l.count n : Nat) := by
    rw [Int.natCast_mul, Int.toNat_of_nonneg h0, z]
  omega
theorem cf_short {n x : Str} {m c : Nat} : ∀ k : Nat, k ≤ m → cf n m c (List.replicate k x) 0 = if x = n ∧ c < k then 1 else 0
  | 0, _ => by
    rw [if_neg (fun z => absurd z.2 (Nat.not_lt_zero c))]
    rfl
  | k + 1, h => by
    rw [List.replicate_succ', cf_app, cf_short k (by omega), List.length_replicate]
    show _ + ((if x = n ∧ (0 + k) % m = c then 1 else 0) + 0) = _
    rw [Nat.zero_add, Nat.mod_eq_of_lt (by omega)]
    by_cases h1 : x = n
    · by_cases h2 : c < k
      · rw [if_pos ⟨h1, h2⟩, if_neg (fun z => by have := z.2; omega), if_pos ⟨h1, by omega⟩]
        rfl
      · by_cases h3 : k = c
        · rw [if_neg (fun z => h2 z.2), if_pos ⟨h1, h3⟩, if_pos ⟨h1, by omega⟩]
          rfl
        · rw [if_neg (fun z => h2 z.2), if_neg (fun z => h3 z.2), if_neg (fun z => by have := z.2; omega)]
          rfl
    · rw [if_neg (fun z => h1 z.1), if_neg (fun z => h1 z.1), if_neg (fun z => h1 z.1)]
      rfl
/-- one tick later -/
theorem cf_next {n x : Str} {m c f : Nat} (o : Nat) : cf n m c (List.replicate f x) (o + 1) = cf n m c (List.replicate f x) o - (if x = n ∧ o % m = c then 1 else 0) + (if x = n ∧ (o + f) % m = c then 1 else 0) := by
  have e1 : cf n m c (List.replicate (f + 1) x) o = (if x = n ∧ o % m = c then 1 else 0) + cf n m c (List.replicate f x) (o + 1) := rfl
  have e2 : cf n m c (List.replicate (f + 1) x) o = cf n m c (List.replicate f x) o + ((if x = n ∧ (o + f) % m = c then 1 else 0) + 0) := by
    rw [List.replicate_succ', cf_app, List.length_replicate]
    rfl
  omega
theorem cf_per {n x : Str} {m c : Nat} (hc : c < m) : ∀ o : Nat, cf n m c (List.replicate m x) o = if x = n then 1 else 0
  | 0 => by
    rw [cf_short m (Nat.le_refl m)]
    by_cases h : x = n
    · rw [if_pos ⟨h, hc⟩, if_pos h]
    · rw [if_neg (fun z => h z.1), if_neg h]
  | o + 1 => by
    rw [cf_next, cf_per hc o, Nat.add_mod_right]
    omega
theorem cf_mult {n x : Str} {m c : Nat} (hc : c < m) : ∀ (k o : Nat), cf n m c (List.replicate (m * k) x) o = if x = n then (k : Int) else 0
  | 0, o => by
    rw [Nat.mul_zero]
    show (0 : Int) = _
    split <;> rfl
  | k + 1, o => by
    rw [Nat.mul_succ, ← List.replicate_append_replicate, cf_app, cf_mult hc k o, cf_per hc]
    split <;> omega
/-! ### coarser classes -/
theorem cf_coarse {n : Str} {m d r : Nat} (hm : 0 < m) (hd : d ∣ m) : ∀ (l : List Str) (o : Nat), cf n d r l o = sumK (fun c => if c % d = r then cf n m c l o else 0) m
  | [], o => by
    rw [sumK_congr (h := fun _ => 0) (fun c _ => by show (if c % d = r then (0 : Int) else 0) = 0; split <;> rfl), sumK_zero]
    rfl
  | x :: l, o => by
    show (if x = n ∧ o % d = r then 1 else 0) + cf n d r l (o + 1) = _
    rw [cf_coarse hm hd l (o + 1)]
    have e : ∀ c, c < m → (if c % d = r then cf n m c (x :: l) o else 0) = (if (x = n ∧ o % d = r) ∧ o % m = c then 1 else 0) + (if c % d = r then cf n m c l (o + 1) else 0) := fun c _ => by
      show (if c % d = r then (if x = n ∧ o % m = c then 1 else 0) + cf n m c l (o + 1) else 0) = _
      have hmd : o % m % d = o % d := Nat.mod_mod_of_dvd o hd
      by_cases h1 : c % d = r
      · rw [if_pos h1, if_pos h1]
        congr 1
        by_cases h2 : x = n ∧ o % m = c
        · rw [if_pos h2, if_pos ⟨⟨h2.1, by rw [← hmd, h2.2]; exact h1⟩, h2.2⟩]
        · rw [if_neg h2, if_neg (fun z => h2 ⟨z.1.1, z.2⟩)]
      · rw [if_neg h1, if_neg h1, if_neg (fun z => h1 (by rw [← z.2, hmd]; exact z.1.2))]
        rfl
    rw [sumK_congr e, sumK_plus, sumK_one]
    have := Nat.mod_lt o hm
    by_cases h : x = n ∧ o % d = r
    · rw [if_pos h, if_pos ⟨h, this⟩]
    · rw [if_neg h, if_neg (fun z => h z.1)]
/-- equal classes are equal in coarser ones -/
theorem even_coarse {n : Str} {m d : Nat} (hm : 0 < m) (hd : d ∣ m) {l : List Str} {o : Nat} (h : ∀ c, c < m → cf n m c l o = cf n m 0 l o) {r : Nat} (hr : r < d) : cf n d r l o = cf n d 0 l o := by
  have d0 : 0 < d := by omega
  have key : ∀ r, r < d → cf n d r l o = cf n m 0 l o * ((m / d : Nat) : Int) := fun r hr => by
    rw [cf_coarse hm hd, sumK_congr (h := fun c => cf n m 0 l o * (if c % d = r then 1 else 0)) (fun c hc => by rw [h c hc]; split <;> omega), sumK_mul]
    congr 1
    have z : ∀ k, sumK (fun c => if c % d = r then 1 else 0) k = cf n d r (List.replicate k n) 0 := fun k => by
      induction k with
      | zero => rfl
      | succ k ih =>
        rw [List.replicate_succ', cf_app, List.length_replicate]
        show sumK _ k + (if k % d = r then 1 else 0) = _ + ((if n = n ∧ (0 + k) % d = r then 1 else 0) + 0)
        rw [ih, Nat.zero_add]
        by_cases h1 : k % d = r
        · rw [if_pos h1, if_pos ⟨rfl, h1⟩]
          omega
        · rw [if_neg h1, if_neg (fun z => h1 z.2)]
          omega
    rw [z m, show m = d * (m / d) from (Nat.mul_div_cancel' hd).symm, cf_mult hr, if_pos rfl]
    rw [Nat.mul_div_cancel_left _ d0]
  rw [key r hr, key 0 d0]
/-! ### periods -/
theorem per_gcd {N : Nat → Int} : ∀ (a b : Nat), (∀ o, N (o + a) = N o) → (∀ o, N (o + b) = N o) → ∀ o, N (o + Nat.gcd a b) = N o := by
  intro a b
  induction a, b using Nat.gcd.induction with
  | H0 b =>
    intro _ hb o
    rw [Nat.gcd_zero_left]
    exact hb o
  | H1 a b ha ih =>
    intro h1 h2 o
    rw [Nat.gcd_rec]
    refine ih (fun o => ?_) h1 o
    have mul : ∀ k o, N (o + a * k) = N o := fun k => by
      induction k with
      | zero =>
        intro o
        rw [Nat.mul_zero, Nat.add_zero]
      | succ k ihk =>
        intro o
        rw [Nat.mul_succ, ← Nat.add_assoc, h1, ihk]
    have e : o + b % a + a * (b / a) = o + b := by
      have := Nat.div_add_mod b a
      omega
    rw [← mul (b / a) (o + b % a), e, h2]
theorem per_mul {N : Nat → Int} {a : Nat} (h : ∀ o, N (o + a) = N o) : ∀ k o, N (o + a * k) = N o
  | 0, o => by rw [Nat.mul_zero, Nat.add_zero]
  | k + 1, o => by rw [Nat.mul_succ, ← Nat.add_assoc, h, per_mul h k o]
/-- intervals of f ticks, every L ticks, R of them, are even if gcd(m, L) divides f and m divides L * R -/
theorem loop_even {x : Str} {m L R f : Nat} (hm : 0 < m) (hLR : m ∣ L * R) (hf : Nat.gcd m L ∣ f) (o0 : Nat) {c : Nat} (hc : c < m) :
    sumK (fun k => cf x m c (List.replicate f x) (o0 + k * L)) R = sumK (fun k => cf x m 0 (List.replicate f x) (o0 + k * L)) R := by
  have step : ∀ c, c + 1 < m → sumK (fun k => cf x m (c + 1) (List.replicate f x) (o0 + k * L)) R = sumK (fun k => cf x m c (List.replicate f x) (o0 + k * L)) R := fun c hc => by
    let N : Nat → Int := fun o => sumK (fun k => if (o + k * L) % m = c + 1 then 1 else 0) R
    have pm : ∀ o, N (o + m) = N o := fun o => sumK_congr fun k _ => by
      rw [show o + m + k * L = o + k * L + m by omega, Nat.add_mod_right]
    have pL : ∀ o, N (o + L) = N o := fun o => by
      show sumK (fun k => if (o + L + k * L) % m = c + 1 then 1 else 0) R = sumK (fun k => if (o + k * L) % m = c + 1 then 1 else 0) R
      have e1 := sumK_left (fun k => if (o + k * L) % m = c + 1 then (1 : Int) else 0) R
      have e2 : sumK (fun k => if (o + k * L) % m = c + 1 then (1 : Int) else 0) (R + 1) = sumK (fun k => if (o + k * L) % m = c + 1 then 1 else 0) R + (if (o + R * L) % m = c + 1 then 1 else 0) := rfl
      have e3 : (o + R * L) % m = (o + 0 * L) % m := by
        obtain ⟨q, hq⟩ := hLR
        rw [Nat.mul_comm R L, hq, Nat.add_mul_mod_self_left, Nat.zero_mul, Nat.add_zero]
      rw [e3] at e2
      have e4 : sumK (fun k => if (o + (k + 1) * L) % m = c + 1 then (1 : Int) else 0) R = sumK (fun k => if (o + L + k * L) % m = c + 1 then 1 else 0) R := sumK_congr fun k _ => by
        rw [show o + (k + 1) * L = o + L + k * L by rw [Nat.add_mul, Nat.one_mul]; omega]
      omega
    have pd := per_gcd m L pm pL
    obtain ⟨q, hq⟩ := hf
    have pf : N (o0 + f) = N o0 := by
      rw [hq]
      exact per_mul pd q o0
    have cls : ∀ (l : List Str) (o : Nat), cf x m (c + 1) l (o + 1) = cf x m c l o := fun l => by
      induction l with
      | nil => intro o; rfl
      | cons y l ih =>
        intro o
        show (if y = x ∧ (o + 1) % m = c + 1 then 1 else 0) + cf x m (c + 1) l (o + 1 + 1) = (if y = x ∧ o % m = c then 1 else 0) + cf x m c l (o + 1)
        rw [ih (o + 1)]
        congr 1
        have hiff : (o + 1) % m = c + 1 ↔ o % m = c := by
          have h1 := Nat.div_add_mod o m
          have h2 := Nat.mod_lt o hm
          by_cases h3 : o % m + 1 = m
          · have e : (o + 1) % m = 0 := by
              rw [show o + 1 = m * (o / m + 1) by rw [Nat.mul_add, Nat.mul_one]; omega, Nat.mul_mod_right]
            omega
          · have e : (o + 1) % m = o % m + 1 := by
              rw [Nat.add_mod, Nat.mod_eq_of_lt (show 1 < m by omega), Nat.mod_eq_of_lt (by omega)]
            omega
        by_cases h : y = x
        · by_cases h4 : o % m = c
          · rw [if_pos ⟨h, hiff.mpr h4⟩, if_pos ⟨h, h4⟩]
          · rw [if_neg (fun z => h4 (hiff.mp z.2)), if_neg (fun z => h4 z.2)]
        · rw [if_neg (fun z => h z.1), if_neg (fun z => h z.1)]
    have e5 : sumK (fun k => cf x m c (List.replicate f x) (o0 + k * L)) R = sumK (fun k => cf x m (c + 1) (List.replicate f x) (o0 + k * L) + ((if (o0 + f + k * L) % m = c + 1 then 1 else 0) + (-1) * (if (o0 + k * L) % m = c + 1 then 1 else 0))) R := sumK_congr fun k _ => by
      rw [← cls, cf_next, show o0 + k * L + f = o0 + f + k * L by omega]
      have a1 : (if x = x ∧ (o0 + k * L) % m = c + 1 then (1 : Int) else 0) = if (o0 + k * L) % m = c + 1 then 1 else 0 := by
        by_cases h : (o0 + k * L) % m = c + 1
        · rw [if_pos h, if_pos ⟨rfl, h⟩]
        · rw [if_neg h, if_neg (fun z => h z.2)]
      have a2 : (if x = x ∧ (o0 + f + k * L) % m = c + 1 then (1 : Int) else 0) = if (o0 + f + k * L) % m = c + 1 then 1 else 0 := by
        by_cases h : (o0 + f + k * L) % m = c + 1
        · rw [if_pos h, if_pos ⟨rfl, h⟩]
        · rw [if_neg h, if_neg (fun z => h z.2)]
      rw [a1, a2]
      omega
    rw [e5, sumK_plus, sumK_plus, sumK_mul]
    have : N (o0 + f) = N o0 := pf
    show _ = _ + (N (o0 + f) + (-1) * N o0)
    omega
  induction c with
  | zero => rfl
  | succ c ih => rw [step c hc, ih (by omega)]
theorem cf_none {n : Str} {m c : Nat} : ∀ (l : List Str) (o : Nat), n ∉ l → cf n m c l o = 0
  | [], _, _ => rfl
  | x :: l, o, h => by
    have h1 : x ≠ n := fun e => h (e ▸ List.mem_cons_self ..)
    have h2 : n ∉ l := fun e => h (List.mem_cons_of_mem _ e)
    show (if x = n ∧ o % m = c then 1 else 0) + cf n m c l (o + 1) = 0
    rw [if_neg (fun z => h1 z.1), cf_none l (o + 1) h2]
    rfl
end Ev

/-! ## Going round by steps of p -/
namespace Ev
open PySem
theorem orb_back {L p : Nat} (hL : 0 < L) : L ∣ L / Nat.gcd p L * p := by
  have hg := Nat.gcd_pos_of_pos_right p hL
  obtain ⟨a, ha⟩ := Nat.gcd_dvd_left p L
  obtain ⟨b, hb⟩ := Nat.gcd_dvd_right p L
  generalize Nat.gcd p L = g at *
  refine ⟨a, ?_⟩
  rw [hb, Nat.mul_div_cancel_left _ hg, ha, Nat.mul_comm g a, ← Nat.mul_assoc, Nat.mul_comm (g * b) a, Nat.mul_comm b a, Nat.mul_assoc, Nat.mul_comm b g]
theorem orb_ne {L p k : Nat} (hL : 0 < L) (h0 : 0 < k) (hk : k < L / Nat.gcd p L) : ¬ L ∣ k * p := by
  intro h
  have hg := Nat.gcd_pos_of_pos_right p hL
  have cop := Nat.coprime_div_gcd_div_gcd (m := p) (n := L) hg
  have e1 : Nat.gcd p L * (L / Nat.gcd p L) = L := Nat.mul_div_cancel' (Nat.gcd_dvd_right p L)
  have e2 : Nat.gcd p L * (p / Nat.gcd p L) = p := Nat.mul_div_cancel' (Nat.gcd_dvd_left p L)
  have h2 : Nat.gcd p L * (L / Nat.gcd p L) ∣ Nat.gcd p L * (k * (p / Nat.gcd p L)) := by
    rw [e1, ← Nat.mul_assoc, Nat.mul_comm _ k, Nat.mul_assoc, e2]
    exact h
  have h3 := Nat.dvd_of_mul_dvd_mul_left hg h2
  have h4 := Nat.Coprime.dvd_of_dvd_mul_right (Nat.Coprime.symm cop) h3
  have := Nat.le_of_dvd h0 h4
  omega
theorem orb_count {L p s i : Nat} (hL : 0 < L) (hi : i < L) : sumK (fun k => if (s + k * p) % L = i then 1 else 0) (L / Nat.gcd p L) = if i % Nat.gcd p L = s % Nat.gcd p L then 1 else 0 := by
  have hg := Nat.gcd_pos_of_pos_right p hL
  by_cases h : i % Nat.gcd p L = s % Nat.gcd p L
  · rw [if_pos h]
    let N : Nat → Int := fun o => sumK (fun k => if (o + k * p) % L = i then 1 else 0) (L / Nat.gcd p L)
    have pL : ∀ o, N (o + L) = N o := fun o => sumK_congr fun k _ => by
      rw [show o + L + k * p = o + k * p + L by omega, Nat.add_mod_right]
    have pp : ∀ o, N (o + p) = N o := fun o => by
      show sumK (fun k => if (o + p + k * p) % L = i then 1 else 0) (L / Nat.gcd p L) = sumK (fun k => if (o + k * p) % L = i then 1 else 0) (L / Nat.gcd p L)
      have e1 := sumK_left (fun k => if (o + k * p) % L = i then (1 : Int) else 0) (L / Nat.gcd p L)
      have e2 : sumK (fun k => if (o + k * p) % L = i then (1 : Int) else 0) (L / Nat.gcd p L + 1) = sumK (fun k => if (o + k * p) % L = i then 1 else 0) (L / Nat.gcd p L) + (if (o + L / Nat.gcd p L * p) % L = i then 1 else 0) := rfl
      have e3 : (o + L / Nat.gcd p L * p) % L = (o + 0 * p) % L := by
        obtain ⟨q, hq⟩ := orb_back (p := p) hL
        rw [hq, Nat.add_mul_mod_self_left, Nat.zero_mul, Nat.add_zero]
      rw [e3] at e2
      have e4 : sumK (fun k => if (o + (k + 1) * p) % L = i then (1 : Int) else 0) (L / Nat.gcd p L) = sumK (fun k => if (o + p + k * p) % L = i then 1 else 0) (L / Nat.gcd p L) := sumK_congr fun k _ => by
        rw [show o + (k + 1) * p = o + p + k * p by rw [Nat.add_mul, Nat.one_mul]; omega]
      omega
    have pg := per_gcd p L pp pL
    have e1 : N s = N (s % Nat.gcd p L) := by
      have z := per_mul pg (s / Nat.gcd p L) (s % Nat.gcd p L)
      rw [Nat.mod_add_div] at z
      exact z
    have e2 : N i = N (i % Nat.gcd p L) := by
      have z := per_mul pg (i / Nat.gcd p L) (i % Nat.gcd p L)
      rw [Nat.mod_add_div] at z
      exact z
    show N s = 1
    rw [e1, ← h, ← e2]
    have hn : 0 < L / Nat.gcd p L := Nat.div_pos (Nat.gcd_le_right _ hL) hg
    obtain ⟨n, hn'⟩ : ∃ n, L / Nat.gcd p L = n + 1 := ⟨L / Nat.gcd p L - 1, by omega⟩
    show sumK (fun k => if (i + k * p) % L = i then 1 else 0) (L / Nat.gcd p L) = 1
    rw [hn', sumK_left, Nat.zero_mul, Nat.add_zero, Nat.mod_eq_of_lt hi, if_pos rfl, sumK_congr (h := fun _ => 0) (fun k hk => if_neg fun z => ?_), sumK_zero]
    · rfl
    · refine orb_ne (p := p) (k := k + 1) hL (by omega) (by omega) ?_
      have z2 := Nat.div_add_mod (i + (k + 1) * p) L
      rw [z] at z2
      exact ⟨(i + (k + 1) * p) / L, by omega⟩
  · rw [if_neg h, sumK_congr (h := fun _ => 0) (fun k _ => if_neg fun z => h ?_), sumK_zero]
    obtain ⟨q, hq⟩ := Nat.gcd_dvd_left p L
    have e : (s + k * p) % L % Nat.gcd p L = s % Nat.gcd p L := by
      rw [Nat.mod_mod_of_dvd _ (Nat.gcd_dvd_right p L)]
      have : Nat.gcd p L ∣ k * p := Nat.dvd_trans (Nat.gcd_dvd_left p L) (Nat.dvd_mul_left _ _)
      obtain ⟨u, hu⟩ := this
      rw [hu, Nat.add_mul_mod_self_left]
    rw [← e, z]
theorem cf_idx {n : Str} {m c : Nat} (w : List Str) : ∀ k, k ≤ w.length → cf n m c (w.take k) 0 = sumK (fun i => if w[i]? = some n ∧ i % m = c then 1 else 0) k
  | 0, _ => by
    rw [List.take_zero]
    rfl
  | k + 1, h => by
    have e := List.getElem?_eq_getElem (show k < w.length by omega)
    rw [List.take_add_one, e, cf_app, cf_idx w k (by omega), List.length_take, Nat.min_eq_left (by omega)]
    show _ + ((if w[k] = n ∧ (0 + k) % m = c then 1 else 0) + 0) = _ + (if w[k]? = some n ∧ k % m = c then 1 else 0)
    rw [Nat.zero_add, e]
    by_cases h1 : w[k] = n ∧ k % m = c
    · rw [if_pos h1, if_pos ⟨by rw [h1.1], h1.2⟩]
      omega
    · rw [if_neg h1, if_neg (fun z => h1 ⟨Option.some.inj z.1, z.2⟩)]
      omega
/-- the looks from s on, by steps of p, till they come back, see the class of s -/
theorem seen_count {n : Str} {w : List Str} {p s : Nat} (hL : 0 < w.length) : sumK (fun k => if w[(s + k * p) % w.length]? = some n then 1 else 0) (w.length / Nat.gcd p w.length) = cf n (Nat.gcd p w.length) (s % Nat.gcd p w.length) w 0 := by
  have e0 := cf_idx (n := n) (m := Nat.gcd p w.length) (c := s % Nat.gcd p w.length) w w.length (Nat.le_refl _)
  rw [List.take_length] at e0
  rw [e0, sumK_congr (h := fun k => sumK (fun i => if w[i]? = some n ∧ (s + k * p) % w.length = i then 1 else 0) w.length) fun k _ => ?_, sumK_swap]
  · refine sumK_congr fun i hi => ?_
    have oc := orb_count (p := p) (s := s) hL hi
    by_cases h : w[i]? = some n
    · rw [sumK_congr (h := fun k => if (s + k * p) % w.length = i then 1 else 0) fun k _ => ?_, oc]
      · by_cases h2 : i % Nat.gcd p w.length = s % Nat.gcd p w.length
        · rw [if_pos h2, if_pos ⟨h, h2⟩]
        · rw [if_neg h2, if_neg (fun z => h2 z.2)]
      · by_cases h3 : (s + k * p) % w.length = i
        · rw [if_pos h3, if_pos ⟨h, h3⟩]
        · rw [if_neg h3, if_neg (fun z => h3 z.2)]
    · rw [if_neg (fun z => h z.1), sumK_congr (h := fun _ => 0) fun k _ => if_neg (fun z => h z.1), sumK_zero]
  · have hlt := Nat.mod_lt (s + k * p) hL
    have e : ∀ i, i < w.length → (if w[i]? = some n ∧ (s + k * p) % w.length = i then (1 : Int) else 0) = if w[(s + k * p) % w.length]? = some n ∧ (s + k * p) % w.length = i then 1 else 0 := fun i _ => by
      by_cases h : (s + k * p) % w.length = i
      · rw [h]
      · rw [if_neg (fun z => h z.2), if_neg (fun z => h z.2)]
    rw [sumK_congr e, sumK_one]
    by_cases h : w[(s + k * p) % w.length]? = some n
    · rw [if_pos h, if_pos ⟨h, hlt⟩]
    · rw [if_neg h, if_neg (fun z => h z.1)]
end Ev

/-! ## Branches that join -/
namespace Ev
open PySem PySem.Spec PyProof.Rows L2
theorem s_join {a rest : TS} {D : Ends} {σ : L2.St} {H : Hp} (J : L2.St → Hp → Prop) (k : ∀ σ H, J σ H → rest D σ H) (h : (∀ σ H, J σ H → rest D σ H) → a { D with nx := rest D } σ H) : tSeq a rest D σ H := h k
theorem back_none {H H' : Hp} {r : Addr} (s : Same H H') (h : H' r = none) : H r = none := by
  cases e : H r with
  | none => rfl
  | some o =>
    rw [s _ _ e] at h
    cases h
theorem bool_fits (c : Bool) : (PyData.bool c).showable = true ∧ (PyData.bool c).depth ≤ 64 ∧ (PyData.bool c).shown.length ≤ sizeLine := by
  rw [sizeLine_eq]
  cases c <;> exact ⟨by decide +kernel, by decide +kernel, by decide +kernel⟩
theorem rg_nat {a b : Nat} {v : V} (h : v ∈ rgV ((a : Nat) : Int) ((b : Nat) : Int)) : ∃ k : Nat, v = .int (k : Nat) ∧ a ≤ k ∧ k < b := by
  unfold rgV at h
  obtain ⟨i, hi, rfl⟩ := List.mem_map.mp h
  have hi := List.mem_range.mp hi
  exact ⟨a + i, by rw [Int.natCast_add], by omega, by omega⟩
/-- how long the text of a program is -/
theorem prog_szA {B n : Nat} {is : List It} (h : ∀ i ∈ is, Okp B n i) (hm : Its.nm is) (hn : Its.ni is ≤ 96) (h6 : n ≤ 6) :
    (PyData.tuple (is.map It.d)).showable = true ∧ (PyData.tuple (is.map It.d)).depth ≤ 64 ∧ (PyData.tuple (is.map It.d)).shown.length ≤ sizeLine := by
  obtain ⟨h1, h2, h3, h4⟩ := Its.szd n B is h hm
  refine Sz.fits (e := 64) (w := 16000) ⟨by rw [PyData.showable]; exact h1, by rw [PyData.leavesShort]; exact h2, ?_, ?_⟩ (by decide) (by decide)
  · rw [PyData.depth]
    omega
  · rw [PyData.weight]
    omega
end Ev

/-! ## List comprehensions with a test, the elements plain values -/
namespace Ev
open PySem PySem.Spec PyProof.Rows L2
/-- what a turn does -/
def Turn (H : Hp) (σ : L2.St) (g : TG) (tt : TT) (te : TE) (vs : List Nat) (f : V → Bool) (e : V → V) (x : V) : Prop := ∀ (H' : Hp) (N : Hp → Prop) (R : VK), Same H H' → (f x = false → ∀ H'', Same H' H'' → N H'') → (f x = true → ∀ H'', Same H' H'' → R (e x) H'') →
  g x (wipe σ vs) H' fun σ2 H2 => wipe σ2 vs = wipe σ vs ∧ tt σ2 H2 fun b H3 => if b = true then te σ2 H3 R else N H3
theorem filt_step {f : V → Bool} {e : V → V} {xs : List V} {k : Nat} {x : V} (h : xs[k]? = some x) : ((xs.take (k + 1)).filter f).map e = ((xs.take k).filter f).map e ++ (if f x = true then [e x] else []) := by
  rw [List.take_add_one, h, List.filter_append, List.map_append]
  congr 1
  show (([x] : List V).filter f).map e = _
  by_cases hf : f x = true
  · rw [if_pos hf, List.filter_cons_of_pos hf]
    rfl
  · rw [if_neg hf, List.filter_cons_of_neg hf]
    rfl
theorem turn_inv {H H' : Hp} {σ : L2.St} {g : TG} {tt : TT} {te : TE} {vs : List Nat} {f : V → Bool} {e : V → V} {xs : List V} {k : Nat} {x : V} {D : Addr} (nD : H D = none) (hz : xs.length ≤ 1000000) (hx : xs[k]? = some x) (ht : Turn H σ g tt te vs f e x) (s' : Same H H') (eD : H' D = some (.lst (((xs.take k).filter f).map e))) :
    g x (wipe σ vs) H' fun σ2 H2 => wipe σ2 vs = wipe σ vs ∧ tt σ2 H2 fun b H3 => if b = true then te σ2 H3 (fun y H4 => ∃ acc, H4 D = some (.lst acc) ∧ acc.length < sizeLine ∧ Same H (upd H4 D (.lst (acc ++ [y]))) ∧ upd H4 D (.lst (acc ++ [y])) D = some (.lst (((xs.take (k + 1)).filter f).map e))) else Same H H3 ∧ H3 D = some (.lst (((xs.take (k + 1)).filter f).map e)) := by
  have y := sizeLine_eq
  refine ht H' (fun H3 => Same H H3 ∧ H3 D = some (.lst (((xs.take (k + 1)).filter f).map e))) _ s' (fun hf H3 s3 => ⟨s'.trans s3, ?_⟩) (fun hf H4 s4 => ⟨_, s4 _ _ eD, ?_, ?_, ?_⟩)
  · rw [filt_step hx, if_neg (by rw [hf]; exact Bool.false_ne_true), List.append_nil]
    exact s3 _ _ eD
  · rw [List.length_map]
    have z := List.length_filter_le f (xs.take k)
    rw [List.length_take] at z
    omega
  · intro b o h
    rw [upd_ne (ne_of_none h nD)]
    exact s4 _ _ (s' _ _ h)
  · rw [upd_same, filt_step hx, if_pos hf]
theorem turn_yes {H : Hp} {σ : L2.St} {g : TG} {te : TE} {vs : List Nat} {e : V → V} {x : V} (h : ∀ (H' : Hp) (R : VK), Same H H' → (∀ H'', Same H' H'' → R (e x) H'') → g x (wipe σ vs) H' fun σ2 H2 => wipe σ2 vs = wipe σ vs ∧ te σ2 H2 R) : Turn H σ g tYes te vs (fun _ => true) e x := fun H' N R s' _ hR => h H' R s' (hR rfl)
/-- over a list -/
theorem lcF_list {K : PySem.W.Frag} {σ : L2.St} {H : Hp} {Q : VK} {tt : TT} {te ti : TE} {a : Addr} {xs : List V} {g : TG} {vs : List Nat} (f : V → Bool) (e : V → V) (hi : ∀ Q : VK, Q (.ref a) H → ti σ H Q) (hx : SqL K H a xs) (hz : xs.length ≤ 1000000)
    (he : ∀ x ∈ xs, Turn H σ g tt te vs f e x) (q : ∀ H' D, Same H H' → H D = none → H' D = some (.lst ((xs.filter f).map e)) → Q (.ref D) H') : tLc (iList K ti) g tt te vs σ H Q := by
  refine hi _ ⟨a, rfl, ⟨xs, hx⟩, fun D nD => ?_⟩
  refine lc_list (K := K) (a := a) (xs := xs) (fun k H' => Same H H' ∧ H' D = some (.lst (((xs.take k).filter f).map e))) ⟨same_put nD, by rw [List.take_zero]; exact upd_same⟩ (fun k H' _ ⟨s', _⟩ => s'.seq hx) ?_ ?_
  · rintro k x H' hk ⟨s', eD⟩
    exact turn_inv nD hz hk (he x (List.mem_of_getElem? hk)) s' eD
  · rintro H' ⟨s', eD⟩
    rw [List.take_length] at eD
    exact q H' D s' nD eD
theorem lcF_tup {K : PySem.W.Frag} {σ : L2.St} {H : Hp} {Q : VK} {tt : TT} {te ti : TE} {a : Addr} {xs : List V} {g : TG} {vs : List Nat} (f : V → Bool) (e : V → V) (hi : ∀ Q : VK, Q (.ref a) H → ti σ H Q) (hx : SqT K H a xs) (hz : xs.length ≤ 1000000)
    (he : ∀ x ∈ xs, Turn H σ g tt te vs f e x) (q : ∀ H' D, Same H H' → H D = none → H' D = some (.lst ((xs.filter f).map e)) → Q (.ref D) H') : tLc (iTup K ti) g tt te vs σ H Q := by
  refine hi _ ⟨a, rfl, ⟨xs, hx⟩, fun D nD => ?_⟩
  refine lc_tup (K := K) (a := a) (xs := xs) (fun k H' => Same H H' ∧ H' D = some (.lst (((xs.take k).filter f).map e))) ⟨same_put nD, by rw [List.take_zero]; exact upd_same⟩ (fun k H' _ ⟨s', _⟩ => seqT_mono s' hx) ?_ ?_
  · rintro k x H' hk ⟨s', eD⟩
    exact turn_inv nD hz hk (he x (List.mem_of_getElem? hk)) s' eD
  · rintro H' ⟨s', eD⟩
    rw [List.take_length] at eD
    exact q H' D s' nD eD
/-- the numbers from a to b - 1 -/
def rgN (a b : Nat) : List Nat := (List.range (b - a)).map fun k => a + k
theorem rgN_len (a b : Nat) : (rgN a b).length = b - a := by
  unfold rgN
  rw [List.length_map, List.length_range]
theorem rgN_mem {a b x : Nat} : x ∈ rgN a b ↔ a ≤ x ∧ x < b := by
  unfold rgN
  rw [List.mem_map]
  constructor
  · rintro ⟨k, hk, rfl⟩
    have := List.mem_range.mp hk
    omega
  · intro h
    exact ⟨x - a, List.mem_range.mpr (by omega), by omega⟩
theorem rgN_get {a b k : Nat} (h : k < b - a) : (rgN a b)[k]? = some (a + k) := by
  unfold rgN
  rw [List.getElem?_map, List.getElem?_range h]
  rfl
abbrev nV (n : Nat) : V := .int (n : Nat)
theorem filt_nV {f : V → Bool} {e : V → V} {l : List Nat} : ((l.map nV).filter f).map e = (l.filter fun n => f (nV n)).map fun n => e (nV n) := by
  rw [List.filter_map, List.map_map]
  rfl
def fV (f : Nat → Bool) : V → Bool
  | .int i => f i.toNat
  | _ => false
def eV (e : Nat → V) : V → V
  | .int i => e i.toNat
  | v => v
theorem filt_fe {f : Nat → Bool} {e : Nat → V} {l : List Nat} : ((l.map nV).filter (fV f)).map (eV e) = (l.filter f).map e := by
  rw [filt_nV]
  rfl
theorem filt_all {e : Nat → V} {l : List Nat} : ((l.map nV).filter (fun _ => true)).map (eV e) = l.map e := by
  rw [List.filter_eq_self.mpr (fun _ _ => rfl), List.map_map]
  rfl
theorem lcF_core {σ : L2.St} {H : Hp} {Q : VK} {tt : TT} {te : TE} {g : TG} {vs : List Nat} {a b : Nat} (f : V → Bool) (e : V → V) (hz : b ≤ 1000000) (he : ∀ x ∈ (rgN a b).map nV, Turn H σ g tt te vs f e x)
    (q : ∀ H' D, Same H H' → H D = none → H' D = some (.lst ((((rgN a b).map nV).filter f).map e)) → Q (.ref D) H') {lo : Int} (hlo : lo = (a : Nat)) (D : Addr) (nD : H D = none) : ∃ W : Nat → Nat → Hp → Prop, (∃ m, W 0 m (upd H D (.lst []))) ∧ ∀ i m H, W i m H →
  ((Itr lo (b - a)).stop i H ∧ Q (.ref D) H) ∨ ((Itr lo (b - a)).go i H ∧ ∃ Nx : Hp → Prop, (∀ H', Nx H' → ∃ m', m' < m ∧ W (i + 1) m' H') ∧ ∀ x H', (Itr lo (b - a)).yld i H x H' → g x (wipe σ vs) H' fun σ2 H2 => wipe σ2 vs = wipe σ vs ∧ tt σ2 H2 fun b H3 =>
    if b = true then te σ2 H3 fun y H4 => ∃ acc, H4 D = some (.lst acc) ∧ acc.length < sizeLine ∧ Nx (upd H4 D (.lst (acc ++ [y]))) else Nx H3) := by
  have hzl : ((rgN a b).map nV).length ≤ 1000000 := by
    rw [List.length_map, rgN_len]
    omega
  refine lc_range (lo := lo) (n := b - a) (fun k H' => Same H H' ∧ H' D = some (.lst (((((rgN a b).map nV).take k).filter f).map e))) ⟨same_put nD, by rw [List.take_zero]; exact upd_same⟩ ?_ ?_
  · rintro k H' hk ⟨s', eD⟩
    have hx : ((rgN a b).map nV)[k]? = some (.int (lo + (k : Nat))) := by
      rw [List.getElem?_map, rgN_get hk, hlo]
      show some (V.int ((a + k : Nat) : Int)) = _
      rw [Int.natCast_add]
    exact turn_inv nD hzl hx (he _ (List.mem_of_getElem? hx)) s' eD
  · rintro H' ⟨s', eD⟩
    have hl : b - a = ((rgN a b).map nV).length := by rw [List.length_map, rgN_len]
    rw [hl, List.take_length] at eD
    exact q H' D s' nD eD
theorem lcF_rng1 {σ : L2.St} {H : Hp} {Q : VK} {tt : TT} {te : TE} {ta : TA} {n : Nat} {g : TG} {vs : List Nat} (f : V → Bool) (e : V → V) (hta : ∀ (Q : List V → Hp → Prop), Q [.int (n : Nat)] H → ta σ H Q) (hz : n ≤ 1000000)
    (he : ∀ x ∈ (rgN 0 n).map nV, Turn H σ g tt te vs f e x) (q : ∀ H' D, Same H H' → H D = none → H' D = some (.lst ((((rgN 0 n).map nV).filter f).map e)) → Q (.ref D) H') : tLc (iRng1 ta) g tt te vs σ H Q := by
  refine hta _ ⟨(n : Nat), rfl, by omega, by omega, fun D nD => ?_⟩
  rw [Int.toNat_natCast]
  exact lcF_core (a := 0) (b := n) f e hz he q rfl D nD
theorem lcF_rng2 {σ : L2.St} {H : Hp} {Q : VK} {tt : TT} {te : TE} {ta : TA} {a b : Nat} {g : TG} {vs : List Nat} (f : V → Bool) (e : V → V) (hta : ∀ (Q : List V → Hp → Prop), Q [.int (a : Nat), .int (b : Nat)] H → ta σ H Q) (ha : a ≤ 1000000) (hz : b ≤ 1000000)
    (he : ∀ x ∈ (rgN a b).map nV, Turn H σ g tt te vs f e x) (q : ∀ H' D, Same H H' → H D = none → H' D = some (.lst ((((rgN a b).map nV).filter f).map e)) → Q (.ref D) H') : tLc (iRng2 ta) g tt te vs σ H Q := by
  refine hta _ ⟨(a : Nat), (b : Nat), rfl, ⟨by omega, by omega, by omega, by omega⟩, fun D nD => ?_⟩
  rw [show ((b : Nat) : Int) - ((a : Nat) : Int) = ((b : Nat) : Int) - ((a : Nat) : Int) from rfl, show (((b : Nat) : Int) - ((a : Nat) : Int)).toNat = b - a by omega]
  exact lcF_core (a := a) (b := b) f e hz he q rfl D nD
end Ev

/-! ## == and != of any data with a text, == of a tuple with () -/
namespace PySem.SeqAt
open AutoSeq1 (wpAny_loadPart')
open MeetsSeq
section
variable {A : Around} {s : Shared}
theorem ev_sub_sd : isSubtype (.type "str") (.type "dict") = pure false := by rw [isSubtype_type]; kernel_rfl
theorem ev_dict_eq_str (l : Addr) (es : Array DictEntry) (n : Nat) (dd : Option Addr) (sl : Array (Option Value)) (b : Str) (u : Tok) :
    Meets (Builtin.«dict.__eq__» ⟨[.ref l, .str b u], []⟩)
      (fun _ R s => s.heap.get? l = some { cls := .type "dict", dict := dd, data := .dict es n, slots := sl } ∧ R (.ok (.ret .notImplemented)) s) :=
  .of_wp fun prog w A R s h => by
    obtain ⟨hp, g, d, tk, os⟩ := s
    obtain ⟨hl, h⟩ := h
    have f1 := ev_sub_sd
    wp_walk using wpAny_loadPart' hl, wpAny_load hl
    exact ⟨_, rfl, h⟩
theorem ev_dict_ne_str (l : Addr) (es : Array DictEntry) (n : Nat) (dd : Option Addr) (sl : Array (Option Value)) (b : Str) (u : Tok) :
    Meets (Builtin.«dict.__ne__» ⟨[.ref l, .str b u], []⟩)
      (fun _ R s => s.heap.get? l = some { cls := .type "dict", dict := dd, data := .dict es n, slots := sl } ∧ R (.ok (.ret .notImplemented)) s) :=
  .of_wp fun prog w A R s h => by
    obtain ⟨hp, g, d, tk, os⟩ := s
    obtain ⟨hl, h⟩ := h
    have f1 := ev_sub_sd
    wp_walk using wpAny_loadPart' hl, wpAny_load hl
    exact ⟨_, rfl, h⟩
theorem ev_str_eq_dict (b : Str) (u : Tok) (l : Addr) (c : Value) (es : Array DictEntry) (n : Nat) (dd : Option Addr) (sl : Array (Option Value)) :
    Meets (Builtin.«str.__eq__» ⟨[.str b u, .ref l], []⟩) (fun _ R s => s.heap.get? l = some { cls := c, dict := dd, data := .dict es n, slots := sl } ∧ R (.ok (.ret .notImplemented)) s) :=
  .of_wp fun prog w A R s h => by
    obtain ⟨hp, g, d, tk, os⟩ := s
    obtain ⟨hl, h⟩ := h
    wp_walk using wpAny_loadPart' hl, wpAny_load hl
    exact ⟨_, rfl, h⟩
theorem ev_str_ne_dict (b : Str) (u : Tok) (l : Addr) (c : Value) (es : Array DictEntry) (n : Nat) (dd : Option Addr) (sl : Array (Option Value)) :
    Meets (Builtin.«str.__ne__» ⟨[.str b u, .ref l], []⟩) (fun _ R s => s.heap.get? l = some { cls := c, dict := dd, data := .dict es n, slots := sl } ∧ R (.ok (.ret .notImplemented)) s) :=
  .of_wp fun prog w A R s h => by
    obtain ⟨hp, g, d, tk, os⟩ := s
    obtain ⟨hl, h⟩ := h
    wp_walk using wpAny_loadPart' hl, wpAny_load hl
    exact ⟨_, rfl, h⟩
theorem ev_rc_dict_str {l : Addr} {o : Obj} {es : Array DictEntry} {n : Nat} (b : Str) (u : Tok) (ho : s.heap.get? l = some o) (hc : o.cls = .type "dict") (hd : o.data = .dict es n) (hu : A.units < cLine) :
    RcAt A s (.ref l) (.str b u) false := fun prog w E Q h => by
  obtain ⟨cls, dd, data, sl⟩ := o
  simp only at hc hd
  subst hc hd
  exact rc_eq_decline_or (k := false) ⟨_, ho, rfl⟩ (typeIs_str s b u) (by decide) ev_sub_sd F.slot_dict_eq F.slot_str_eq_refl
    (fun _ hq => call_meets F.slot_dict_eq ⟨_, ho, rfl⟩ F.entry_dict_eq (F.args_dict_eq_2 _ _) (ev_dict_eq_str l es n dd sl b u) ⟨ho, hq⟩)
    (fun _ hq => call_meets F.slot_str_eq_refl (typeIs_str s b u) F.entry_str_eq (F.args_str_eq_2 _ _) (ev_str_eq_dict b u l (.type "dict") es n dd sl) ⟨ho, hq⟩)
    (fun _ hq => wpAny_of_eq (rfl : isSame (.ref l) (.str b u) = pure false) hq) (.inr hu) h
theorem ev_rn_dict_str {l : Addr} {o : Obj} {es : Array DictEntry} {n : Nat} (b : Str) (u : Tok) (ho : s.heap.get? l = some o) (hc : o.cls = .type "dict") (hd : o.data = .dict es n) (hu : A.units < cLine) :
    RcNeAt A s (.ref l) (.str b u) true := fun prog w E Q h => by
  obtain ⟨cls, dd, data, sl⟩ := o
  simp only at hc hd
  subst hc hd
  exact rc_ne_decline_or (k := false) ⟨_, ho, rfl⟩ (typeIs_str s b u) (by decide) ev_sub_sd F.slot_dict_ne F.slot_str_ne_refl
    (fun _ hq => call_meets F.slot_dict_ne ⟨_, ho, rfl⟩ F.entry_dict_ne (F.args_dict_ne_2 _ _) (ev_dict_ne_str l es n dd sl b u) ⟨ho, hq⟩)
    (fun _ hq => call_meets F.slot_str_ne_refl (typeIs_str s b u) F.entry_str_ne (F.args_str_ne_2 _ _) (ev_str_ne_dict b u l (.type "dict") es n dd sl) ⟨ho, hq⟩)
    (fun _ hq => wpAny_of_eq (rfl : isSame (.ref l) (.str b u) = pure false) hq) (.inr hu) h
end
end PySem.SeqAt
namespace Ev
open PySem PySem.Spec PyProof.Rows L2
def isStrD (t : Str) : PyData → Bool
  | .str x => x == t
  | _ => false
def rEqS (K : PySem.W.Frag) : R2 := fun x y H Q => ∃ (d : PyData) (t : Str), Da K H x d ∧ y = .str t ∧ Q (.bl (isStrD t d)) H
def rNeS (K : PySem.W.Frag) : R2 := fun x y H Q => ∃ (d : PyData) (t : Str), Da K H x d ∧ y = .str t ∧ Q (.bl (!isStrD t d)) H
section
variable {X : Cx}
theorem op_eqS (hu : X.A.units < cLine) : OpR X (compareOp .Eq) (rEqS X.K) := by
  intro pins s σ H x y v u Q I rx ry h
  obtain ⟨d, t, hd, rfl, q⟩ := h
  obtain ⟨tk, rfl⟩ := ry
  have fin : ∀ b, b = isStrD t d → EP X pins σ Q (.bool b) s := fun b e => ⟨.bl b, H, I, rfl, by rw [e]; exact q⟩
  cases hd with
  | non =>
    cases rx
    exact SeqAt.RcAt.none_str t tk _ _ _ _ (fin _ rfl)
  | bl b =>
    cases rx
    exact SeqAt.RcAt.bool_str b t tk _ _ _ _ (fin _ rfl)
  | int i =>
    obtain ⟨tk', rfl⟩ := rx
    exact SeqAt.RcAt.int_str i tk' t tk _ _ _ _ (fin _ rfl)
  | str x =>
    obtain ⟨tk', rfl⟩ := rx
    exact SeqAt.RcAt.str_str x tk' t tk _ _ _ _ (fin _ rfl)
  | lst hs ha =>
    cases rx
    obtain ⟨its, rv, ⟨o, n, ho, hc, _, hd⟩, _⟩ := I.list hs
    exact SeqAt.RcAt.list_str t tk ⟨o, ho, hc, n, hd⟩ hu _ _ _ _ (fin _ rfl)
  | tup hs ha =>
    cases rx
    obtain ⟨its, rv, ⟨o, ho, hc, n, hd⟩, _⟩ := I.tuple hs
    exact SeqAt.RcAt.tuple_str t tk ⟨o, ho, hc, n, hd⟩ hu _ _ _ _ (fin _ rfl)
  | @dic a kvs _ he hk =>
    cases rx
    have ok : ObjOk X.prog X.w H s.heap a (.dK kvs) := I.hok a _ he
    obtain ⟨_, ns, vs, kv, o, es, ep, ho, ex, hd, _⟩ := ok
    exact SeqAt.ev_rc_dict_str t tk ho ex.1 hd hu _ _ _ _ (fin _ rfl)
theorem op_neS (hu : X.A.units < cLine) : OpR X (compareOp .NotEq) (rNeS X.K) := by
  intro pins s σ H x y v u Q I rx ry h
  obtain ⟨d, t, hd, rfl, q⟩ := h
  obtain ⟨tk, rfl⟩ := ry
  have fin : ∀ b, b = (!isStrD t d) → EP X pins σ Q (.bool b) s := fun b e => ⟨.bl b, H, I, rfl, by rw [e]; exact q⟩
  cases hd with
  | non =>
    cases rx
    exact SeqAt.RcNeAt.none_str t tk _ _ _ _ (fin _ rfl)
  | bl b =>
    cases rx
    exact SeqAt.RcNeAt.bool_str b t tk _ _ _ _ (fin _ rfl)
  | int i =>
    obtain ⟨tk', rfl⟩ := rx
    exact SeqAt.RcNeAt.int_str i tk' t tk _ _ _ _ (fin _ rfl)
  | str x =>
    obtain ⟨tk', rfl⟩ := rx
    exact SeqAt.RcNeAt.str_str x tk' t tk _ _ _ _ (fin _ rfl)
  | lst hs ha =>
    cases rx
    obtain ⟨its, rv, ⟨o, n, ho, hc, _, hd⟩, _⟩ := I.list hs
    exact SeqAt.RcNeAt.list_str t tk ⟨o, ho, hc, n, hd⟩ hu _ _ _ _ (fin _ rfl)
  | tup hs ha =>
    cases rx
    obtain ⟨its, rv, ⟨o, ho, hc, n, hd⟩, _⟩ := I.tuple hs
    exact SeqAt.RcNeAt.tuple_str t tk ⟨o, ho, hc, n, hd⟩ hu _ _ _ _ (fin _ rfl)
  | @dic a kvs _ he hk =>
    cases rx
    have ok : ObjOk X.prog X.w H s.heap a (.dK kvs) := I.hok a _ he
    obtain ⟨_, ns, vs, kv, o, es, ep, ho, ex, hd, _⟩ := ok
    exact SeqAt.ev_rn_dict_str t tk ho ex.1 hd hu _ _ _ _ (fin _ rfl)
/-- t == () -/
def rEqT0 (K : PySem.W.Frag) : R2 := fun x y H Q => ∃ (a b : Addr) (xs : List V), x = .ref a ∧ y = .ref b ∧ SqT K H a xs ∧ SqT K H b [] ∧ Q (.bl (decide (xs = []))) H
theorem op_eqT0 (hu : X.A.units < cLine) : OpR X (compareOp .Eq) (rEqT0 X.K) := by
  intro pins s σ H x y v u Q I rx ry h
  obtain ⟨a, b, xs, rfl, rfl, h1, h2, q⟩ := h
  cases rx
  cases ry
  obtain ⟨i1, r1, ⟨o1, ho1, hc1, n1, hd1⟩, _⟩ := I.tuple h1
  obtain ⟨i2, r2, ⟨o2, ho2, hc2, n2, hd2⟩, _⟩ := I.tuple h2
  have e2 : i2 = [] := by
    have z := Paired.length r2
    exact List.length_eq_zero_iff.mp z.symm
  subst e2
  have l1 : i1.length = xs.length := (Paired.length r1).symm
  refine SeqAt.rcIn_tuples (e := fun _ => true) ⟨o1, ho1, hc1, n1, hd1⟩ ⟨o2, ho2, hc2, n2, hd2⟩ hu (fun j j1 j2 => absurd j2 (by simp)) ?_
  have z : ((List.range (min i1.toArray.size ([] : List Value).toArray.size)).all (fun _ => true) && i1.toArray.size == ([] : List Value).toArray.size) = decide (xs = []) := by
    cases xs with
    | nil =>
      have : i1 = [] := List.length_eq_zero_iff.mp l1
      subst this
      rfl
    | cons x r =>
      have : i1.length = r.length + 1 := l1
      simp [this]
  rw [z]
  exact ⟨.bl _, H, I, rfl, q⟩
end
end Ev

/-! ## any data in a tuple of numbers; how many different numbers -/
namespace PySem.SeqAt
open PySem
section
variable {A : Around} {s : Shared}
theorem ev_sub_di : isSubtype (.type "dict") (.type "int") = pure false := by rw [isSubtype_type]; kernel_rfl
theorem ev_int_eq_dict (b : Int) (u : Tok) (l : Addr) (c : Value) (es : Array DictEntry) (n : Nat) (dd : Option Addr) (sl : Array (Option Value)) :
    Meets (Builtin.«int.__eq__» ⟨[.int b u, .ref l], []⟩) (fun _ R s => s.heap.get? l = some { cls := c, dict := dd, data := .dict es n, slots := sl } ∧ R (.ok (.ret .notImplemented)) s) :=
  .of_wp fun prog w A R s h => by
    obtain ⟨hp, g, d, tk, os⟩ := s
    obtain ⟨hl, h⟩ := h
    wp_walk using wpAny_loadPart' hl, wpAny_load hl
    exact ⟨_, rfl, h⟩
theorem ev_sub_id : isSubtype (.type "int") (.type "dict") = pure false := by rw [isSubtype_type]; kernel_rfl
theorem ev_dict_eq_int (l : Addr) (es : Array DictEntry) (n : Nat) (dd : Option Addr) (sl : Array (Option Value)) (b : Int) (u : Tok) :
    Meets (Builtin.«dict.__eq__» ⟨[.ref l, .int b u], []⟩)
      (fun _ R s => s.heap.get? l = some { cls := .type "dict", dict := dd, data := .dict es n, slots := sl } ∧ R (.ok (.ret .notImplemented)) s) :=
  .of_wp fun prog w A R s h => by
    obtain ⟨hp, g, d, tk, os⟩ := s
    obtain ⟨hl, h⟩ := h
    have f1 := ev_sub_id
    wp_walk using wpAny_loadPart' hl, wpAny_load hl
    exact ⟨_, rfl, h⟩
theorem ev_eq_int_dict {l : Addr} {o : Obj} {es : Array DictEntry} {n : Nat} (b : Int) (u : Tok) (ho : s.heap.get? l = some o) (hc : o.cls = .type "dict") (hd : o.data = .dict es n) (hu : A.units < cLine) :
    EqAt A s (.int b u) (.ref l) false := fun prog w E Q h => by
  obtain ⟨cls, dd, data, sl⟩ := o
  simp only at hc hd
  subst hc hd
  unfold eqBool
  refine wpAny_holding (wpAny_ite_split (fun hab => absurd (eq_of_beq hab) nofun) fun _ => wpAny_bind ?_)
  refine rc_eq_decline_or (k := false) (typeIs_int s b u) ⟨_, ho, rfl⟩ (by decide) ev_sub_di F.slot_int_eq F.slot_dict_eq_refl ?_ ?_ ?_ (.inr hu) (wpAny_truthy_bool h)
  · intro _ hq
    exact call_meets F.slot_int_eq (typeIs_int s b u) F.entry_int_eq (F.args_int_eq_2 _ _) (ev_int_eq_dict b u l (.type "dict") es n dd sl) ⟨ho, hq⟩
  · intro _ hq
    exact call_meets F.slot_dict_eq_refl ⟨_, ho, rfl⟩ F.entry_dict_eq (F.args_dict_eq_2 _ _) (ev_dict_eq_int l es n dd sl b u) ⟨ho, hq⟩
  · intro _ hq
    exact wpAny_of_eq (rfl : isSame (.int b u) (.ref l) = pure false) hq
end
end PySem.SeqAt
namespace Ev
open PySem PySem.Spec PyProof.Rows L2
/-- whether a value is among numbers, as Python sees it -/
def inD (ns : List Nat) : PyData → Bool
  | .int i => ns.any fun n => ((n : Nat) : Int) == i
  | .bool b => ns.any fun n => ((n : Nat) : Int) == (if b then 1 else 0)
  | _ => false
section
variable {X : Cx}
def rInI (K : PySem.W.Frag) : R2 := fun x y H Q => ∃ (p : Addr) (ns : List Nat) (d : PyData), y = .ref p ∧ SqT K H p (ns.map nV) ∧ Da K H x d ∧ Q (.bl (inD ns d)) H
theorem ints_of : ∀ {ns : List Nat} {us : List Value}, Vals (ns.map nV) us → ∀ u ∈ us, ∃ (b : Int) (t : Tok), u = .int b t
  | [], _, .nil, _, h => by cases h
  | n :: ns, _, .cons r t, u, h => by
    rcases List.mem_cons.mp h with rfl | h
    · obtain ⟨k, rfl⟩ := r
      exact ⟨_, _, rfl⟩
    · exact ints_of t u h
theorem op_inI (hu : X.A.units + 1 < cLine) : OpR X (compareOp .In) (rInI X.K) := by
  intro pins s σ H x y v u Q I rx ry h
  obtain ⟨p, ns, d, rfl, hq, hd, q⟩ := h
  cases ry
  obtain ⟨its, r, pl, hz⟩ := I.tuple hq
  have fl : (ns.map nV).all flatV = true := by
    rw [List.all_map]
    exact List.all_eq_true.mpr fun n _ => rfl
  have hui : X.A.in1.units < cLine := hu
  have flat : ∀ (hx : flatV x = true), (∀ ns' : List Nat, ns' = ns → inV x (ns'.map nV) = inD ns d) → wpAny (model X.prog X.w) X.A (compareOp .In v (.ref p)) (EP X pins σ Q) X.xe s := fun hx he => by
    refine SeqAt.in_tupleAt (eqU x) pl (fun w hw => mem_eqAt rx hx r fl w (by simpa using hw)) ⟨.bl _, H, I, rfl, ?_⟩
    rw [show its.toArray.any (eqU x) = its.any (eqU x) by simp, any_eqU r fl, show ((ns.map nV).any fun y => eqV y x) = inV x (ns.map nV) from rfl, he ns rfl]
    exact q
  have none : (∀ w ∈ its, SeqAt.EqAt X.A.in1 s w v false) → inD ns d = false → wpAny (model X.prog X.w) X.A (compareOp .In v (.ref p)) (EP X pins σ Q) X.xe s := fun he hf => by
    refine SeqAt.in_tupleAt (fun _ => false) pl (fun w hw => he w (by simpa using hw)) ⟨.bl _, H, I, rfl, ?_⟩
    rw [show (its.toArray.any fun _ => false) = false by simp, ← hf]
    exact q
  cases hd with
  | non =>
    exact flat rfl fun ns' e => by
      subst e
      show (ns'.map nV).any _ = false
      rw [List.any_map]
      exact List.any_eq_false.mpr fun n _ => Bool.false_ne_true
  | bl b =>
    exact flat rfl fun ns' e => by
      subst e
      show (ns'.map nV).any _ = _
      rw [List.any_map]
      rfl
  | int i =>
    exact flat rfl fun ns' e => by
      subst e
      show (ns'.map nV).any _ = _
      rw [List.any_map]
      rfl
  | str z =>
    exact flat rfl fun ns' e => by
      subst e
      show (ns'.map nV).any _ = false
      rw [List.any_map]
      exact List.any_eq_false.mpr fun n _ => Bool.false_ne_true
  | lst hs ha =>
    cases rx
    obtain ⟨its', rv, pl', _⟩ := I.list hs
    exact none (fun w hw => by
      obtain ⟨b, t, rfl⟩ := ints_of r w hw
      exact SeqAt.EqAt.int_list b t pl'.isList hui) rfl
  | tup hs ha =>
    cases rx
    obtain ⟨its', rv, pl', _⟩ := I.tuple hs
    exact none (fun w hw => by
      obtain ⟨b, t, rfl⟩ := ints_of r w hw
      exact SeqAt.EqAt.int_tuple b t pl' hui) rfl
  | @dic a kvs _ he hk =>
    cases rx
    have ok : ObjOk X.prog X.w H s.heap a (.dK kvs) := I.hok a _ he
    obtain ⟨_, ns', vs, kv, o, es, ep, ho, ex, hd, _⟩ := ok
    exact none (fun w hw => by
      obtain ⟨b, t, rfl⟩ := ints_of r w hw
      exact SeqAt.ev_eq_int_dict b t ho ex.1 hd hui) rfl
end
/-- how many different numbers -/
def distI (ns : List Int) : Nat := (firstMet (fun i => ns.getD i 0) ns.length).length
def tLenSetJ (K : PySem.W.Frag) (ta : TE) : TE := fun σ H Q => ta σ H fun x H1 => ∃ (l : Addr) (ns : List Int), x = .ref l ∧ SqL K H1 l (ns.map V.int) ∧ ns.length ≤ 4000 ∧ Q (.int (distI ns : Nat)) H1
theorem pe_lenSetJ {X : Cx} {a : Expr} {ta : TE} {p p2 q pos : Pos} (hg : Gl X "len") (hm : X.mg "len" = none) (hg2 : Gl X "set") (hm2 : X.mg "set" = none) (ha : PE X a ta) (hc : X.calm = true := by rfl)
    (na : starEach [a] X.env = (false, eval a X.env) :: starEach [] X.env := by rfl) : PE X (.Call (.Name "len" p) [.Call (.Name "set" p2) [a] [] q] [] pos) (tLenSetJ X.K ta) := ⟨fun pins s σ H Q I h => by
  refine Call_ (ld_blt I hg hm boot_len (callWith_builtin1 (args_cons (Call_ (ld_blt I hg2 hm2 boot_set ?_)) rfl) rfl rfl))
  refine callWith_type1 (args_cons (thn (ha.run pins s σ H _ I h) fun v s1 ⟨x, H1, I1, r1, l, ns, ex, hq, hl, q1⟩ => args_nil ?_) na) na rfl
  subst ex
  cases r1
  obtain ⟨its, r, pl, hz⟩ := I1.list hq
  have hsz : its.toArray.size = ns.length := by
    have e1 := r.length
    rw [List.length_map] at e1
    rw [List.size_toArray, e1]
  have hb : its.toArray.size + 1 < scanBound := by
    rw [hsz]
    unfold scanBound
    omega
  refine call_set_list (I1.ok.hd hc) pl.isList (by simpa using RZ.intsAre_vals r) hb fun h' tk hS hk => args_nil ?_
  rw [hsz] at hS
  obtain ⟨o, es, ep, t, ho, hex, hd, _, _, _, hf, hn⟩ := hS
  have I2 : Inv X pins σ H1 { s1 with heap := h', toks := tk } := I1.kept fun b o e => hk b o (Heap.lt_size e) e
  have hle := firstMet_length_le (fun i => ns.getD i 0) ns.length
  refine call_len_set ho hex hd hf (by rw [hn]; omega) ⟨.int (distI ns : Nat), H1, I2.tok _, ⟨_, by rw [hn]; rfl⟩, q1⟩⟩
theorem dist_one {ns : List Int} (h : ∀ x ∈ ns, ∀ y ∈ ns, x = y) : distI ns ≤ 1 := by
  unfold distI
  have go : ∀ i, i ≤ ns.length → (firstMet (fun i => ns.getD i 0) i).length ≤ 1 := fun i => by
    induction i with
    | zero => intro _; exact Nat.zero_le _
    | succ i ih =>
      intro hi
      have ih := ih (by omega)
      rw [firstMet_succ]
      unfold step_dedup
      split
      · exact ih
      · rename_i hno
        have hany := firstMet_any (fun i => ns.getD i 0) i (ns.getD i 0)
        by_cases h0 : i = 0
        · subst h0
          rw [firstMet_zero]
          exact Nat.le_refl _
        · refine absurd ?_ hno
          rw [hany, List.any_eq_true]
          have g : ∀ j, j < ns.length → ns.getD j 0 ∈ ns := fun j hj => by
            rw [List.getD_eq_getElem?_getD, List.getElem?_eq_getElem hj]
            exact List.getElem_mem hj
          exact ⟨ns.getD 0 0, List.mem_map.mpr ⟨0, List.mem_range.mpr (by omega), rfl⟩, beq_iff_eq.mpr (h _ (g 0 (by omega)) _ (g i (by omega)))⟩
  exact go ns.length (Nat.le_refl _)
theorem dist_two {ns : List Int} {x y : Int} (hx : x ∈ ns) (hy : y ∈ ns) (hne : x ≠ y) : 1 < distI ns := by
  have mem : ∀ z ∈ ns, z ∈ firstMet (fun i => ns.getD i 0) ns.length := fun z hz => by
    have hany := firstMet_any (fun i => ns.getD i 0) ns.length z
    have e : ((List.range ns.length).map fun i => ns.getD i 0).any (· == z) = true := by
      rw [List.any_eq_true]
      obtain ⟨j, hj, e⟩ := List.getElem_of_mem hz
      refine ⟨z, List.mem_map.mpr ⟨j, List.mem_range.mpr hj, ?_⟩, beq_self_eq_true z⟩
      rw [List.getD_eq_getElem?_getD, List.getElem?_eq_getElem hj, e]
      rfl
    rw [e, List.any_eq_true] at hany
    obtain ⟨u, hu, eu⟩ := hany
    rw [← beq_iff_eq.mp eu]
    exact hu
  have a := mem x hx
  have b := mem y hy
  unfold distI
  generalize firstMet (fun i => ns.getD i 0) ns.length = l at a b
  match l, a, b with
  | [u], a, b =>
    rw [List.mem_singleton] at a b
    exact absurd (a.trans b.symm) hne
  | _ :: _ :: _, _, _ =>
    show 1 < _ + 1 + 1
    omega
end Ev

/-! ## any data in a tuple of texts; isinstance of what an expression gives -/
namespace PySem.SeqAt
open PySem
section
variable {A : Around} {s : Shared}
theorem ev_sub_ds : isSubtype (.type "dict") (.type "str") = pure false := by rw [isSubtype_type]; kernel_rfl
theorem ev_eq_str_dict {l : Addr} {o : Obj} {es : Array DictEntry} {n : Nat} (b : Str) (u : Tok) (ho : s.heap.get? l = some o) (hc : o.cls = .type "dict") (hd : o.data = .dict es n) (hu : A.units < cLine) :
    EqAt A s (.str b u) (.ref l) false := fun prog w E Q h => by
  obtain ⟨cls, dd, data, sl⟩ := o
  simp only at hc hd
  subst hc hd
  unfold eqBool
  refine wpAny_holding (wpAny_ite_split (fun hab => absurd (eq_of_beq hab) nofun) fun _ => wpAny_bind ?_)
  refine rc_eq_decline_or (k := false) (typeIs_str s b u) ⟨_, ho, rfl⟩ (by decide) ev_sub_ds F.slot_str_eq F.slot_dict_eq_refl ?_ ?_ ?_ (.inr hu) (wpAny_truthy_bool h)
  · intro _ hq
    exact call_meets F.slot_str_eq (typeIs_str s b u) F.entry_str_eq (F.args_str_eq_2 _ _) (ev_str_eq_dict b u l (.type "dict") es n dd sl) ⟨ho, hq⟩
  · intro _ hq
    exact call_meets F.slot_dict_eq_refl ⟨_, ho, rfl⟩ F.entry_dict_eq (F.args_dict_eq_2 _ _) (ev_dict_eq_str l es n dd sl b u) ⟨ho, hq⟩
  · intro _ hq
    exact wpAny_of_eq (rfl : isSame (.str b u) (.ref l) = pure false) hq
end
end PySem.SeqAt
namespace Ev
open PySem PySem.Spec PyProof.Rows L2
/-- whether a value is among texts -/
def inT (ns : List Str) : PyData → Bool
  | .str x => ns.any fun n => n == x
  | _ => false
section
variable {X : Cx}
def rNiS (K : PySem.W.Frag) : R2 := fun x y H Q => ∃ (p : Addr) (ns : List Str) (d : PyData), y = .ref p ∧ SqT K H p (ns.map V.str) ∧ Da K H x d ∧ Q (.bl (!inT ns d)) H
theorem strs_of : ∀ {ns : List Str} {us : List Value}, Vals (ns.map V.str) us → ∀ u ∈ us, ∃ (b : Str) (t : Tok), u = .str b t
  | [], _, .nil, _, h => by cases h
  | n :: ns, _, .cons r t, u, h => by
    rcases List.mem_cons.mp h with rfl | h
    · obtain ⟨k, rfl⟩ := r
      exact ⟨_, _, rfl⟩
    · exact strs_of t u h
theorem op_niS (hu : X.A.units + 1 < cLine) : OpR X (compareOp .NotIn) (rNiS X.K) := by
  intro pins s σ H x y v u Q I rx ry h
  obtain ⟨p, ns, d, rfl, hq, hd, q⟩ := h
  cases ry
  obtain ⟨its, r, pl, hz⟩ := I.tuple hq
  have fl : (ns.map V.str).all flatV = true := by
    rw [List.all_map]
    exact List.all_eq_true.mpr fun n _ => rfl
  have hui : X.A.in1.units < cLine := hu
  have flat : ∀ (hx : flatV x = true), (∀ ns' : List Str, ns' = ns → inV x (ns'.map V.str) = inT ns d) → wpAny (model X.prog X.w) X.A (compareOp .NotIn v (.ref p)) (EP X pins σ Q) X.xe s := fun hx he => by
    refine SeqAt.notIn_tupleAt (eqU x) pl (fun w hw => mem_eqAt rx hx r fl w (by simpa using hw)) ⟨.bl _, H, I, rfl, ?_⟩
    rw [show its.toArray.any (eqU x) = its.any (eqU x) by simp, any_eqU r fl, show ((ns.map V.str).any fun y => eqV y x) = inV x (ns.map V.str) from rfl, he ns rfl]
    exact q
  have none : (∀ w ∈ its, SeqAt.EqAt X.A.in1 s w v false) → inT ns d = false → wpAny (model X.prog X.w) X.A (compareOp .NotIn v (.ref p)) (EP X pins σ Q) X.xe s := fun he hf => by
    refine SeqAt.notIn_tupleAt (fun _ => false) pl (fun w hw => he w (by simpa using hw)) ⟨.bl _, H, I, rfl, ?_⟩
    rw [show (its.toArray.any fun _ => false) = false by simp, ← hf]
    exact q
  have no : ∀ (x' : V), (∀ n : Str, eqV (.str n) x' = false) → ∀ ns' : List Str, inV x' (ns'.map V.str) = false := fun x' h ns' => by
    show (ns'.map V.str).any _ = false
    rw [List.any_map]
    exact List.any_eq_false.mpr fun n _ => by
      show ¬ eqV (.str n) x' = true
      rw [h n]
      exact Bool.false_ne_true
  cases hd with
  | non => exact flat rfl fun ns' e => no _ (fun _ => rfl) ns'
  | bl b => exact flat rfl fun ns' e => no _ (fun _ => rfl) ns'
  | int i => exact flat rfl fun ns' e => no _ (fun _ => rfl) ns'
  | str z =>
    exact flat rfl fun ns' e => by
      subst e
      show (ns'.map V.str).any _ = _
      rw [List.any_map]
      rfl
  | lst hs ha =>
    cases rx
    obtain ⟨its', rv, pl', _⟩ := I.list hs
    exact none (fun w hw => by
      obtain ⟨b, t, rfl⟩ := strs_of r w hw
      exact SeqAt.EqAt.str_list b t pl'.isList hui) rfl
  | tup hs ha =>
    cases rx
    obtain ⟨its', rv, pl', _⟩ := I.tuple hs
    exact none (fun w hw => by
      obtain ⟨b, t, rfl⟩ := strs_of r w hw
      exact SeqAt.EqAt.str_tuple b t pl' hui) rfl
  | @dic a kvs _ he hk =>
    cases rx
    have ok : ObjOk X.prog X.w H s.heap a (.dK kvs) := I.hok a _ he
    obtain ⟨_, ns', vs, kv, o, es, ep, ho, ex, hd, _⟩ := ok
    exact none (fun w hw => by
      obtain ⟨b, t, rfl⟩ := strs_of r w hw
      exact SeqAt.ev_eq_str_dict b t ho ex.1 hd hui) rfl
end
def rIsE (K : PySem.W.Frag) (T : String) : List V → Hp → VK → Prop := fun xs H Q => ∃ (x : V) (d : PyData), xs = [x, .ty T] ∧ Da K H x d ∧ Q (.bl (isD T d)) H
theorem call_isE {X : Cx} {T : String} (hT : OkT T) : CallR X (.builtin "isinstance") (rIsE X.K T) := fun pins s σ H xs us Q I r h => by
  obtain ⟨x, d, rfl, hd, q⟩ := h
  exact call_isi pins s σ H _ us Q I r ⟨x, .ty T, .type (tyD d), .type T, isD T d, rfl, .ty T, hd.ty, kit_ty (kit_D hT d), q⟩
end Ev

/-! ## Comprehensions, element by element; letters -/
namespace Ev
open PySem PySem.Spec PyProof.Rows L2
section
variable {K : PySem.W.Frag} {σ : L2.St} {H : Hp} {Q : VK} {te ti : TE} {a : Addr} {xs ys : List V} {g : TG} {vs : List Nat}
/-- what a turn of such a comprehension does -/
def TurnI (H : Hp) (σ : L2.St) (g : TG) (te : TE) (vs : List Nat) (x y : V) : Prop := ∀ (H' : Hp) (R : VK), Same H H' → (∀ H'', Same H' H'' → R y H'') → g x (wipe σ vs) H' fun σ2 H2 => wipe σ2 vs = wipe σ vs ∧ te σ2 H2 R
theorem turnI_inv {H' : Hp} {k : Nat} {x y : V} {D : Addr} (nD : H D = none) (hz : ys.length ≤ 1000000) (hy : ys[k]? = some y) (ht : TurnI H σ g te vs x y) (s' : Same H H') (eD : H' D = some (.lst (ys.take k))) :
    g x (wipe σ vs) H' fun σ2 H2 => wipe σ2 vs = wipe σ vs ∧ te σ2 H2 fun y H4 => ∃ acc, H4 D = some (.lst acc) ∧ acc.length < sizeLine ∧ Same H (upd H4 D (.lst (acc ++ [y]))) ∧ upd H4 D (.lst (acc ++ [y])) D = some (.lst (ys.take (k + 1))) := by
  have sz := sizeLine_eq
  have hk := (List.getElem?_eq_some_iff.mp hy).1
  refine ht H' _ s' fun H4 s4 => ⟨_, s4 _ _ eD, ?_, fun b o h => ?_, ?_⟩
  · rw [List.length_take]
    omega
  · rw [upd_ne (ne_of_none h nD)]
    exact s4 _ _ (s' _ _ h)
  · rw [upd_same, List.take_add_one, hy]
    rfl
theorem lcI_tup (hl : ys.length = xs.length) (hi : ∀ Q : VK, Q (.ref a) H → ti σ H Q) (hx : SqT K H a xs) (hz : xs.length ≤ 1000000) (he : ∀ (k : Nat) x y, xs[k]? = some x → ys[k]? = some y → TurnI H σ g te vs x y)
    (q : ∀ H' D, Same H H' → H D = none → H' D = some (.lst ys) → Q (.ref D) H') : tLc (iTup K ti) g tYes te vs σ H Q := by
  refine hi _ ⟨a, rfl, ⟨xs, hx⟩, fun D nD => ?_⟩
  refine lc_tup (K := K) (a := a) (xs := xs) (fun k H' => Same H H' ∧ H' D = some (.lst (ys.take k))) ⟨same_put nD, upd_same⟩ (fun k H' _ ⟨s', _⟩ => seqT_mono s' hx) ?_ ?_
  · rintro k x H' hk ⟨s', eD⟩
    have hy : k < ys.length := by
      have := (List.getElem?_eq_some_iff.mp hk).1
      omega
    exact turnI_inv nD (by omega) (List.getElem?_eq_getElem hy) (he k x _ hk (List.getElem?_eq_getElem hy)) s' eD
  · rintro H' ⟨s', eD⟩
    rw [← hl, List.take_length] at eD
    exact q H' D s' nD eD
theorem lcI_list (hl : ys.length = xs.length) (hi : ∀ Q : VK, Q (.ref a) H → ti σ H Q) (hx : SqL K H a xs) (hz : xs.length ≤ 1000000) (he : ∀ (k : Nat) x y, xs[k]? = some x → ys[k]? = some y → TurnI H σ g te vs x y)
    (q : ∀ H' D, Same H H' → H D = none → H' D = some (.lst ys) → Q (.ref D) H') : tLc (iList K ti) g tYes te vs σ H Q := by
  refine hi _ ⟨a, rfl, ⟨xs, hx⟩, fun D nD => ?_⟩
  refine lc_list (K := K) (a := a) (xs := xs) (fun k H' => Same H H' ∧ H' D = some (.lst (ys.take k))) ⟨same_put nD, upd_same⟩ (fun k H' _ ⟨s', _⟩ => s'.seq hx) ?_ ?_
  · rintro k x H' hk ⟨s', eD⟩
    have hy : k < ys.length := by
      have := (List.getElem?_eq_some_iff.mp hk).1
      omega
    exact turnI_inv nD (by omega) (List.getElem?_eq_getElem hy) (he k x _ hk (List.getElem?_eq_getElem hy)) s' eD
  · rintro H' ⟨s', eD⟩
    rw [← hl, List.take_length] at eD
    exact q H' D s' nD eD
theorem lcI_str {te0 : TE} {x : Str} (hl : ys.length = x.cps.size) (hz : ys.length ≤ 1000) (hi : ∀ Q : VK, Q (.str x) H → te0 σ H Q) (he : ∀ (k c : Nat) y, x.cps[k]? = some c → ys[k]? = some y → TurnI H σ g te vs (.str ⟨#[c]⟩) y)
    (q : ∀ H' D, Same H H' → H D = none → H' D = some (.lst ys) → Q (.ref D) H') : tLc (iStr te0) g tYes te vs σ H Q := by
  refine hi _ ⟨x, rfl, fun D nD => ⟨fun k m H' => m = ys.length - k ∧ k ≤ ys.length ∧ Same H H' ∧ H' D = some (.lst (ys.take k)), ⟨_, rfl, Nat.zero_le _, same_put nD, upd_same⟩, ?_⟩⟩
  rintro k m H' ⟨rfl, hk, s', eD⟩
  by_cases hlt : k < ys.length
  · have hy := List.getElem?_eq_getElem hlt
    refine .inr ⟨by show k < x.cps.size; omega, fun H'' => Same H H'' ∧ H'' D = some (.lst (ys.take (k + 1))), fun H'' p' => ⟨ys.length - (k + 1), by omega, rfl, hlt, p'.1, p'.2⟩, ?_⟩
    rintro v H'' ⟨rfl, c, hc, rfl⟩
    exact turnI_inv nD (by omega) hy (he k c _ hc hy) s' eD
  · refine .inl ⟨by show x.cps.size ≤ k; omega, ?_⟩
    obtain rfl : k = ys.length := by omega
    rw [List.take_length] at eD
    exact q H' D s' nD eD
end
/-- letters -/
abbrev rInZ : R2 := fun x y H Q => ∃ (c : Nat) (z : Str), x = .str ⟨#[c]⟩ ∧ y = .str z ∧ Q (.bl (decide (c ∈ z.cps.toList))) H
theorem az_list : ("abcdefghijklmnopqrstuvwxyz" : Str).cps.toList = (List.range 26).map (· + 97) := by decide +kernel
theorem az (c : Nat) : decide (c ∈ ("abcdefghijklmnopqrstuvwxyz" : Str).cps.toList) = (decide (97 ≤ c) && decide (c ≤ 122)) := by
  rw [az_list, ← Bool.decide_and, decide_eq_decide, List.mem_map]
  constructor
  · rintro ⟨a, ha, rfl⟩
    have := List.mem_range.mp ha
    omega
  · intro h
    exact ⟨c - 97, List.mem_range.mpr (by omega), by omega⟩
end Ev

/-! ## A caught exception that is kept: it is taken into the ledger before the clause's suite runs -/
namespace Ev
open PySem PySem.Spec PyProof.Rows L2
/-- an exception, as the ledger knows it -/
def XcO (a : Addr) (cls : Value) (d : Option Addr) : HO := .ext fun h => ∃ oe vs, h.get? a = some oe ∧ Zc cls d oe ∧ oe.data = .fields vs
/-- the ledger may learn of a: nothing else speaks of it -/
structure Room1 (X : Cx) (pins : List (Addr × Obj)) (H : Hp) (a : Addr) : Prop where
  led : H a = none
  ent : X.s_0.heap.get? a = none
  loc : X.env.locals ≠ a
  cel : ∀ x c, X.env.cells.lookup x = some c → c ≠ a
  pin : ∀ p ∈ X.pn ++ pins, p.1 ≠ a
theorem Room1.other {X : Cx} {pins : List (Addr × Obj)} {H : Hp} {a b : Addr} {u : HO} (r : Room1 X pins H a) (h : H b = some u) : b ≠ a := ne_of_none h r.led |> fun z => z
theorem Room1.same {X : Cx} {pins : List (Addr × Obj)} {H : Hp} {a b : Addr} {u o : HO} (r : Room1 X pins H a) (h : H b = some u) : upd H a o b = some u := (upd_ne (r.other h)).trans h
theorem upd_none {H : Hp} {a b : Addr} {o : HO} (n : b ≠ a) (h : H b = none) : upd H a o b = none := (upd_ne n).trans h
theorem learn {X : Cx} {pins : List (Addr × Obj)} {σ : L2.St} {H : Hp} {s : Shared} {a : Addr} {o : HO} (r : Room1 X pins H a) (I : Inv X pins σ H s) (here : ObjOk X.prog X.w (upd H a o) s.heap a o) : Inv X pins σ (upd H a o) s where
  ok := I.ok
  os := I.os
  bare := I.bare
  base := {
    keep := I.base.keep
    slot := I.base.slot
    free := fun b ob e n x => upd_none (fun z => nomatch (z ▸ e).symm.trans r.ent) (I.base.free b ob e n x)
    there := I.base.there
    tups := fun b xs e => r.same (I.base.tups b xs e)
    frzs := fun b ob u e => r.same (I.base.frzs b ob u e)
    tbls := fun b ps e => (I.base.tbls b ps e).imp fun _ q => r.same q }
  loc := I.loc
  cell := I.cell
  free := upd_none r.loc I.free
  freeC := fun x c e => upd_none (r.cel x c e) (I.freeC x c e)
  pin := fun p hp => (I.pin p hp).imp id fun q => ⟨upd_none (r.pin p hp) q.1, q.2⟩
  hok := fun b u e => by
    by_cases hb : b = a
    · cases hb
      cases upd_same.symm.trans e
      exact here
    · exact (I.hok b u ((upd_ne hb).symm.trans e)).stay (fun _ _ _ q => q) (fun _ q => r.same q) fun _ _ q => r.same q
  len := I.len
/-- an exception has come down to the ground of X -/
structure Down (X : Cx) (pins : List (Addr × Obj)) (σ : L2.St) (H : Hp) (a : Addr) (cls : Value) (d : Option Addr) (B h : Heap) (s : Shared) : Prop where
  fly : HandSPX.FlyingZ B (X.env :: X.outer) a (Zc cls d) h
  room : Room1 X pins H a
  inv : ∀ h', HandSPX.FlyingZ B (X.env :: X.outer) a (Zc cls d) h' → h.UpToSlots h' → Inv X pins σ H { s with heap := h' }
  up : ∀ h', h.UpToSlots h' → HandSPX.HeldZ B (X.env :: X.outer) a (Zc cls d) X.env.locals h' → ∀ W : WX, W cls d σ H → XE X W (.ref a) { s with heap := h' }
theorem come_down {X : Cx} {pins : List (Addr × Obj)} {xe : Value → Shared → Prop} {W : WX} {u : Value} {s : Shared} {Q : Flow → Shared → Prop} {E : Value → Shared → Prop} {hds : List ExceptHandler} (ok : X.Ok) (hs : X.stack = X.env :: X.outer) (hf : X.env.frame = some X.env.locals) (hex : X.ex = [])
    (x : XE (X.tr (X.pn ++ pins) xe) W u s)
    (k : ∀ a σ H cls d B h, u = .ref a → W cls d σ H → Down X pins σ H a cls d B h s → wpAny (model X.prog X.w) X.A (handleBy (.ref a) X.env hds) Q E { s with heap := h }) :
    wpAny (model X.prog X.w) X.A (noteFrame u X.env) (fun _ s2 => wpAny (model X.prog X.w) X.A (setFlight u none) (fun _ s3 => wpAny (model X.prog X.w) X.A (handleBy u X.env hds) Q E s3) E s2) E s := by
  obtain ⟨a, B, sI, ps, σ, H, cls, d, rfl, It, ground, up, sky, na, os, ag, w⟩ := x
  have I : Inv X pins σ H sI := It.ofTry ok
  have sky : Sky B (X.env :: X.outer) a (Zc cls d) X.env.locals s.heap := hs ▸ sky
  have frames : X.A.frames = some (X.env :: X.outer) := ok.frames.trans (congrArg some hs)
  refine Sky.land Zc.steady frames hf sky fun h fl up1 => k a σ H cls d B h rfl w ?_
  have noFrame : a ∉ frs (X.env :: X.outer) := fun m => by
    obtain ⟨oe, vs, ge, _, de⟩ := fl.there
    obtain ⟨_, o, go, no⟩ := fl.2.2.1.mem m
    exact no vs (Option.some.inj (go.symm.trans ge) ▸ de)
  have gone : sI.heap.get? a = none := Option.eq_none_iff_forall_not_mem.mpr fun o e => nomatch (ground a o e (hs ▸ noFrame)).symm.trans fl.2.1
  have not : ∀ {b : Addr} {o : Obj}, sI.heap.get? b = some o → b ≠ a := fun e z => nomatch (z ▸ e).symm.trans gone
  refine ⟨fl, ⟨na, ?_, ?_, fun x c e => ?_, fun p hp => not (I.pin p hp).1⟩, fun h' fl' up' => I.landed ground fl'.1 ((up.trans up1).trans up') os ag, fun h' up' held W' w' => ?_⟩
  · refine Option.eq_none_iff_forall_not_mem.mpr fun o e => ?_
    obtain ⟨o', e'⟩ := I.base.there a o e (hex ▸ List.not_mem_nil)
    exact not e' rfl
  · intro z
    exact noFrame (List.mem_filterMap.mpr ⟨X.env, List.mem_cons_self .., hf.trans (congrArg some z)⟩)
  · obtain ⟨v, o, e', _⟩ := I.cell x c e
    exact not e'
  · exact ⟨a, B, sI, pins, σ, H, cls, d, rfl, I, ground, (up.trans up1).trans up', .inr (.inr (hs ▸ held)), na, os, ag, w'⟩
end Ev
namespace Ev
open PySem PySem.Spec PyProof.Rows L2
section
variable {X : Cx} {pins : List (Addr × Obj)} {σ : L2.St} {H : Hp} {s : Shared} {a : Addr}
/-- into a clause's suite and out of it, with the same pins -/
theorem go_in (I : Inv X pins σ H s) : Inv (X.suite a (X.pn ++ pins)) [] σ H s where
  ok := I.ok.suite _ _
  os := I.os
  bare := I.bare
  base := I.base
  loc := I.loc
  cell := I.cell
  free := I.free
  freeC := I.freeC
  pin := by
    intro p hp
    exact I.pin p (List.append_nil (X.pn ++ pins) ▸ hp)
  hok := I.hok
  len := I.len
theorem go_out {q : List (Addr × Obj)} (ok : X.Ok) (I : Inv (X.suite a (X.pn ++ pins)) q σ H s) : Inv X pins σ H s where
  ok := ok
  os := I.os
  bare := I.bare
  base := I.base
  loc := I.loc
  cell := I.cell
  free := I.free
  freeC := I.freeC
  pin := fun p hp => I.pin p (List.mem_append_left q hp)
  hok := I.hok
  len := I.len
end
/-- the clause's own ends: its name goes -/
def lessE (D : Ends) (i : Nat) : Ends := ⟨fun σ H => D.nx (σ.set i none) H, D.rt, fun σ H => D.bk (σ.set i none) H, fun σ H => D.ct (σ.set i none) H⟩
/-- what 'except x as n' wishes of an exception that it catches and that is kept -/
def wKept (K : PySem.W.Frag) (c : Value) (i : Nat) (ts : TS) (D : Ends) : WX := fun cls d σ H =>
  PySem.W.exmOne K cls c = some true ∧ ∀ a, H a = none → ts (lessE D i) (σ.set i (some (.ref a))) (upd H a (XcO a cls d))
section
variable {X : Cx} {x n : Str} {c : Value} {i : Nat} {body suite : List Stmt} {b₀ : Stmt} {np pos pos' : Pos} {tb : WX → TS} {ts : TS}
/-- the clause is looked at -/
theorem look_clause {pins : List (Addr × Obj)} {σ : L2.St} {H : Hp} {a : Addr} {cls : Value} {d : Option Addr} {B h : Heap} {s : Shared} {D : Ends} (ok : X.Ok) (hf : X.env.frame = some X.env.locals) (hN : X.N.Nodup) (hi : X.N[i]? = some n) (hln : X.env.kindOf n = some .local) (hc : Names X x c)
    (hsu : ∀ (a : Addr) (pn : List (Addr × Obj)), PSs (X.suite a pn) (b₀ :: suite) ts) (dn : Down X pins σ H a cls d B h s) (w : wKept X.K c i ts D cls d σ H) :
    wpAny (model X.prog X.w) X.A (handleBy (.ref a) X.env [.ExceptHandler (some (.Name x np)) (some n) (b₀ :: suite) pos']) (SP X pins D) X.xe { s with heap := h } := by
  have here : Inv X pins σ H { s with heap := h } := dn.inv h dn.fly (Heap.UpToSlots.refl h)
  obtain ⟨oe, vs, ge, ze, de⟩ := dn.fly.there
  have cls_is : PySem.W.Looks (model X.prog X.w) h (typeOf (.ref a)) cls := fun A Q E t k q => wpAny_typeOf_ref (k a oe ge) (ze.1.symm ▸ q)
  have name : ∀ {Q : Value → Shared → Prop} {E : Value → Shared → Prop}, Q c { s with heap := h } → wpAny (model X.prog X.w) (X.A.mark (some (.ref a))) (eval (.Name x np) X.env) Q E { s with heap := h } := fun q =>
    match hc with
    | ⟨g, nd, .inl m⟩ => ld_glob (X := X.suite a (X.pn ++ pins)) (go_in here) g m q nd
    | ⟨g, nd, .inr ⟨m, v, nn⟩⟩ => ld_blt (X := X.suite a (X.pn ++ pins)) (go_in here) g m v q nn nd
  refine wpAny_handleBy_cons (codeAny_handlers_test (name ?_)) nofun
  obtain ⟨hit, w⟩ := w
  · refine (PySem.W.exm_one (M := model X.prog X.w) here.kIn cls_is hit).here (codeAny_handlers_suite_as (HandSPX.lands_againZ dn.fly fun h' fl' up' => ?_))
    obtain ⟨oe', vs', ge', ze', de'⟩ := fl'.there
    have known : Inv X pins σ (upd H a (XcO a cls d)) { s with heap := h' } :=
      learn dn.room (dn.inv h' fl' up') ⟨⟨oe', vs', ge', ze', de'⟩, ⟨oe', ge'⟩, fun _ _ ⟨o, v, g, z, e⟩ k => ⟨o, v, k o g, z, e⟩⟩
    refine store_ok (X := X.suite a (X.pn ++ pins)) (v := .ref a) (go_in known) hN hi (.inl hln) rfl (fun s5 J5 => ?_) (.inr hln)
    have run := (hsu a (X.pn ++ pins)).run [] s5 _ _ (lessE D i) J5 (w a dn.room.led)
    refine wpAny_mono run (fun f s6 e6 => ?_) fun _ _ z => z.elim
    have out : ∀ {σ6 : L2.St} {H6 : Hp} {Q : Shared → Prop}, Inv (X.suite a (X.pn ++ pins)) [] σ6 H6 s6 → (∀ s7, Inv X pins (σ6.set i none) H6 s7 → Q s7) → wpAny (model X.prog X.w) X.A (do bindName X.env n .none; unbindBehindTheSuite X.env n pos') (fun _ => Q) X.xe s6 := fun J q => gone_ok (go_out ok J) hN hi hln q
    match f, e6 with
    | .next, ⟨_, _, J, q⟩ => exact out J fun _ J' => ⟨_, _, J', q⟩
    | .brk, ⟨_, _, J, q⟩ => exact out J fun _ J' => ⟨_, _, J', q⟩
    | .cont, ⟨_, _, J, q⟩ => exact out J fun _ J' => ⟨_, _, J', q⟩
    | .ret u, ⟨_, _, _, J, r, q⟩ => exact out J fun _ J' => ⟨_, _, _, J', r, q⟩
/-- try: body / except x as n: suite, the exception kept -/
theorem ps_try_kept (hs : X.stack = X.env :: X.outer) (hf : X.env.frame = some X.env.locals) (hex : X.ex = []) (hN : X.N.Nodup) (hi : X.N[i]? = some n) (hln : X.env.kindOf n = some .local) (hc : Names X x c)
    (hb : ∀ (W : WX) (pn : List (Addr × Obj)) (xe : Value → Shared → Prop), Takes (X.tr pn xe) W → PSs (X.tr pn xe) body (tb W)) (hsu : ∀ (a : Addr) (pn : List (Addr × Obj)), PSs (X.suite a pn) (b₀ :: suite) ts) :
    PS X (.Try body [.ExceptHandler (some (.Name x np)) (some n) (b₀ :: suite) pos'] [] [] pos) (fun D => tb (wKept X.K c i ts D) D) where
  run pins s σ H D I h := by
    have caught : Takes (X.tr (X.pn ++ pins) _) (wKept X.K c i ts D) := fun u s' air => come_down I.ok hs hf hex air fun a σ' H' cls d B g e w dn => by
      exact look_clause (pos' := pos') (np := np) I.ok hf hN hi hln hc hsu dn w
    refine wpAny_Try_except (wpAny_mono ((hb _ _ _ caught).run [] s σ H D (I.toTry _) h) (fun f s1 e1 => ?_) fun _ _ z => z)
    match f, e1 with
    | .next, ⟨_, _, J, q⟩ => exact wpAny_execs_nil ⟨_, _, J.ofTry I.ok, q⟩
    | .brk, ⟨_, _, J, q⟩ => exact ⟨_, _, J.ofTry I.ok, q⟩
    | .cont, ⟨_, _, J, q⟩ => exact ⟨_, _, J.ofTry I.ok, q⟩
    | .ret u, ⟨_, _, _, J, r, q⟩ => exact ⟨_, _, _, J.ofTry I.ok, r, q⟩
end
end Ev

/-! ## A kept exception: its class, its field -/
namespace Ev
open PySem PySem.Spec PyProof.Rows L2
/-- what is written of an error class -/
structure ErrC (K : PySem.W.Frag) (C : Addr) : Prop where
  ox : OexC K C
  ga : PySem.W.findIn K (.ref C) "__getattribute__" = some (some (.builtin "BaseException.__getattribute__"))
  gt : PySem.W.findIn K (.ref C) "__getattr__" = some none
  ac : PySem.W.findIn K (.ref C) "__class__" = some (some (.builtin "object.__class__"))
  gs : PySem.W.specialIn K (.builtin "object.__class__") "__get__" = some (some (.builtin "getset_descriptor.__get__"))
  tk : PySem.W.takesIn K (.builtin "object.__class__") = some true
  mo : PySem.W.mroIn K C (.type "object") = some true
  cl : (PySem.W.clsIn K C).isSome = true
  hd : PySem.W.hasDictIn K C = true
/-- a kept exception of class C, with these fields (no dict where there are none) -/
def Kept (H : Hp) (a C : Addr) (fs : Option (List (Str × V))) : Prop := ∃ d : Option Addr, H a = some (XcO a (.ref C) d) ∧ match d, fs with
  | some d, some fs => H d = some (.xd fs)
  | none, none => True
  | _, _ => False
section
variable {X : Cx} {pins : List (Addr × Obj)} {σ : L2.St} {H : Hp} {s : Shared} {a C : Addr} {fs : Option (List (Str × V))}
/-- where it stands -/
theorem Kept.inst (I : Inv X pins σ H s) (k : Kept H a C fs) : ∃ (o : Obj) (od : Option Obj), PySem.W.InstAt s.heap a o C od ∧ ∀ l, fs = some l → ∃ (d : Addr) (mA : Str → Option Value), o.dict = some d ∧ s.heap.Ns1 d mA ∧ ∀ f, RelO (l.lookup f) (mA f) := by
  obtain ⟨d, ea, m⟩ := k
  obtain ⟨⟨o, vs, ho, hz, hd⟩, _⟩ := I.hok a _ ea
  match d, fs, m with
  | none, none, _ => exact ⟨o, none, ⟨ho, hz.1, by unfold PySem.W.notCls; rw [hd], by rw [hz.2]; trivial⟩, nofun⟩
  | some d, some l, m =>
    obtain ⟨mA, ns, rel⟩ := I.hok d _ m
    obtain ⟨od, hod, _⟩ := lookIn_ns ns
    exact ⟨o, some od, ⟨ho, hz.1, by unfold PySem.W.notCls; rw [hd], by rw [hz.2]; exact hod⟩, fun l' e => by cases e; exact ⟨d, mA, hz.2, ns, rel⟩⟩
theorem Kept.kit (I : Inv X pins σ H s) (k : Kept H a C fs) (T : ErrC X.K C) : ∃ P : Heap → Prop, PySem.W.KitX X.K (.ref a) (.ref C) P ∧ P s.heap := by
  obtain ⟨o, od, at_, _⟩ := k.inst I
  exact ⟨_, PySem.W.kitx_exc (ox := o) (od := od) T.cl T.ga T.gt T.ox.exC T.ac T.gs T.tk T.mo, at_⟩
end
/-- isinstance(kept, c), isinstance(kept, (c, ..)) -/
def rIsK (K : PySem.W.Frag) : List V → Hp → VK → Prop := fun xs H Q => ∃ (a C : Addr) (fs : Option (List (Str × V))) (c : V) (u : Value) (b : Bool), xs = [.ref a, c] ∧ Kept H a C fs ∧ ErrC K C ∧ ClsV c u ∧ PySem.W.kitOne K (.ref C) u = some b ∧ Q (.bl b) H
def rIsKT (K : PySem.W.Frag) : List V → Hp → VK → Prop := fun xs H Q => ∃ (a C : Addr) (fs : Option (List (Str × V))) (t : Addr) (cs : List V) (us : List Value) (b : Bool), xs = [.ref a, .ref t] ∧ Kept H a C fs ∧ ErrC K C ∧ H t = some (.tup cs) ∧ Paired ClsV cs us ∧ PySem.W.kitAny K (.ref C) us = some b ∧ Q (.bl b) H
/-- kept.f -/
def tAtK (K : PySem.W.Frag) (f : Str) (te : TE) : TE := fun σ H Q => te σ H fun x H1 => ∃ (a C : Addr) (l : List (Str × V)) (v : V), x = .ref a ∧ Kept H1 a C (some l) ∧ ErrC K C ∧ PySem.W.findIn K (.ref C) f = some none ∧ l.lookup f = some v ∧ Q v H1
section
variable {X : Cx}
theorem call_isK : CallR X (.builtin "isinstance") (rIsK X.K) := by
  rintro pins s σ H _ us Q I rel ⟨a, C, fs, c, u, b, rfl, kept, T, isC, kit, q⟩
  obtain ⟨v1, v2, rfl, r1, r2⟩ := vals2 rel
  cases r1
  cases isC.eq r2
  obtain ⟨P, Z, p⟩ := kept.kit I T
  exact PySem.W.kia_one Z I.kIn p kit nofun fun tk => ⟨.bl b, H, I.tok tk, rfl, q⟩
theorem call_isKT : CallR X (.builtin "isinstance") (rIsKT X.K) := by
  rintro pins s σ H _ us Q I rel ⟨a, C, fs, t, cs, ws, b, rfl, kept, T, tup, isC, kit, q⟩
  obtain ⟨v1, v2, rfl, r1, r2⟩ := vals2 rel
  cases r1
  cases r2
  obtain ⟨P, Z, p⟩ := kept.kit I T
  obtain ⟨_, its, vals, ⟨oc, od, dt, sl⟩, g, e1, n, e2⟩ := I.hok t _ tup
  cases (show oc = Value.type "tuple" from e1)
  cases (show dt = Data.seq its.toArray n from e2)
  cases ClsV.all isC vals
  exact PySem.W.kia_tup Z I.kIn p g kit nofun fun tk => ⟨.bl b, H, I.tok tk, rfl, q⟩
theorem pe_atK {e : Expr} {te : TE} {f : Str} {pos : Pos} (he : PE X e te) (hb : attributeBase e f X.env (eval e X.env) = eval e X.env := by rfl) : PE X (.Attribute e f pos) (tAtK X.K f te) where
  run pins s σ H Q I h := by
    refine attr_of hb (thn (he.run pins s σ H _ I h) ?_)
    rintro u s1 ⟨x, H1, I1, rx, a, C, l, v, rfl, kept, T, no, lk, q⟩
    cases rx
    obtain ⟨d, ea, m⟩ := kept
    obtain ⟨⟨o, vs, ho, hz, hd⟩, _⟩ := I1.hok a _ ea
    match d, m with
    | some d, m =>
      obtain ⟨mA, ns, rel⟩ := I1.hok d _ m
      obtain ⟨od, hod, look⟩ := lookIn_ns ns
      obtain ⟨w, hw, rw'⟩ := RelO.some_of (v := v) (o := mA f) (lk ▸ rel f)
      have at_ : PySem.W.InstAt s1.heap a o C (some od) := ⟨ho, hz.1, by unfold PySem.W.notCls; rw [hd], by rw [hz.2]; exact hod⟩
      exact HandSPX.exc_get I1.kIn at_ T.ga T.gt T.ox.exC (PySem.W.findObj_own T.hd no rfl ((look f).trans (hw ▸ rfl))) (handed_of rw') ⟨v, H1, I1.tok _, rw', q⟩
end
end Ev

/-! ## Defs that may raise -/
namespace Ev
open PySem PySem.Spec PyProof.Rows L2
/-- a def that keeps a promise or raises, ready to be called -/
structure CalX (P : Program) (w : World) (K : PySem.W.Frag) (mg : Str → Option Value) (base : Heap) (k : Nat) (x : Str) (ps : List Str) (sp : Sp) : Prop where
  ex : ∃ (f : Addr) (fd : FuncData), FnG P w K mg base (L2.CX P w) k f fd ps sp ∧ Binds K fd ps [] ∧ mg x = some (.ref f) ∧ PySem.W.keepIn K (.ref f) = true
section
variable {P : Program} {w : World} {K : PySem.W.Frag} {mg : Str → Option Value} {base : Heap} {x : Str} {st : Stmt} {ps N : List Str} {sp : Sp} {k : Nat}
theorem Def.okX (D : Def K mg x st ps) (S : FnScope N ps (defScope st)) (len : ∀ vs H Q E, sp vs H Q E → vs.length = ps.length)
    (walk : ∀ (f : Addr) (cdv : Value) (A : Around) (outer : List Env) (s : Shared) (H : Hp) (vs : List V) (Q : VK) (E : XK), Room k (A.deeper (envOfC x (defScope st) s.heap.objs.size f cdv)) → A.guards = some [] → sp vs H Q E →
      ∃ t, PSs (cxOf (L2.CX P w) P w K mg base N x (defScope st) f cdv A outer s H E) (defBody st) t ∧ t { nx := fun _ H' => Q .non H', rt := Q } (start N vs) H) : CalX P w K mg base (k + 1) x ps sp := by
  obtain ⟨f, fd, F, b, m⟩ := D.ex
  obtain ⟨oc, od, kV, doc, pm, an, cdv, ct, osl, e, lk, hcd⟩ := id F.ex
  cases e
  exact ⟨f, _, fnG_of lk hcd S len fun A outer s H vs Q E hr gd h => walk f cdv A outer s H vs Q E hr gd h, b, m, F.kp⟩
end
section
variable {X : Cx} {k : Nat} {ps : List Str} {sp : Sp} {x : Str} {p pos : Pos} {e : Expr} {es : List Expr} {t : TA} {W : WX}
/-- f(e, ..), where W takes what f raises -/
theorem pcallX (C : CalX X.prog X.w X.K X.mg X.base k x ps sp) (hr : Room k X.A) (gd : X.A.guards = some []) (hg : Gl X x) (tk : Takes X W) (ha : PA X (e :: es) t)
    (hdb : (x == ("__debug__" : Str)) = false := by decide) (he : starEach (e :: es) X.env = (false, eval e X.env) :: starEach es X.env := by rfl) (hpl : (backTo pos (starEach es X.env)).any (·.1) = false := by rfl) :
    PE X (.Call (.Name x p) (e :: es) [] pos) (tCallS sp (WE W) t) where
  run pins s σ H Q I h := by
    obtain ⟨f, fd, F, hb, hm, hk⟩ := C.ex
    have args := ha.run pos pins s σ H _ I h
    refine wpAny_Call_Name_kw (ld_glob I hg hm (PySem.W.callWith_K (h₀ := X.base) I.ok.mod.kin hk (thn args ?_) he hpl) hdb)
    rintro us s1 ⟨vs, H1, I1, rel, q⟩
    have l : us.length = ps.length := (rel.length).symm.trans (F.many _ _ _ _ q)
    have bound := hb s1 us I1.kIn (by rw [List.append_nil]; exact l)
    rw [List.append_nil] at bound
    refine ⟨I1.kIn, wpAny_call (codeAny_mono (F.go X.A X.stack s1 H1 ⟨us, []⟩ us vs Q (WE W σ) hr gd I1.env0 bound rel q) fun res s2 out => ?_)⟩
    match res, out with
    | .error er, out => exact passAt tk σ pins H1 s1 er s2 I1 out
    | .ok (.ret v), out => exact I1.after out
end
end Ev

/-! ## raise C(v), C an error class with one field or none -/
namespace Ev
open PySem PySem.Spec PyProof.Rows L2
section
variable {X : Cx} {o e : Expr} {es : List Expr} {to te : TE} {ta : TA} {f x : Str} {p p' p1 p2 pos : Pos}
/-- S.__init__(self, ..) of an own class S that has none itself -/
theorem pe_seInit {pl : Sem Bool} {S : Addr} (hg : Gl X x) (hm : X.mg x = some (.ref S))
    (sg : PySem.W.specialIn X.K (.ref S) "__getattribute__" = some (some (.builtin "type.__getattribute__")))
    (rd : PySem.W.readsIn X.K S (.type "type") = true)
    (vV : PySem.W.findCls X.K (.ref S) (.type "type") "__init__" = some (.val (.builtin "ValueError.__init__")))
    (ha : PA X (e :: es) ta) (hdb : (x == ("__debug__" : Str)) = false := by decide)
    (hc : eval (.Call (.Attribute (.Name x p1) "__init__" p2) (e :: es) [] pos) X.env = (eval (.Name x p1) X.env >>= fun ov =>
      standAt p2.atName >>= fun _ => holding [ov] (getMethod ov "__init__" pl) >>= fun fx =>
      callWith pos fx.1 fx.2 (backTo pos (starEach (e :: es) X.env)) (backToKw pos (keywordEach [] X.env))) := by rfl)
    (he : starEach (e :: es) X.env = (false, eval e X.env) :: starEach es X.env := by rfl)
    (hpl : (backTo pos (starEach es X.env)).any (·.1) = false := by rfl) :
    PE X (.Call (.Attribute (.Name x p1) "__init__" p2) (e :: es) [] pos) (tVeI X.K ta) := by
  constructor
  intro pins s σ H Q I h
  refine PySem.W.methodCall_KW (ld_glob I hg hm ?_ hdb) hc
  refine PySem.W.method_cls I.kIn sg (PySem.W.cls_value (mc := .type "type") I.kIn rd vV (by decide +kernel) ?_)
  have z := ha.run pos pins _ σ H _ (I.tok (s.toks + 1)) h
  refine PyProof.Rows.callWith_method1 (first := []) (thn z ?_) he hpl
  rintro us s1 ⟨vs, H1, I1, r1, a, C, ws, ev, hl, T, ea, q⟩
  subst ev
  cases r1 with
  | @cons _ u0 _ ur ra rt =>
    obtain rfl : u0 = Value.ref a := ra
    have hlen : ur.length ≤ sizeLine := by
      have z := Paired.length rt
      have y := sizeLine_eq
      omega
    exact oinit_ok T I1 ea hlen fun s' J => ⟨.non, H1, J, rfl, q⟩

end
/-- the errors' common base -/
structure BaseT (K : PySem.W.Frag) (mg : Str → Option Value) (S : Addr) : Prop where
  g : mg "SampleError" = some (.ref S)
  sg : PySem.W.specialIn K (.ref S) "__getattribute__" = some (some (.builtin "type.__getattribute__"))
  rd : PySem.W.readsIn K S (.type "type") = true
  vV : PySem.W.findCls K (.ref S) (.type "type") "__init__" = some (.val (.builtin "ValueError.__init__"))
def spInit1 (C : Addr) (f : Str) : Sp := fun vs H Q _ => ∃ (a : Addr) (v : V), vs = [.ref a, v] ∧ H a = some (exo a C none) ∧ ∀ dx, H dx = none → dx ≠ a → Q .non (upd (upd H dx (exd dx [(f, v)])) a (exo a C (some dx)))
/-- an error class with the field f, ready to be raised -/
structure Err1 (P : Program) (w : World) (K : PySem.W.Frag) (mg : Str → Option Value) (base : Heap) (x : Str) (C : Addr) (f : Str) : Prop where
  g : mg x = some (.ref C)
  cls : ErrC K C
  fld : PySem.W.findIn K (.ref C) f = some none
  ini : ∃ (fI : Addr) (fd : FuncData), PySem.W.findIn K (.ref C) "__init__" = some (some (.ref fI)) ∧ PySem.W.typeIn K (.ref fI) = some (.type "function") ∧ FnOk P w K mg base CX0 1 fI fd ["self", f] (spInit1 C f) ∧ Binds K fd ["self", f] []
theorem field_only {H : Hp} {a d : Addr} {C : Addr} {f : Str} {v : V} (na : H a = none) (da : d ≠ a) : upd (del (upd (upd (upd H a (exo a C none)) d (exd d [(f, v)])) a (exo a C (some d))) a) d (.xd [(f, v)]) = upd H d (.xd [(f, v)]) := by
  funext b
  by_cases hd : b = d
  · subst hd
    rw [upd_same, upd_same]
  · rw [upd_ne hd, upd_ne hd]
    by_cases ha : b = a
    · subst ha
      exact del_same.trans na.symm
    · rw [del_ne ha, upd_ne ha, upd_ne hd, upd_ne ha]
section
variable {X : Cx} {x : Str} {C : Addr} {f : Str} {e : Expr} {te : TE} {W : WX} {p pos pos' : Pos}
/-- raise C(e): the exception's own dict d holds the field -/
theorem ps_raise1 (R : Err1 X.prog X.w X.K X.mg X.base x C f) (hc : X.calm = true) (hr : Room 2 X.A) (hg : Gl X x) (tk : Takes X W) (he : PE X e te) (hdb : (x == ("__debug__" : Str)) = false := by decide)
    (h1 : starEach [e] X.env = (false, eval e X.env) :: starEach [] X.env := by rfl) : PS X (.Raise (some (.Call (.Name x p) [e] [] pos)) none pos') (fun _ σ H => tMkO C (spInit1 C f) [] (tCons te tNil) σ H fun cls d H' => W cls d σ H') := by
  obtain ⟨fI, fd, iC, tI, F, b⟩ := R.ini
  exact ps_raise hc tk (pmk_oex (pos := pos) (p := p) R.cls.ox iC tI F hr b .nil pass0 hg R.g (pa_cons he pa_nil h1) hdb h1 rfl)
theorem raise1_go {H : Hp} {v : V} {Q : XK} (q : ∀ d, H d = none → Q (.ref C) (some d) (upd H d (.xd [(f, v)]))) : [v].length ≤ 1000 ∧ ∀ a, H a = none → spInit1 C f (.ref a :: ([v] ++ [])) (upd H a (exo a C none))
    (fun u H2 => u = .non ∧ ∃ (d : Addr) (fs : List (Str × V)), H2 a = some (exo a C (some d)) ∧ H2 d = some (exd d fs) ∧ H d = none ∧ Q (.ref C) (some d) (upd (del H2 a) d (.xd fs))) (fun _ _ _ => False) := by
  refine ⟨(by show 1 ≤ 1000; decide), fun a na => ⟨a, v, rfl, upd_same, fun d nd da => ⟨rfl, d, [(f, v)], upd_same, ?_, ?_, ?_⟩⟩⟩
  · rw [upd_ne da]
    exact upd_same
  · rw [upd_ne da] at nd
    exact nd
  · rw [field_only na da]
    rw [upd_ne da] at nd
    exact q d nd
end
end Ev

/-! ## Slices with steps; sorted lists of texts -/
namespace Ev
open PySem PySem.Spec PyProof.Rows L2
/-- sorted(xs), texts, any number of them -/
def rSortedSA (K : PySem.W.Frag) : List V → Hp → VK → Prop := fun vs H Q => ∃ (a : Addr) (xs : List Str), vs = [V.ref a] ∧ SqL K H a (xs.map V.str) ∧ ∀ p, H p = none → Q (.ref p) (upd H p (.lst ((srtS xs).map V.str)))
section
variable {X : Cx}
theorem cr_sortedSA : CallR X (.builtin "sorted") (rSortedSA X.K) := by
  intro pins s σ H vs us Q I r h
  obtain ⟨a, xs, rfl, hs, q⟩ := h
  obtain ⟨its, rv, hl, hz⟩ := I.list hs
  rw [Vals.ref1 r]
  have hlen0 := rv.length
  rw [List.length_map] at hlen0 hz
  refine PyProof.Rows.sorted_strsAny hl.isList rv.strs (by omega) fun out ys h1 h2 h3 => ?_
  obtain ⟨ep, he'⟩ := PyProof.Rows.sortedAll_at s.heap its out
  have hlen : (ys.map V.str).length ≤ sizeLine := by rw [List.length_map, h2.length_eq]; exact hz
  rw [← srt_is h2 h3] at q
  exact ⟨.ref _, upd H (s.heap.objs.size + 1) (.lst (ys.map V.str)), I.laid (t' := s.toks) (fun _ _ => PyProof.Rows.sortedAll_old) (Nat.le_succ _) ⟨hlen, out.toList, ep, vals_of_strs h1, he'⟩, rfl, q _ (I.hok.fresh (Nat.le_succ _))⟩
end
/-! ### xs[a:b:c] -/
def pickX {α : Type} (xs : List α) (lo hi st : Option Int) : List α := (sliceRange (sliceBounds lo hi st xs.length).1 (sliceBounds lo hi st xs.length).2.1 (sliceBounds lo hi st xs.length).2.2).filterMap (xs[·]?)
theorem vals_pick {xs : List V} {us : List Value} (r : Vals xs us) : ∀ l : List Nat, Vals (l.filterMap (xs[·]?)) (l.filterMap (us[·]?))
  | [] => .nil
  | i :: l => by
    have ih := vals_pick r l
    have hl := r.length
    by_cases h : i < xs.length
    · have e1 := List.getElem?_eq_getElem h
      obtain ⟨u, hu, ru⟩ := r.get e1
      rw [List.filterMap_cons_some (f := (xs[·]?)) e1, List.filterMap_cons_some (f := (us[·]?)) hu]
      exact .cons ru ih
    · rw [List.filterMap_cons_none (f := (xs[·]?)) (List.getElem?_eq_none (by omega)), List.filterMap_cons_none (f := (us[·]?)) (List.getElem?_eq_none (by omega))]
      exact ih
def tSl3 (K : PySem.W.Frag) (te : TE) (tl tu ts : TO) : TE := fun σ H Q => te σ H fun x H1 => tl σ H1 fun lo H2 => tu σ H2 fun hi H3 => ts σ H3 fun st H4 => ∃ a xs, x = .ref a ∧ SqL K H4 a xs ∧ st ≠ some 0 ∧
  ∀ p, H4 p = none → Q (.ref p) (upd H4 p (.lst (pickX xs lo hi st)))
section
variable {X : Cx}
theorem pe_slice3 {e : Expr} {ol ou os : Option Expr} {te : TE} {tl tu ts : TO} {p3 pos : Pos} (he : PE X e te) (hl : PO X ol tl) (hu : PO X ou tu) (hs : PO X os ts)
    (ht : ∀ (a : Addr) (b : Addr) , subscripted (.Slice ol ou os p3) false (.ref a) (.ref b) = operate [.ref a, .ref b] (getItem (.ref a) (.ref b)) := by intros; with_unfolding_all rfl) : PE X (.Subscript e (.Slice ol ou os p3) pos) (tSl3 X.K te tl tu ts) := by
  refine ⟨fun pins s σ H Q I h => ?_⟩
  refine Subscript_ (thn (he.run pins s σ H _ I h) fun v s1 ⟨x, H1, I1, r1, q1⟩ => ?_)
  refine wpAny_Slice (thn (hl.run pins s1 σ H1 _ I1 q1) fun vl s2 ⟨l, H2, I2, pl, q2⟩ => ?_)
  refine thn (hu.run pins s2 σ H2 _ I2 q2) fun vu s3 ⟨u, H3, I3, pu, q3⟩ => ?_
  refine thn (hs.run pins s3 σ H3 _ I3 q3) fun vs s4 ⟨o, H4, I4, ps, q4⟩ => ?_
  obtain ⟨a, xs, ex, hx, h0, q⟩ := q4
  subst ex
  cases r1
  have I5 : Inv X pins σ H4 { s4 with heap := s4.heap.push { cls := .type "slice", data := .fields #[vl, vu, vs] } } := I4.kept (t' := s4.toks) fun b ob q => Heap.get?_push_of_some _ q
  obtain ⟨its, r, hT, hz⟩ := I5.list hx
  have hlen := r.length
  show wpAny (model X.prog X.w) X.A (subscriptTail e (.Slice ol ou os p3) (.ref a) (.ref s4.heap.objs.size)) (EP X pins σ Q) X.xe { s4 with heap := s4.heap.push { cls := .type "slice", data := .fields #[vl, vu, vs] } }
  refine tail_any (ops := [.ref a, .ref s4.heap.objs.size]) hT.isList.typeIs (PySem.slot_list_getitem.lookup) ?_ (ht _ _)
  refine wpAny_getItem_list_slice hT.isList (Heap.IsSliceOf.new _ vl vu vs) pl pu ps h0 ?_ (by rw [List.size_toArray]; omega)
  have ep : slicePick its.toArray l u o = (pickX its l u o).toArray := by
    unfold slicePick pickX
    rw [List.size_toArray]
    simp only [List.getElem?_toArray]
  rw [ep]
  have hv : Vals (pickX xs l u o) (pickX its l u o) := by
    unfold pickX
    rw [← hlen]
    exact vals_pick r _
  have hpl : (pickX xs l u o).length ≤ sizeLine := by
    have z := slicePick_size_le its.toArray l u o
    rw [ep, List.size_toArray, List.size_toArray] at z
    have := hv.length
    omega
  refine ⟨.ref _, _, I5.laid (t' := s4.toks) (o := .lst (pickX xs l u o)) (fun b ob q => Heap.get?_push_of_some _ q) (Nat.le_refl _) ?_, rfl, q _ (I5.hok.fresh (Nat.le_refl _))⟩
  exact ⟨hpl, _, 0, hv, Heap.get?_push_size _ rfl⟩
end
/-! ### classes of a row -/
def clsL (m c k : Nat) : List Nat := (List.range k).filter fun i => decide (i % m = c)
theorem cls_count {n : Str} {m c : Nat} (w : List Str) : ∀ k, k ≤ w.length → (((clsL m c k).filterMap (w[·]?)).count n : Int) = cf n m c (w.take k) 0
  | 0, _ => by
    rw [List.take_zero]
    rfl
  | k + 1, h => by
    have ih := cls_count (n := n) (m := m) (c := c) w k (by omega)
    have e := List.getElem?_eq_getElem (show k < w.length by omega)
    have e1 : clsL m c (k + 1) = clsL m c k ++ if k % m = c then [k] else [] := by
      unfold clsL
      rw [List.range_succ, List.filter_append]
      congr 1
      by_cases h' : k % m = c
      · rw [if_pos h']
        exact List.filter_cons_of_pos (p := fun i => decide (i % m = c)) (decide_eq_true h')
      · rw [if_neg h']
        exact List.filter_cons_of_neg (p := fun i => decide (i % m = c)) (by rw [decide_eq_false h']; exact Bool.false_ne_true)
    rw [e1, List.filterMap_append, List.count_append, List.take_add_one, e, cf_app, List.length_take, Nat.min_eq_left (by omega), ← ih]
    show _ = _ + ((if w[k] = n ∧ (0 + k) % m = c then 1 else 0) + 0)
    rw [Nat.zero_add]
    by_cases h' : k % m = c
    · rw [if_pos h', List.filterMap_cons_some (f := (w[·]?)) e, List.filterMap_nil, List.count_singleton]
      by_cases h2 : w[k] = n
      · rw [if_pos (beq_iff_eq.mpr h2), if_pos ⟨h2, h'⟩]
        omega
      · rw [if_neg (fun z => h2 (beq_iff_eq.mp z)), if_neg (fun z => h2 z.1)]
        omega
    · rw [if_neg h', if_neg (fun z => h' z.2), List.filterMap_nil, List.count_nil]
      omega
theorem range_cls {m c N : Nat} (hm : 0 < m) (hc : c < m) : (sliceRange (max 0 (min (c : Int) N)) N m).Perm (clsL m c N) := by
  by_cases hN : c < N
  · have ea : max 0 (min (c : Int) N) = (c : Int) := by omega
    have eq : sliceRange (max 0 (min (c : Int) N)) N m = (List.range ((N - c + m - 1) / m)).map fun k => c + m * k := by
      rw [ea]
      unfold sliceRange
      dsimp only
      rw [if_pos (show (m : Int) > 0 by omega), if_pos (show (c : Int) < N by omega)]
      have e1 : ((N : Int) - c + m - 1) / m = (((N - c + m - 1) / m : Nat) : Int) := by
        rw [Int.natCast_ediv]
        congr 1
        omega
      rw [e1, Int.toNat_natCast]
      refine List.map_congr_left fun k _ => ?_
      rw [show (c : Int) + (m : Int) * (k : Int) = ((c + m * k : Nat) : Int) by rw [Int.natCast_add, Int.natCast_mul], Int.toNat_natCast]
    rw [eq]
    refine (List.perm_ext_iff_of_nodup ?_ ?_).mpr fun x => ?_
    · refine List.Pairwise.map _ ?_ (List.nodup_range (n := (N - c + m - 1) / m))
      intro a b hab e
      exact hab (Nat.eq_of_mul_eq_mul_left hm (by omega))
    · exact List.Pairwise.filter _ (List.nodup_range (n := N))
    · rw [List.mem_map]
      unfold clsL
      rw [List.mem_filter, List.mem_range, decide_eq_true_iff]
      constructor
      · rintro ⟨k, hk, rfl⟩
        have hk := (Nat.lt_div_iff_mul_lt hm).mp (List.mem_range.mp hk)
        rw [Nat.mul_comm] at hk
        exact ⟨by omega, by rw [Nat.add_mul_mod_self_left, Nat.mod_eq_of_lt hc]⟩
      · rintro ⟨h1, h2⟩
        have e := Nat.div_add_mod x m
        refine ⟨x / m, List.mem_range.mpr ((Nat.lt_div_iff_mul_lt hm).mpr ?_), by omega⟩
        rw [Nat.mul_comm]
        omega
  · have ea : max 0 (min (c : Int) N) = (N : Int) := by omega
    have e1 : sliceRange (max 0 (min (c : Int) N)) N m = [] := by
      rw [ea]
      unfold sliceRange
      dsimp only
      rw [if_pos (show (m : Int) > 0 by omega), if_neg (show ¬ (N : Int) < N by omega)]
      rfl
    have e2 : clsL m c N = [] := by
      unfold clsL
      rw [List.filter_eq_nil_iff]
      intro i hi h
      have h := of_decide_eq_true h
      have hi := List.mem_range.mp hi
      have := Nat.mod_le i m
      omega
    rw [e1, e2]
/-- xs[c::m] is the class of c -/
theorem pick_cls {w : List Str} {m c : Nat} (hm : 0 < m) (hc : c < m) : (pickX w (some (c : Nat)) none (some (m : Nat))).Perm ((clsL m c w.length).filterMap (w[·]?)) := by
  unfold pickX
  have e : sliceBounds (some ((c : Nat) : Int)) none (some ((m : Nat) : Int)) w.length = (max 0 (min (c : Int) w.length), (w.length : Int), (m : Int)) := by
    unfold sliceBounds
    dsimp only
    rw [Option.getD_some, if_pos (show (m : Int) > 0 by omega), if_pos (show (m : Int) > 0 by omega), if_neg (show ¬ (c : Int) < 0 by omega)]
  rw [e]
  exact (range_cls hm hc).filterMap _
theorem pick_count {w : List Str} {n : Str} {m c : Nat} (hm : 0 < m) (hc : c < m) : ((pickX w (some (c : Nat)) none (some (m : Nat))).count n : Int) = cf n m c w 0 := by
  rw [(pick_cls hm hc).count_eq, cls_count w w.length (Nat.le_refl _), List.take_length]
theorem pick_map (w : List Str) (lo hi st : Option Int) : pickX (w.map V.str) lo hi st = (pickX w lo hi st).map V.str := by
  unfold pickX
  rw [List.length_map, List.map_filterMap]
  congr 1
  funext i
  exact List.getElem?_map
/-! ### lists of texts as data -/
theorem eqv_strs : ∀ xs ys : List Str, PyData.eqvAll (xs.map PyData.str) (ys.map PyData.str) = decide (xs = ys)
  | [], [] => by
    rw [List.map_nil, PyData.eqvAll]
    rfl
  | [], _ :: _ => by
    rw [List.map_nil, List.map_cons, PyData.eqvAll]
    · rfl
    all_goals (intros; contradiction)
  | _ :: _, [] => by
    rw [List.map_nil, List.map_cons, PyData.eqvAll]
    · rfl
    all_goals (intros; contradiction)
  | x :: xs, y :: ys => by
    rw [List.map_cons, List.map_cons, PyData.eqvAll, eqv_strs xs ys, PyData.eqv]
    by_cases h1 : x = y
    · by_cases h2 : xs = ys
      · rw [decide_eq_true h2, h1, h2]
        simp
      · rw [decide_eq_false h2, decide_eq_false (fun z => h2 (List.cons.inj z).2), Bool.and_false]
    · rw [decide_eq_false (fun z => h1 (List.cons.inj z).1)]
      simp [h1]
theorem eqv_lstr (xs ys : List Str) : PyData.eqv (.list (xs.map PyData.str)) (.list (ys.map PyData.str)) = decide (xs = ys) := by
  rw [PyData.eqv, eqv_strs]
theorem lay_strs {w : List Str} (h : ∀ x ∈ w, PyData.strOk x = true) : SeqAt.shaped (.list (w.map PyData.str)) = true := by
  have h1 : PyData.canLayAll0 (w.map PyData.str) = true ∧ PyData.depthAll (w.map PyData.str) = 0 := by
    induction w with
    | nil => exact ⟨by rw [List.map_nil, PyData.canLayAll0], by rw [List.map_nil, PyData.depthAll]⟩
    | cons x w ih =>
      obtain ⟨i1, i2⟩ := ih fun z hz => h z (List.mem_cons_of_mem _ hz)
      refine ⟨?_, ?_⟩
      · rw [List.map_cons, PyData.canLayAll0, i1, PyData.canLay0, h x (List.mem_cons_self ..)]
        rfl
      · rw [List.map_cons, PyData.depthAll, i2, PyData.depth]
        rfl
  unfold SeqAt.shaped
  rw [PyData.canLay0, h1.1, PyData.depth, h1.2]
  rfl
theorem dpl_strs {K : PySem.W.Frag} {H : Hp} {a : Addr} {w : List Str} (h : SqL K H a (w.map V.str)) : Dp K H (.ref a) (.list (w.map PyData.str)) := by
  refine .lst h ?_
  clear h
  induction w with
  | nil => exact .nil
  | cons x w ih => exact .cons (.str x) ih
theorem srt_perm_iff {l m : List Str} : srtS l = srtS m ↔ l.Perm m := by
  constructor
  · intro e
    exact (srt_perm l).symm.trans (e ▸ srt_perm m)
  · intro h
    exact pw_same (srt_pw l) (srt_pw m) ((srt_perm l).trans (h.trans (srt_perm m).symm))
end Ev

/-! ## Signs of a text; an error that tells a place -/
namespace Ev
open PySem PySem.Spec PyProof.Rows L2
theorem da_tupE {K : PySem.W.Frag} {H : Hp} {v : V} {ds : List PyData} (h : Da K H v (.tuple ds)) : ∃ a xs, v = .ref a ∧ SqT K H a xs ∧ DaAll K H xs ds := by
  cases h with
  | tup hs ha => exact ⟨_, _, rfl, hs, ha⟩
/-- an error of class C that tells a place, and nothing else -/
def RzP (C : Addr) (n : Nat) (H : Hp) (E : XK) : Prop := ∀ H' dd, Same H H' → H' dd = some (.xd [("position", .int (n : Nat))]) → E (.ref C) (some dd) H'
theorem RzP.same {C : Addr} {n : Nat} {H H1 : Hp} {E : XK} (h : RzP C n H E) (s : Same H H1) : RzP C n H1 E := fun H' dd s' => h H' dd (s.trans s')
theorem RzP.go {C : Addr} {n : Nat} {H : Hp} {E : XK} (h : RzP C n H E) : [V.int (n : Nat)].length ≤ 1000 ∧ ∀ a, H a = none → spInit1 C "position" (.ref a :: ([V.int (n : Nat)] ++ [])) (upd H a (exo a C none))
    (fun u H2 => u = .non ∧ ∃ (d : Addr) (fs : List (Str × V)), H2 a = some (exo a C (some d)) ∧ H2 d = some (exd d fs) ∧ H d = none ∧ E (.ref C) (some d) (upd (del H2 a) d (.xd fs))) (fun _ _ _ => False) :=
  raise1_go fun dd nd => h _ dd (same_put nd) upd_same
/-- what reading a place gives: goes on, or raises -/
def RdG {α : Type} (r : Rdx α) (C : Addr) (H : Hp) (E : XK) (G : α → Prop) : Prop := match r with
  | .ok x => G x
  | .error e => RzP C e H E
theorem RdG.same {α : Type} {r : Rdx α} {C : Addr} {H H1 : Hp} {E : XK} {G G1 : α → Prop} (h : RdG r C H E G) (s : Same H H1) (k : ∀ x, G x → G1 x) : RdG r C H1 E G1 := by
  cases r with
  | ok x => exact k x h
  | error e => exact RzP.same h s
/-- the sign at a place, if there is one -/
def sgN (l : List Nat) (a : Nat) : List Nat := match l[a]? with
  | some c => [c]
  | none => []
theorem take_one {l : List Nat} {a : Nat} : (l.drop a).take 1 = sgN l a := by
  unfold sgN
  cases h : l[a]? with
  | none => rw [List.drop_eq_nil_of_le (List.getElem?_eq_none_iff.mp h)]; rfl
  | some c =>
    obtain ⟨hl, e⟩ := List.getElem?_eq_some_iff.mp h
    rw [List.drop_eq_getElem_cons hl, e]
    rfl
theorem sIx_nat {n d a : Nat} : HT.sIx n d (some (a : Int)) = min a n := by
  first
    | rfl
    | (unfold HT.sIx; simp; omega)
theorem cut_nat {z : Str} {a b : Nat} : cutS z (some (a : Int)) (some (b : Int)) = cutN (TL.tl z) a b := by
  unfold cutS cutN
  rw [sIx_nat, sIx_nat]
  have hz : z.length = z.cps.toList.length := TL.len_tl z
  congr 2
  show (z.cps.toList.drop _).take _ = (z.cps.toList.drop a).take (b - a)
  rw [hz]
  by_cases ha : a ≤ z.cps.toList.length
  · rw [Nat.min_eq_left ha]
    by_cases hb : b ≤ z.cps.toList.length
    · rw [Nat.min_eq_left hb]
    · rw [Nat.min_eq_right (by omega), List.take_of_length_le (by rw [List.length_drop]; omega), List.take_of_length_le (by rw [List.length_drop]; omega)]
  · rw [List.drop_eq_nil_of_le (Nat.le_of_not_le ha), List.drop_eq_nil_of_le (by rw [Nat.min_eq_right (by omega)]; exact Nat.le_refl _)]
    simp
/-- text[a:a + 1] -/
theorem cut_sg {z : Str} {a : Nat} : cutS z (some (a : Int)) (some ((a : Int) + 1)) = ⟨(sgN (TL.tl z) a).toArray⟩ := by
  rw [show ((a : Int) + 1) = ((a + 1 : Nat) : Int) from rfl, cut_nat]
  unfold cutN
  rw [show a + 1 - a = 1 by omega, take_one]
def sgB (p : Nat → Bool) (l : List Nat) (a : Nat) : Bool := match l[a]? with
  | some c => p c
  | none => false
theorem one_lt {a b : Nat} : [a] < [b] ↔ a < b := by
  rw [List.cons_lt_cons_iff]
  simp
/-- lo <= text[a:a + 1] <= hi -/
theorem sg_between {l : List Nat} {a lo hi : Nat} : ((!decide (sgN l a < [lo])) && !decide ([hi] < sgN l a)) = sgB (fun c => decide (lo ≤ c) && decide (c ≤ hi)) l a := by
  unfold sgN sgB
  cases h : l[a]? with
  | none => simp
  | some c =>
    have e1 : decide ([c] < [lo]) = decide (c < lo) := decide_eq_decide.mpr one_lt
    have e2 : decide ([hi] < [c]) = decide (hi < c) := decide_eq_decide.mpr one_lt
    show ((!decide ([c] < [lo])) && !decide ([hi] < [c])) = _
    rw [e1, e2, Bool.eq_iff_iff]
    simp
theorem sgN_eq {l : List Nat} {a c : Nat} : sgN l a = [c] ↔ l[a]? = some c := by
  unfold sgN
  cases h : l[a]? with
  | none => simp
  | some d => simp
theorem str_mk {x y : List Nat} : (V.str ⟨x.toArray⟩ = V.str ⟨y.toArray⟩) ↔ x = y := by
  constructor
  · intro h
    injection h with h
    injection h with h
    have z := congrArg Array.toList h
    simpa using z
  · rintro rfl
    rfl
theorem dig_int {c : Nat} (h : digB c = true) : intText? ⟨#[c]⟩ = some ((c - 48 : Nat) : Int) := by
  obtain ⟨h1, h2⟩ := digB_iff.mp h
  have : ∀ k : Nat, k < 10 → intText? ⟨#[48 + k]⟩ = some (k : Int) := by decide +kernel
  have z := this (c - 48) (by omega)
  rw [show 48 + (c - 48) = c by omega] at z
  exact z
theorem sg_let {l : List Nat} {a : Nat} : ((!decide ((⟨(sgN l a).toArray⟩ : Str).cps.toList < [97])) && !decide ([122] < (⟨(sgN l a).toArray⟩ : Str).cps.toList)) = isLet l a := by
  show ((!decide (sgN l a < [97])) && !decide ([122] < sgN l a)) = _
  rw [sg_between]
  rfl
theorem sg_dig {l : List Nat} {a lo : Nat} : ((!decide ((⟨(sgN l a).toArray⟩ : Str).cps.toList < [lo])) && !decide ([57] < (⟨(sgN l a).toArray⟩ : Str).cps.toList)) = sgB (fun c => decide (lo ≤ c) && decide (c ≤ 57)) l a := by
  show ((!decide (sgN l a < [lo])) && !decide ([57] < sgN l a)) = _
  exact sg_between
theorem sgN_len (l : List Nat) (a : Nat) : (⟨(sgN l a).toArray⟩ : Str).length ≤ 1 := by
  rw [TL.len_tl]
  show (sgN l a).length ≤ 1
  unfold sgN
  cases l[a]? with
  | none => exact Nat.zero_le _
  | some c => exact Nat.le_refl _
/-- lo <= sign <= "9" -/
theorem btw_go {σ : L2.St} {H : Hp} {te : TE} {lo : Str} {n : Nat} {l : List Nat} {a : Nat} (hlo : lo.cps.toList = [n]) (he : ∀ Q : VK, Q (.str ⟨(sgN l a).toArray⟩) H → te σ H Q) {Q : Bool → Hp → Prop} (q : Q (sgB (fun c => decide (n ≤ c) && decide (c ≤ 57)) l a) H) :
    tTest (tChain (fun x y H Q => ∃ i j, x = .str i ∧ y = .str j ∧ Q (.bl (!decide (j.cps.toList < i.cps.toList))) H) (fun x y H Q => ∃ i j, x = .str i ∧ y = .str j ∧ Q (.bl (!decide (j.cps.toList < i.cps.toList))) H) (tC (.str lo)) te (tC (.str (Str.ofString "9")))) σ H Q := by
  have s9 : (Str.ofString "9").cps.toList = [57] := by decide +kernel
  refine he _ ⟨_, _, rfl, rfl, _, rfl, ?_⟩
  rw [hlo]
  rw [← sg_dig] at q
  by_cases h : (!decide ((⟨(sgN l a).toArray⟩ : Str).cps.toList < [n])) = true
  · rw [if_pos h]
    rw [h, Bool.true_and] at q
    refine ⟨_, _, rfl, rfl, _, rfl, ?_⟩
    rw [s9]
    exact q
  · rw [if_neg h]
    rw [Bool.eq_false_iff.mpr h, Bool.false_and] at q
    exact ⟨_, rfl, q⟩
theorem sgB_some {p : Nat → Bool} {l : List Nat} {a c : Nat} (h : l[a]? = some c) : sgB p l a = p c := by
  unfold sgB
  rw [h]
theorem sgB_none {p : Nat → Bool} {l : List Nat} {a : Nat} (h : l[a]? = none) : sgB p l a = false := by
  unfold sgB
  rw [h]
theorem sl1_go {σ : L2.St} {H : Hp} {z : Str} {a i j : Nat} (hz : z.length ≤ sizeLine) (h0 : σ[i]? = some (some (.str z))) (h1 : σ[j]? = some (some (.int (a : Nat)))) : ∀ Q : VK, Q (.str ⟨(sgN (TL.tl z) a).toArray⟩) H → tSl rSlS (tVar i) (tPart (tVar j)) (tPart (tOp (rI0 fun i j => .int (i + j)) (tVar j) (tC (.int 1)))) σ H Q := fun Q q => by
  refine ⟨_, h0, _, h1, _, rfl, _, h1, _, _, rfl, rfl, _, rfl, z, rfl, hz, ?_⟩
  rw [cut_sg]
  exact q
theorem da2 {K : PySem.W.Frag} {H : Hp} {u : V} {d1 d2 : PyData} (h : Da K H u (.tuple [d1, d2])) : ∃ a x y, u = .ref a ∧ SqT K H a [x, y] ∧ Da K H x d1 ∧ Da K H y d2 := by
  obtain ⟨a, xs, rfl, hs, ha⟩ := da_tupE h
  cases ha with
  | cons h1 ha =>
  cases ha with
  | cons h2 ha =>
  cases ha
  exact ⟨a, _, _, rfl, hs, h1, h2⟩
theorem da3 {K : PySem.W.Frag} {H : Hp} {u : V} {d1 d2 d3 : PyData} (h : Da K H u (.tuple [d1, d2, d3])) : ∃ a x y v, u = .ref a ∧ SqT K H a [x, y, v] ∧ Da K H x d1 ∧ Da K H y d2 ∧ Da K H v d3 := by
  obtain ⟨a, xs, rfl, hs, ha⟩ := da_tupE h
  cases ha with
  | cons h1 ha =>
  cases ha with
  | cons h2 ha =>
  cases ha with
  | cons h3 ha =>
  cases ha
  exact ⟨a, _, _, _, rfl, hs, h1, h2, h3⟩
theorem da_intE {K : PySem.W.Frag} {H : Hp} {u : V} {i : Int} (h : Da K H u (.int i)) : u = .int i := by
  cases h
  rfl
theorem da_strE {K : PySem.W.Frag} {H : Hp} {u : V} {x : Str} (h : Da K H u (.str x)) : u = .str x := by
  cases h
  rfl
end Ev

/-! ## k60: from sign to sign -/
namespace Ev
open PySem PySem.Spec PyProof.Rows L2
def Sg.way : Sg → Str
  | .start => "start"
  | .name _ => "name"
  | .mark => "mark"
  | .ticks _ => "ticks"
  | .rounds _ => "rounds"
  | .star => "star"
  | .done => "done"
def Sg.word : Sg → List Nat
  | .name w => w
  | .ticks w => w
  | .rounds w => w
  | _ => []
def Sg.ok : Sg → Prop
  | .name w => w.length ≤ 8
  | .ticks w => ∃ n, w = TL.numL n ∧ 1 ≤ n ∧ n ≤ 1000000000000
  | .rounds w => ∃ n, w = TL.numL n ∧ 1 ≤ n ∧ n ≤ 1000000000000000000
  | _ => True
def nxD (s : Sg) (op c : Nat) : PyData := match nxG s op c with
  | none => .tuple [.tuple [.str "bad", .str ""], .int op]
  | some x => .tuple [.tuple [.str x.1.way, .str (mkS x.1.word)], .int x.2]
def spNx (K : PySem.W.Frag) : Sp := fun vs H Q _ => ∃ (v : V) (s : Sg) (op c : Nat), vs = [v, .int op, .str ⟨#[c]⟩] ∧ Da K H v (.tuple [.str s.way, .str (mkS s.word)]) ∧ s.ok ∧ ∀ H' u, Same H H' → Da K H' u (nxD s op c) → Q u H'
theorem scNx : FnScope ["_law_state", "_law_opened", "_law_sign", "_law_way", "_law_word"] ["_law_state", "_law_opened", "_law_sign"] (defScope (topS 33)) := ⟨rfl, rfl, rfl, by decide +kernel, rfl, by decide +kernel, by decide +kernel⟩
theorem decS (a b : Str) : decide (V.str a = V.str b) = decide (a = b) := by
  rw [decide_eq_decide]
  exact ⟨fun z => V.str.inj z, fun z => congrArg _ z⟩
theorem t_eqF {i : Nat} {n way : Str} {σ : L2.St} {H : Hp} {Q : Bool → Hp → Prop} (h : σ[i]? = some (some (.str way))) (ne : way ≠ n) (q : Q false H) : tTest (tOp rEq (tVar i) (tC (.str n))) σ H Q :=
  ⟨_, h, rfl, false, congrArg V.bl ((decS _ _).trans (decide_eq_false ne)), q⟩
theorem t_eqT {i : Nat} {n way : Str} {σ : L2.St} {H : Hp} {Q : Bool → Hp → Prop} (h : σ[i]? = some (some (.str way))) (e : way = n) (q : Q true H) : tTest (tOp rEq (tVar i) (tC (.str n))) σ H Q :=
  ⟨_, h, rfl, true, congrArg V.bl ((decS _ _).trans (decide_eq_true e)), q⟩
theorem t_eqC {i c d : Nat} {n : Str} (hn : n = ⟨#[d]⟩) {σ : L2.St} {H : Hp} {Q : Bool → Hp → Prop} (h : σ[i]? = some (some (.str ⟨#[c]⟩))) (q : Q (decide (c = d)) H) : tTest (tOp rEq (tVar i) (tC (.str n))) σ H Q := by
  refine ⟨_, h, rfl, decide (c = d), congrArg V.bl ((decS _ _).trans ?_), q⟩
  rw [hn, decide_eq_decide]
  constructor
  · intro z
    injection z with z
    injection z with z
    injection z
  · intro z
    rw [z]
theorem t_sgn {i c : Nat} {z : Str} {σ : L2.St} {H : Hp} {Q : Bool → Hp → Prop} (h : σ[i]? = some (some (.str ⟨#[c]⟩))) (q : Q (decide (c ∈ z.cps.toList)) H) : tTest (tOp rInZ (tVar i) (tC (.str z))) σ H Q :=
  ⟨_, h, c, z, rfl, rfl, _, rfl, q⟩
theorem t_in2 {K : PySem.W.Frag} {i : Nat} {a b way : Str} {σ : L2.St} {H : Hp} {Q : Bool → Hp → Prop} (h : σ[i]? = some (some (.str way))) (q : ∀ H', Same H H' → Q (decide (way = a) || decide (way = b)) H') : tTest (tOp (rIn K false) (tVar i) (tTup (tCons (tC (.str a)) (tCons (tC (.str b)) tNil)))) σ H Q := by
  refine ⟨_, h, (by show 2 ≤ sizeLine; decide), fun t nt => ⟨t, _, rfl, .inr (.inl (.inl upd_same)), rfl, rfl, _, rfl, ?_⟩⟩
  have e : inV (V.str way) [V.str a, V.str b] = (decide (way = a) || decide (way = b)) := by
    have e1 : ∀ x : Str, eqV (V.str x) (V.str way) = decide (way = x) := fun x => by
      show (x == way) = _
      rw [Bool.eq_iff_iff, beq_iff_eq, decide_eq_true_eq]
      exact eq_comm
    show (eqV (V.str a) (V.str way) || (eqV (V.str b) (V.str way) || false)) = _
    rw [e1, e1, Bool.or_false]
  show Q (inV (V.str way) [V.str a, V.str b]) _
  rw [e]
  exact q _ (same_put nt)
theorem t_in2F {K : PySem.W.Frag} {i : Nat} {a b way : Str} {σ : L2.St} {H : Hp} {Q : Bool → Hp → Prop} (h : σ[i]? = some (some (.str way))) (ha : way ≠ a) (hb : way ≠ b) (q : ∀ H', Same H H' → Q false H') : tTest (tOp (rIn K false) (tVar i) (tTup (tCons (tC (.str a)) (tCons (tC (.str b)) tNil)))) σ H Q := by
  refine t_in2 h fun H' s => ?_
  rw [decide_eq_false ha, decide_eq_false hb]
  exact q H' s
theorem t_in2T {K : PySem.W.Frag} {i : Nat} {a b way : Str} {σ : L2.St} {H : Hp} {Q : Bool → Hp → Prop} (h : σ[i]? = some (some (.str way))) (hab : way = a ∨ way = b) (q : ∀ H', Same H H' → Q true H') : tTest (tOp (rIn K false) (tVar i) (tTup (tCons (tC (.str a)) (tCons (tC (.str b)) tNil)))) σ H Q := by
  refine t_in2 h fun H' s => ?_
  have e : (decide (way = a) || decide (way = b)) = true := by
    rcases hab with z | z
    · rw [decide_eq_true z, Bool.true_or]
    · rw [decide_eq_true z, Bool.or_true]
  rw [e]
  exact q H' s
theorem t_let {i c : Nat} {σ : L2.St} {H : Hp} {Q : Bool → Hp → Prop} (h : σ[i]? = some (some (.str ⟨#[c]⟩))) (q : Q (letB c) H) : tTest (tOp rInZ (tVar i) (tC (.str "abcdefghijklmnopqrstuvwxyz"))) σ H Q := by
  refine t_sgn h ?_
  rw [az]
  exact q
theorem dg_list : ("0123456789" : Str).cps.toList = (List.range 10).map (· + 48) := by decide +kernel
theorem dg (c : Nat) : decide (c ∈ ("0123456789" : Str).cps.toList) = digB c := by
  rw [dg_list]
  unfold digB
  rw [← Bool.decide_and, decide_eq_decide, List.mem_map]
  constructor
  · rintro ⟨a, ha, rfl⟩
    have := List.mem_range.mp ha
    omega
  · intro h
    exact ⟨c - 48, List.mem_range.mpr (by omega), by omega⟩
theorem t_dig {i c : Nat} {σ : L2.St} {H : Hp} {Q : Bool → Hp → Prop} (h : σ[i]? = some (some (.str ⟨#[c]⟩))) (q : Q (digB c) H) : tTest (tOp rInZ (tVar i) (tC (.str "0123456789"))) σ H Q := by
  refine t_sgn h ?_
  rw [dg]
  exact q
theorem mkS_app (w : List Nat) (c : Nat) : mkS w ++ (⟨#[c]⟩ : Str) = mkS (w ++ [c]) := TL.ext_tl (by rw [TL.tl_append]; rfl)
theorem mkS_len (w : List Nat) : (mkS w).length = w.length := by rw [TL.len_tl, tl_mkS]
theorem t_ne0 {i j c : Nat} {wd : List Nat} {σ : L2.St} {H : Hp} {Q : Bool → Hp → Prop} (h : σ[i]? = some (some (.str (mkS wd)))) (h2 : σ[j]? = some (some (.str ⟨#[c]⟩))) (hl : wd.length ≤ 100) (q : Q (decide (wd ++ [c] ≠ [48])) H) :
    tTest (tOp rNe (tOp (fun x y H Q => ∃ i j : Str, x = V.str i ∧ y = V.str j ∧ i.length + j.length ≤ sizeLine ∧ Q (V.str (i ++ j)) H) (tVar i) (tVar j)) (tC (.str "0"))) σ H Q := by
  have sl := sizeLine_eq
  refine ⟨_, h, _, h2, _, _, rfl, rfl, ?_, rfl, decide (wd ++ [c] ≠ [48]), congrArg V.bl ?_, q⟩
  · rw [mkS_len]
    show wd.length + 1 ≤ _
    omega
  · rw [mkS_app, decS, ← decide_not, decide_eq_decide]
    have e0 : ("0" : Str) = mkS [48] := by decide +kernel
    rw [e0]
    constructor
    · intro z1 z2
      exact z1 (by rw [z2])
    · intro z1 z2
      exact z1 (by have := congrArg TL.tl z2; rwa [tl_mkS, tl_mkS] at this)
/-- a number's digits: no zero ahead -/
theorem num_ok {n c : Nat} (h1 : 1 ≤ n) (h2 : n ≤ 1000000000000000000) (hd : digB c = true) : TL.numL n ++ [c] = TL.numL (n * 10 + (c - 48)) ∧ valL (TL.numL n ++ [c]) = n * 10 + (c - 48) ∧ TL.numL n ++ [c] ≠ [48] ∧ (TL.numL n).length ≤ 19 := by
  have e := numL_go [c] n h1 (fun x hx => by rw [List.mem_singleton] at hx; rw [hx]; exact hd)
  have hv : valL (TL.numL n) = n := TL.numL_val n
  refine ⟨e.symm, by rw [valL_app, hv], fun z => ?_, TL.numL_len (by decide) (by omega)⟩
  have ne := TL.numL_ne n
  cases hz : TL.numL n with
  | nil => exact ne hz
  | cons x xs =>
    rw [hz] at z
    have := congrArg List.length z
    simp only [List.length_append, List.length_cons, List.length_nil] at this
    omega
theorem int_numS {n : Nat} (h : n < 10 ^ 31) : intText? (mkS (TL.numL n)) = some (n : Int) ∧ (mkS (TL.numL n)).length ≤ 31 := by
  have e : (mkS (TL.numL n)).cps.toList = TL.numL n := rfl
  have hl : (TL.numL n).length ≤ 31 := TL.numL_len (by decide) h
  have ne := TL.numL_ne n
  have hd : NumText.AllDigits (TL.numL n) := TL.numL_digits n
  refine ⟨?_, by rw [mkS_len]; exact hl⟩
  rw [intText_digits (by rw [e]; exact hd) (by rw [e]; exact ne) (by rw [mkS_len]; omega), e, TL.numL_val]
/-- int(word + sign) at most -/
theorem t_int {i j c e n : Nat} {wd : List Nat} {σ : L2.St} {H : Hp} {Q : Bool → Hp → Prop} (h : σ[i]? = some (some (.str (mkS wd)))) (h2 : σ[j]? = some (some (.str ⟨#[c]⟩))) (hw : wd ++ [c] = TL.numL n) (hn : n < 10 ^ 31) (hl : wd.length ≤ 100) (he : e ≤ 100) (q : Q (decide (n ≤ 10 ^ e)) H) :
    tTest (tOp (rI0 fun i j => V.bl (decide (i ≤ j))) (tCB (fun xs H Q => ∃ a n, xs = [V.str a] ∧ intText? a = some n ∧ a.length ≤ 640 ∧ Q (V.int n) H) (tCons (tOp (fun x y H Q => ∃ i j : Str, x = V.str i ∧ y = V.str j ∧ i.length + j.length ≤ sizeLine ∧ Q (V.str (i ++ j)) H) (tVar i) (tVar j)) tNil)) (tOp (rI CPow fun i j => V.int (i ^ j.toNat)) (tC (V.int 10)) (tC (V.int (e : Nat))))) σ H Q := by
  have sl := sizeLine_eq
  obtain ⟨i1, i2⟩ := int_numS hn
  refine ⟨_, h, _, h2, _, _, rfl, rfl, ?_, ?_⟩
  · rw [mkS_len]
    show wd.length + 1 ≤ _
    omega
  · refine ⟨mkS (TL.numL n), n, by rw [mkS_app, hw], i1, by omega, _, _, rfl, rfl, ?_, _, _, rfl, rfl, decide (n ≤ 10 ^ e), congrArg V.bl ?_, q⟩
    · exact ⟨by omega, by omega, by decide⟩
    · rw [Int.toNat_natCast, decide_eq_decide]
      have : ((10 : Int) ^ e) = ((10 ^ e : Nat) : Int) := by rw [Int.natCast_pow]; rfl
      rw [this]
      omega
theorem ret_o {K : PySem.W.Frag} {T0 Y : TE} {σ : L2.St} {H : Hp} {Q : VK} {n wd : Str} {o : Int} (h0 : ∀ R : VK, (∀ t1, H t1 = none → R (.ref t1) (upd H t1 (.tup [.str n, .str wd]))) → T0 σ H R) (hY : ∀ (H' : Hp) (R : VK), R (.int o) H' → Y σ H' R)
    (q : ∀ H' u, Same H H' → Da K H' u (.tuple [.tuple [.str n, .str wd], .int o]) → Q u H') : tTup (tCons T0 (tCons Y tNil)) σ H Q := by
  refine h0 _ fun t1 n1 => hY _ _ ⟨by show 2 ≤ sizeLine; decide, fun t2 n2 => ?_⟩
  refine q _ _ ((same_put n1).trans (same_put n2)) (.tup (.inl (.inl upd_same)) (.cons (.tup (.inl (.inl ?_)) (.cons (.str _) (.cons (.str _) .nil))) (.cons (.int _) .nil)))
  exact same_put n2 _ _ upd_same
theorem in_t {X : TE} {σ : L2.St} {H : Hp} {n wd : Str} (hX : ∀ R : VK, R (.str wd) H → X σ H R) : ∀ R : VK, (∀ t1, H t1 = none → R (.ref t1) (upd H t1 (.tup [.str n, .str wd]))) → tTup (tCons (tC (.str n)) (tCons X tNil)) σ H R :=
  fun R h => hX _ ⟨by show 2 ≤ sizeLine; decide, h⟩
theorem x_cat {i j c : Nat} {wd : List Nat} {σ : L2.St} {H : Hp} (h : σ[i]? = some (some (.str (mkS wd)))) (h2 : σ[j]? = some (some (.str ⟨#[c]⟩))) (hl : wd.length ≤ 100) (R : VK) (q : R (.str (mkS (wd ++ [c]))) H) :
    tOp (fun x y H Q => ∃ i j : Str, x = V.str i ∧ y = V.str j ∧ i.length + j.length ≤ sizeLine ∧ Q (V.str (i ++ j)) H) (tVar i) (tVar j) σ H R := by
  have sl := sizeLine_eq
  refine ⟨_, h, _, h2, _, _, rfl, rfl, ?_, ?_⟩
  · rw [mkS_len]
    show wd.length + 1 ≤ _
    omega
  · rw [mkS_app]
    exact q
theorem r_if {tt : TT} {A B : TE} {σ : L2.St} {H : Hp} {R : VK} {b : Bool} (ht : ∀ Q : Bool → Hp → Prop, Q b H → tt σ H Q) (h : if b = true then A σ H R else B σ H R) : tIf tt A B σ H R := ht _ h
theorem one_dig {c : Nat} (h : digB c = true) : [] ++ [c] = TL.numL (c - 48) ∧ c - 48 ≤ 9 := by
  have z := digB_iff.mp h
  refine ⟨?_, by omega⟩
  rw [TL.numL_lt (by omega)]
  show [c] = _
  congr 1
  omega
section
variable {P : Program} {w : World} {K : PySem.W.Frag} {mg : Str → Option Value} {base : Heap}
theorem ok_nx60 (D : Def K mg "_law_next" (topS 33) ["_law_state", "_law_opened", "_law_sign"]) (nb : NB mg) : Cal P w K mg base 1 "_law_next" ["_law_state", "_law_opened", "_law_sign"] (spNx K) := by
  refine D.ok scNx (fun vs H Q E h => ?_) (fun fa cdv A outer sh H vs Q E hr gd h => ?_)
  · obtain ⟨v, s, op, c, rfl, _⟩ := h
    rfl
  · obtain ⟨v, s, op, c, rfl, ht, hs, q⟩ := h
    obtain ⟨t, xs, rfl, hx, hxa⟩ := da_prog ht
    obtain ⟨w1, w2, rfl, d1, d2⟩ : ∃ w1 w2 : V, xs = [w1, w2] ∧ Da K H w1 (.str s.way) ∧ Da K H w2 (.str (mkS s.word)) := by
      cases hxa with
      | cons a b =>
        cases b with
        | cons c d =>
          cases d
          exact ⟨_, _, rfl, a, c⟩
    cases d1
    cases d2
    refine ⟨_, (pss_cons (ps_asg (pv 0) (pg_tup rfl (pgs_cons (pg_name (i := 3) scNx.nd rfl (Or.inl rfl)) (pgs_cons (pg_name (i := 4) scNx.nd rfl (Or.inl rfl)) pgs_nil))))
      (pss_cons (ps_if (PW.pt (pw_and (pt_cmpR op_eq (pv 3) pe_str (nomark _)) (pw_and1 (pt_cmpR op_in_sign (pv 2) pe_str rfl))))
        (pss_one (ps_ret (pe_tup (pa_cons (pe_tup (pa_cons pe_str (pa_cons (pv 2) pa_nil))) (pa_cons (pv 1) pa_nil)))))
        pss_nil)
      (pss_cons (ps_if (PW.pt (pw_and (pt_cmpR op_in_seq (pv 3) (pe_tup (pa_cons pe_str (pa_cons pe_str pa_nil))) rfl) (pw_and (pt_cmpR op_in_sign (pv 2) pe_str rfl) (pw_and1 (pt_cmpR op_ne (pe_op op_add_str (pv 4) (pv 2)) pe_str (nomark _))))))
        (pss_one (ps_ret (pe_tup (pa_cons (pe_ifExp (pt_cmpR op_le (pe_callTy call_int_str (by rfl) nb.at (by decide +kernel) (pa_cons (pe_op op_add_str (pv 4) (pv 2)) pa_nil)) (pe_op op_pow pe_int pe_int) (nomark _)) (pe_tup (pa_cons pe_str (pa_cons (pe_op op_add_str (pv 4) (pv 2)) pa_nil))) (pe_tup (pa_cons pe_str (pa_cons pe_str pa_nil)))) (pa_cons (pv 1) pa_nil)))))
        pss_nil)
      (pss_cons (ps_if (PW.pt (pw_and (pt_cmpR op_eq (pv 3) pe_str (nomark _)) (pw_and (pt_cmpR op_in_sign (pv 2) pe_str rfl) (pw_and1 (pt_cmpR op_lt (pe_callB call_len_str (by rfl) nb.at (by decide +kernel) (pa_cons (pv 4) pa_nil)) pe_int (nomark _))))))
        (pss_one (ps_ret (pe_tup (pa_cons (pe_tup (pa_cons pe_str (pa_cons (pe_op op_add_str (pv 4) (pv 2)) pa_nil))) (pa_cons (pv 1) pa_nil)))))
        pss_nil)
      (pss_cons (ps_if (PW.pt (pw_and (pt_cmpR op_eq (pv 3) pe_str (nomark _)) (pw_and1 (pt_cmpR op_eq (pv 2) pe_str (nomark _)))))
        (pss_one (ps_ret (pe_tup (pa_cons (pe_tup (pa_cons pe_str (pa_cons pe_str pa_nil))) (pa_cons (pv 1) pa_nil)))))
        pss_nil)
      (pss_cons (ps_if (PW.pt (pw_and (pt_cmpR op_in_seq (pv 3) (pe_tup (pa_cons pe_str (pa_cons pe_str pa_nil))) rfl) (pw_and (pt_cmpR op_in_sign (pv 2) pe_str rfl) (pw_and1 (pt_cmpR op_ne (pe_op op_add_str (pv 4) (pv 2)) pe_str (nomark _))))))
        (pss_one (ps_ret (pe_tup (pa_cons (pe_ifExp (pt_cmpR op_le (pe_callTy call_int_str (by rfl) nb.at (by decide +kernel) (pa_cons (pe_op op_add_str (pv 4) (pv 2)) pa_nil)) (pe_op op_pow pe_int pe_int) (nomark _)) (pe_tup (pa_cons pe_str (pa_cons (pe_op op_add_str (pv 4) (pv 2)) pa_nil))) (pe_tup (pa_cons pe_str (pa_cons pe_str pa_nil)))) (pa_cons (pv 1) pa_nil)))))
        pss_nil)
      (pss_cons (ps_if (PW.pt (pw_and (pt_cmpR op_eq (pv 3) pe_str (nomark _)) (pw_and1 (pt_cmpR op_eq (pv 2) pe_str (nomark _)))))
        (pss_one (ps_ret (pe_tup (pa_cons (pe_tup (pa_cons pe_str (pa_cons pe_str pa_nil))) (pa_cons (pv 1) pa_nil)))))
        pss_nil)
      (pss_cons (ps_if (PW.pt (pw_and (pt_cmpR op_eq (pv 3) pe_str (nomark _)) (pw_and1 (pt_cmpR op_eq (pv 2) pe_str (nomark _)))))
        (pss_one (ps_ret (pe_tup (pa_cons (pe_tup (pa_cons pe_str (pa_cons pe_str pa_nil))) (pa_cons (pe_op op_add (pv 1) pe_int) pa_nil)))))
        pss_nil)
      (pss_cons (ps_if (PW.pt (pw_and (pt_cmpR op_in_seq (pv 3) (pe_tup (pa_cons pe_str (pa_cons pe_str pa_nil))) rfl) (pw_and (pt_cmpR op_eq (pv 2) pe_str (nomark _)) (pw_and1 (pt_cmpR op_gt (pv 1) pe_int (nomark _))))))
        (pss_one (ps_ret (pe_tup (pa_cons (pe_tup (pa_cons pe_str (pa_cons pe_str pa_nil))) (pa_cons (pe_op op_sub (pv 1) pe_int) pa_nil)))))
        pss_nil)
      (pss_one (ps_ret (pe_ifExp (PW.pt (pw_and (pt_cmpR op_in_seq (pv 3) (pe_tup (pa_cons pe_str (pa_cons pe_str pa_nil))) rfl) (pw_and1 (pt_cmpR op_eq (pv 2) pe_str (nomark _))))) (pe_tup (pa_cons (pe_tup (pa_cons pe_str (pa_cons pe_str pa_nil))) (pa_cons (pv 1) pa_nil))) (pe_tup (pa_cons (pe_tup (pa_cons pe_str (pa_cons pe_str pa_nil))) (pa_cons (pv 1) pa_nil))))))))))))))), ?_⟩
    cases s with
    | start =>
      have e1 : nxG .start op c = if letB c = true then some (.name [c], op) else if digB c = true ∧ c ≠ 48 then some (.rounds [c], op) else none := rfl
      refine ⟨_, rfl, t, _, rfl, hx, rfl, ?_⟩
      dsimp only [gCons, gName, gNil, tSeq, tIfS, tAnd, tNext, tRet, tIf]
      refine ⟨_, _, rfl, _, _, rfl, rfl, ?_⟩
      refine t_eqT rfl rfl (iteT (t_let rfl ?_))
      by_cases hl : letB c = true
      · have hD : nxD .start op c = .tuple [.tuple [.str "name", .str ⟨#[c]⟩], .int (op : Nat)] := by rw [nxD, e1, if_pos hl]; rfl
        rw [hl]
        exact iteT (ret_o (K := K) (in_t fun R h => ⟨_, rfl, h⟩) (fun H' R h => ⟨_, rfl, h⟩) fun H' u s' d => q H' u (s') (hD ▸ d))
      rw [Bool.eq_false_iff.mpr hl]
      refine iteF (t_in2T rfl (.inl rfl) fun H1 s1 => iteT (t_dig rfl ?_))
      by_cases hd : digB c = true ∧ c ≠ 48
      · have hD : nxD .start op c = .tuple [.tuple [.str "rounds", .str (mkS ([] ++ [c]))], .int (op : Nat)] := by rw [nxD, e1, if_neg hl, if_pos hd]; rfl
        obtain ⟨hv, h9⟩ := one_dig hd.1
        rw [hd.1]
        refine iteT (t_ne0 (wd := []) rfl rfl (by decide) ?_)
        rw [decide_eq_true (by intro z; exact hd.2 (List.cons.inj z).1)]
        refine iteT ?_
        exact (ret_o (K := K) (fun R h => r_if (fun Q k => t_int (wd := []) (n := c - 48) (e := 18) rfl rfl hv (by omega) (by decide) (by decide) k) (by rw [decide_eq_true (by omega)]; exact iteT (in_t (x_cat (wd := []) rfl rfl (by decide)) R h))) (fun H' R h => ⟨_, rfl, h⟩) fun H' u s' d => q H' u (s1.trans (s')) (hD ▸ d))
      have hD : nxD .start op c = .tuple [.tuple [.str "bad", .str ""], .int (op : Nat)] := by rw [nxD, e1, if_neg hl, if_neg hd]
      by_cases hd1 : digB c = true
      · rw [hd1]
        refine iteT (t_ne0 (wd := []) rfl rfl (by decide) ?_)
        rw [decide_eq_false (by intro z; exact hd ⟨hd1, fun y => z (by rw [y]; rfl)⟩)]
        refine iteF ?_
        refine t_eqF (way := "start") rfl (by decide +kernel) (iteF (iteF ?_))
        refine t_eqF (way := "start") rfl (by decide +kernel) (iteF (iteF ?_))
        refine t_in2F (way := "start") rfl (by decide +kernel) (by decide +kernel) fun H2 s2 => iteF (iteF ?_)
        refine t_eqF (way := "start") rfl (by decide +kernel) (iteF (iteF ?_))
        refine t_eqF (way := "start") rfl (by decide +kernel) (iteF (iteF ?_))
        refine t_in2F (way := "start") rfl (by decide +kernel) (by decide +kernel) fun H3 s3 => iteF (iteF ?_)
        refine t_in2F (way := "start") rfl (by decide +kernel) (by decide +kernel) fun H4 s4 => iteF (iteF ?_)
        exact (ret_o (K := K) (in_t fun R h => h) (fun H' R h => ⟨_, rfl, h⟩) fun H' u s' d => q H' u (s1.trans (s2.trans (s3.trans (s4.trans (s'))))) (hD ▸ d))
      · rw [Bool.eq_false_iff.mpr hd1]
        refine iteF (iteF ?_)
        refine t_eqF (way := "start") rfl (by decide +kernel) (iteF (iteF ?_))
        refine t_eqF (way := "start") rfl (by decide +kernel) (iteF (iteF ?_))
        refine t_in2F (way := "start") rfl (by decide +kernel) (by decide +kernel) fun H2 s2 => iteF (iteF ?_)
        refine t_eqF (way := "start") rfl (by decide +kernel) (iteF (iteF ?_))
        refine t_eqF (way := "start") rfl (by decide +kernel) (iteF (iteF ?_))
        refine t_in2F (way := "start") rfl (by decide +kernel) (by decide +kernel) fun H3 s3 => iteF (iteF ?_)
        refine t_in2F (way := "start") rfl (by decide +kernel) (by decide +kernel) fun H4 s4 => iteF (iteF ?_)
        exact (ret_o (K := K) (in_t fun R h => h) (fun H' R h => ⟨_, rfl, h⟩) fun H' u s' d => q H' u (s1.trans (s2.trans (s3.trans (s4.trans (s'))))) (hD ▸ d))
    | name w =>
      have e1 : nxG (.name w) op c = if letB c = true ∧ w.length < 8 then some (.name (w ++ [c]), op) else if c = 58 then some (.mark, op) else none := rfl
      have hs : w.length ≤ 8 := hs
      refine ⟨_, rfl, t, _, rfl, hx, rfl, ?_⟩
      dsimp only [gCons, gName, gNil, tSeq, tIfS, tAnd, tNext, tRet, tIf]
      refine ⟨_, _, rfl, _, _, rfl, rfl, ?_⟩
      refine t_eqF (way := "name") rfl (by decide +kernel) (iteF (iteF ?_))
      refine t_in2F (way := "name") rfl (by decide +kernel) (by decide +kernel) fun H1 s1 => iteF (iteF ?_)
      refine t_eqT rfl rfl (iteT (t_let rfl ?_))
      by_cases hl : letB c = true ∧ w.length < 8
      · have hD : nxD (.name w) op c = .tuple [.tuple [.str "name", .str (mkS (w ++ [c]))], .int (op : Nat)] := by rw [nxD, e1, if_pos hl]; rfl
        rw [hl.1]
        refine iteT ⟨_, rfl, mkS w, rfl, (by rw [mkS_len]; exact Nat.le_trans hs (by decide)), _, _, rfl, rfl, true, congrArg V.bl (by rw [mkS_len]; exact decide_eq_true (by omega)), ?_⟩
        exact iteT (ret_o (K := K) (in_t (x_cat (wd := w) rfl rfl (by omega))) (fun H' R h => ⟨_, rfl, h⟩) fun H' u s' d => q H' u (s1.trans (s')) (hD ▸ d))
      by_cases hl1 : letB c = true
      · rw [hl1]
        refine iteT ⟨_, rfl, mkS w, rfl, (by rw [mkS_len]; exact Nat.le_trans hs (by decide)), _, _, rfl, rfl, false, congrArg V.bl (by rw [mkS_len]; exact decide_eq_false (fun z => hl ⟨hl1, by omega⟩)), ?_⟩
        refine iteF ?_
        refine t_eqT rfl rfl (iteT (t_eqC (d := 58) (by decide +kernel) rfl ?_))
        by_cases h58 : c = 58
        · have hD : nxD (.name w) op c = .tuple [.tuple [.str "mark", .str ""], .int (op : Nat)] := by rw [nxD, e1, if_neg hl, if_pos h58]; rfl
          rw [decide_eq_true h58]
          exact iteT (ret_o (K := K) (in_t fun R h => h) (fun H' R h => ⟨_, rfl, h⟩) fun H' u s' d => q H' u (s1.trans (s')) (hD ▸ d))
        have hD : nxD (.name w) op c = .tuple [.tuple [.str "bad", .str ""], .int (op : Nat)] := by rw [nxD, e1, if_neg hl, if_neg h58]
        rw [decide_eq_false h58]
        refine iteF ?_
        refine t_in2F (way := "name") rfl (by decide +kernel) (by decide +kernel) fun H2 s2 => iteF (iteF ?_)
        refine t_eqF (way := "name") rfl (by decide +kernel) (iteF (iteF ?_))
        refine t_eqF (way := "name") rfl (by decide +kernel) (iteF (iteF ?_))
        refine t_in2F (way := "name") rfl (by decide +kernel) (by decide +kernel) fun H3 s3 => iteF (iteF ?_)
        refine t_in2F (way := "name") rfl (by decide +kernel) (by decide +kernel) fun H4 s4 => iteF (iteF ?_)
        exact (ret_o (K := K) (in_t fun R h => h) (fun H' R h => ⟨_, rfl, h⟩) fun H' u s' d => q H' u (s1.trans (s2.trans (s3.trans (s4.trans (s'))))) (hD ▸ d))
      · rw [Bool.eq_false_iff.mpr hl1]
        refine iteF (iteF ?_)
        refine t_eqT rfl rfl (iteT (t_eqC (d := 58) (by decide +kernel) rfl ?_))
        by_cases h58 : c = 58
        · have hD : nxD (.name w) op c = .tuple [.tuple [.str "mark", .str ""], .int (op : Nat)] := by rw [nxD, e1, if_neg hl, if_pos h58]; rfl
          rw [decide_eq_true h58]
          exact iteT (ret_o (K := K) (in_t fun R h => h) (fun H' R h => ⟨_, rfl, h⟩) fun H' u s' d => q H' u (s1.trans (s')) (hD ▸ d))
        have hD : nxD (.name w) op c = .tuple [.tuple [.str "bad", .str ""], .int (op : Nat)] := by rw [nxD, e1, if_neg hl, if_neg h58]
        rw [decide_eq_false h58]
        refine iteF ?_
        refine t_in2F (way := "name") rfl (by decide +kernel) (by decide +kernel) fun H2 s2 => iteF (iteF ?_)
        refine t_eqF (way := "name") rfl (by decide +kernel) (iteF (iteF ?_))
        refine t_eqF (way := "name") rfl (by decide +kernel) (iteF (iteF ?_))
        refine t_in2F (way := "name") rfl (by decide +kernel) (by decide +kernel) fun H3 s3 => iteF (iteF ?_)
        refine t_in2F (way := "name") rfl (by decide +kernel) (by decide +kernel) fun H4 s4 => iteF (iteF ?_)
        exact (ret_o (K := K) (in_t fun R h => h) (fun H' R h => ⟨_, rfl, h⟩) fun H' u s' d => q H' u (s1.trans (s2.trans (s3.trans (s4.trans (s'))))) (hD ▸ d))
    | mark =>
      have e1 : nxG .mark op c = if digB c = true ∧ c ≠ 48 then some (.ticks [c], op) else none := rfl
      refine ⟨_, rfl, t, _, rfl, hx, rfl, ?_⟩
      dsimp only [gCons, gName, gNil, tSeq, tIfS, tAnd, tNext, tRet, tIf]
      refine ⟨_, _, rfl, _, _, rfl, rfl, ?_⟩
      refine t_eqF (way := "mark") rfl (by decide +kernel) (iteF (iteF ?_))
      refine t_in2F (way := "mark") rfl (by decide +kernel) (by decide +kernel) fun H1 s1 => iteF (iteF ?_)
      refine t_eqF (way := "mark") rfl (by decide +kernel) (iteF (iteF ?_))
      refine t_eqF (way := "mark") rfl (by decide +kernel) (iteF (iteF ?_))
      refine t_in2T rfl (.inl rfl) fun H2 s2 => iteT (t_dig rfl ?_)
      by_cases hd : digB c = true ∧ c ≠ 48
      · have hD : nxD .mark op c = .tuple [.tuple [.str "ticks", .str (mkS ([] ++ [c]))], .int (op : Nat)] := by rw [nxD, e1, if_pos hd]; rfl
        obtain ⟨hv, h9⟩ := one_dig hd.1
        rw [hd.1]
        refine iteT (t_ne0 (wd := []) rfl rfl (by decide) ?_)
        rw [decide_eq_true (by intro z; exact hd.2 (List.cons.inj z).1)]
        refine iteT ?_
        exact (ret_o (K := K) (fun R h => r_if (fun Q k => t_int (wd := []) (n := c - 48) (e := 12) rfl rfl hv (by omega) (by decide) (by decide) k) (by rw [decide_eq_true (by omega)]; exact iteT (in_t (x_cat (wd := []) rfl rfl (by decide)) R h))) (fun H' R h => ⟨_, rfl, h⟩) fun H' u s' d => q H' u (s1.trans (s2.trans (s'))) (hD ▸ d))
      have hD : nxD .mark op c = .tuple [.tuple [.str "bad", .str ""], .int (op : Nat)] := by rw [nxD, e1, if_neg hd]
      by_cases hd1 : digB c = true
      · rw [hd1]
        refine iteT (t_ne0 (wd := []) rfl rfl (by decide) ?_)
        rw [decide_eq_false (by intro z; exact hd ⟨hd1, fun y => z (by rw [y]; rfl)⟩)]
        refine iteF ?_
        refine t_eqF (way := "mark") rfl (by decide +kernel) (iteF (iteF ?_))
        refine t_eqF (way := "mark") rfl (by decide +kernel) (iteF (iteF ?_))
        refine t_in2F (way := "mark") rfl (by decide +kernel) (by decide +kernel) fun H3 s3 => iteF (iteF ?_)
        refine t_in2F (way := "mark") rfl (by decide +kernel) (by decide +kernel) fun H4 s4 => iteF (iteF ?_)
        exact (ret_o (K := K) (in_t fun R h => h) (fun H' R h => ⟨_, rfl, h⟩) fun H' u s' d => q H' u (s1.trans (s2.trans (s3.trans (s4.trans (s'))))) (hD ▸ d))
      · rw [Bool.eq_false_iff.mpr hd1]
        refine iteF (iteF ?_)
        refine t_eqF (way := "mark") rfl (by decide +kernel) (iteF (iteF ?_))
        refine t_eqF (way := "mark") rfl (by decide +kernel) (iteF (iteF ?_))
        refine t_in2F (way := "mark") rfl (by decide +kernel) (by decide +kernel) fun H3 s3 => iteF (iteF ?_)
        refine t_in2F (way := "mark") rfl (by decide +kernel) (by decide +kernel) fun H4 s4 => iteF (iteF ?_)
        exact (ret_o (K := K) (in_t fun R h => h) (fun H' R h => ⟨_, rfl, h⟩) fun H' u s' d => q H' u (s1.trans (s2.trans (s3.trans (s4.trans (s'))))) (hD ▸ d))
    | ticks w =>
      have e1 : nxG (.ticks w) op c = if digB c = true ∧ valL (w ++ [c]) ≤ 1000000000000 then some (.ticks (w ++ [c]), op) else if c = 41 ∧ 0 < op then some (.done, op - 1) else if c = 32 then some (.start, op) else none := rfl
      obtain ⟨n, rfl, hn1, hn2⟩ := hs
      have hnl : (TL.numL n).length ≤ 19 := TL.numL_len (by decide) (by omega)
      refine ⟨_, rfl, t, _, rfl, hx, rfl, ?_⟩
      dsimp only [gCons, gName, gNil, tSeq, tIfS, tAnd, tNext, tRet, tIf]
      refine ⟨_, _, rfl, _, _, rfl, rfl, ?_⟩
      refine t_eqF (way := "ticks") rfl (by decide +kernel) (iteF (iteF ?_))
      refine t_in2F (way := "ticks") rfl (by decide +kernel) (by decide +kernel) fun H1 s1 => iteF (iteF ?_)
      refine t_eqF (way := "ticks") rfl (by decide +kernel) (iteF (iteF ?_))
      refine t_eqF (way := "ticks") rfl (by decide +kernel) (iteF (iteF ?_))
      refine t_in2T rfl (.inr rfl) fun H2 s2 => iteT (t_dig rfl ?_)
      by_cases hd : digB c = true
      · obtain ⟨v1, v2, v3, v4⟩ := num_ok (c := c) hn1 (by omega) hd
        have h9 := digB_iff.mp hd
        have h10 : n * 10 + (c - 48) < 10 ^ 31 := by omega
        rw [hd]
        refine iteT (t_ne0 (wd := TL.numL n) rfl rfl (by omega) ?_)
        rw [decide_eq_true v3]
        refine iteT ?_
        by_cases hm : n * 10 + (c - 48) ≤ 1000000000000
        · have hD : nxD (.ticks (TL.numL n)) op c = .tuple [.tuple [.str "ticks", .str (mkS (TL.numL n ++ [c]))], .int (op : Nat)] := by rw [nxD, e1, if_pos ⟨hd, by rw [v2]; exact hm⟩]; rfl
          exact (ret_o (K := K) (fun R h => r_if (fun Q k => t_int (wd := TL.numL n) (n := n * 10 + (c - 48)) (e := 12) rfl rfl v1 h10 (by omega) (by decide) k) (by rw [decide_eq_true (Nat.le_trans hm (by decide))]; exact iteT (in_t (x_cat (wd := TL.numL n) rfl rfl (by omega)) R h))) (fun H' R h => ⟨_, rfl, h⟩) fun H' u s' d => q H' u (s1.trans (s2.trans (s'))) (hD ▸ d))
        · have hD : nxD (.ticks (TL.numL n)) op c = .tuple [.tuple [.str "bad", .str ""], .int (op : Nat)] := by rw [nxD, e1, if_neg (fun z => hm (by have := z.2; rw [v2] at this; exact this)), if_neg (by omega), if_neg (by omega)]
          exact (ret_o (K := K) (fun R h => r_if (fun Q k => t_int (wd := TL.numL n) (n := n * 10 + (c - 48)) (e := 12) rfl rfl v1 h10 (by omega) (by decide) k) (by rw [decide_eq_false (fun z => hm (Nat.le_trans z (by decide)))]; exact iteF (in_t (fun R h => h) R h))) (fun H' R h => ⟨_, rfl, h⟩) fun H' u s' d => q H' u (s1.trans (s2.trans (s'))) (hD ▸ d))
      rw [Bool.eq_false_iff.mpr hd]
      refine iteF (iteF ?_)
      refine t_eqF (way := "ticks") rfl (by decide +kernel) (iteF (iteF ?_))
      refine t_eqF (way := "ticks") rfl (by decide +kernel) (iteF (iteF ?_))
      refine t_in2T rfl (.inl rfl) fun H3 s3 => iteT (t_eqC (d := 41) (by decide +kernel) rfl ?_)
      by_cases h41 : c = 41
      · rw [decide_eq_true h41]
        by_cases ho : 0 < op
        · have hD : nxD (.ticks (TL.numL n)) op c = .tuple [.tuple [.str "done", .str ""], .int ((op : Int) - 1)] := by
            rw [nxD, e1, if_neg (fun z => hd z.1), if_pos ⟨h41, ho⟩]
            show PyData.tuple [.tuple [.str "done", .str ""], .int ((op - 1 : Nat) : Int)] = _
            rw [show ((op - 1 : Nat) : Int) = (op : Int) - 1 by omega]
          refine iteT ⟨_, rfl, _, _, rfl, rfl, true, congrArg V.bl (decide_eq_true (by omega)), ?_⟩
          exact iteT (ret_o (K := K) (in_t fun R h => h) (fun H' R h => ⟨_, rfl, _, _, rfl, rfl, h⟩) fun H' u s' d => q H' u (s1.trans (s2.trans (s3.trans (s')))) (hD ▸ d))
        · have hD : nxD (.ticks (TL.numL n)) op c = .tuple [.tuple [.str "bad", .str ""], .int (op : Nat)] := by rw [nxD, e1, if_neg (fun z => hd z.1), if_neg (fun z => ho z.2), if_neg (by omega)]
          refine iteT ⟨_, rfl, _, _, rfl, rfl, false, congrArg V.bl (decide_eq_false (by omega)), ?_⟩
          refine iteF (t_in2T rfl (.inl rfl) fun H4 s4 => iteT (t_eqC (d := 32) (by decide +kernel) rfl ?_))
          rw [decide_eq_false (by omega)]
          exact iteF (ret_o (K := K) (in_t fun R h => h) (fun H' R h => ⟨_, rfl, h⟩) fun H' u s' d => q H' u (s1.trans (s2.trans (s3.trans (s4.trans (s'))))) (hD ▸ d))
      · rw [decide_eq_false h41]
        refine iteF (iteF (t_in2T rfl (.inl rfl) fun H4 s4 => iteT (t_eqC (d := 32) (by decide +kernel) rfl ?_)))
        by_cases h32 : c = 32
        · have hD : nxD (.ticks (TL.numL n)) op c = .tuple [.tuple [.str "start", .str ""], .int (op : Nat)] := by
            rw [nxD, e1, if_neg (fun z => hd z.1), if_neg (fun z => h41 z.1), if_pos h32]
            rfl
          rw [decide_eq_true h32]
          exact iteT (ret_o (K := K) (in_t fun R h => h) (fun H' R h => ⟨_, rfl, h⟩) fun H' u s' d => q H' u (s1.trans (s2.trans (s3.trans (s4.trans (s'))))) (hD ▸ d))
        · have hD : nxD (.ticks (TL.numL n)) op c = .tuple [.tuple [.str "bad", .str ""], .int (op : Nat)] := by rw [nxD, e1, if_neg (fun z => hd z.1), if_neg (fun z => h41 z.1), if_neg h32]
          rw [decide_eq_false h32]
          exact iteF (ret_o (K := K) (in_t fun R h => h) (fun H' R h => ⟨_, rfl, h⟩) fun H' u s' d => q H' u (s1.trans (s2.trans (s3.trans (s4.trans (s'))))) (hD ▸ d))
    | rounds w =>
      have e1 : nxG (.rounds w) op c = if digB c = true ∧ valL (w ++ [c]) ≤ 1000000000000000000 then some (.rounds (w ++ [c]), op) else if c = 42 then some (.star, op) else none := rfl
      obtain ⟨n, rfl, hn1, hn2⟩ := hs
      have hnl : (TL.numL n).length ≤ 19 := TL.numL_len (by decide) (by omega)
      refine ⟨_, rfl, t, _, rfl, hx, rfl, ?_⟩
      dsimp only [gCons, gName, gNil, tSeq, tIfS, tAnd, tNext, tRet, tIf]
      refine ⟨_, _, rfl, _, _, rfl, rfl, ?_⟩
      refine t_eqF (way := "rounds") rfl (by decide +kernel) (iteF (iteF ?_))
      refine t_in2T rfl (.inr rfl) fun H1 s1 => iteT (t_dig rfl ?_)
      by_cases hd : digB c = true
      · obtain ⟨v1, v2, v3, v4⟩ := num_ok (c := c) hn1 (by omega) hd
        have h9 := digB_iff.mp hd
        have h10 : n * 10 + (c - 48) < 10 ^ 31 := by omega
        rw [hd]
        refine iteT (t_ne0 (wd := TL.numL n) rfl rfl (by omega) ?_)
        rw [decide_eq_true v3]
        refine iteT ?_
        by_cases hm : n * 10 + (c - 48) ≤ 1000000000000000000
        · have hD : nxD (.rounds (TL.numL n)) op c = .tuple [.tuple [.str "rounds", .str (mkS (TL.numL n ++ [c]))], .int (op : Nat)] := by rw [nxD, e1, if_pos ⟨hd, by rw [v2]; exact hm⟩]; rfl
          exact (ret_o (K := K) (fun R h => r_if (fun Q k => t_int (wd := TL.numL n) (n := n * 10 + (c - 48)) (e := 18) rfl rfl v1 h10 (by omega) (by decide) k) (by rw [decide_eq_true (Nat.le_trans hm (by decide))]; exact iteT (in_t (x_cat (wd := TL.numL n) rfl rfl (by omega)) R h))) (fun H' R h => ⟨_, rfl, h⟩) fun H' u s' d => q H' u (s1.trans (s')) (hD ▸ d))
        · have hD : nxD (.rounds (TL.numL n)) op c = .tuple [.tuple [.str "bad", .str ""], .int (op : Nat)] := by rw [nxD, e1, if_neg (fun z => hm (by have := z.2; rw [v2] at this; exact this)), if_neg (by omega)]
          exact (ret_o (K := K) (fun R h => r_if (fun Q k => t_int (wd := TL.numL n) (n := n * 10 + (c - 48)) (e := 18) rfl rfl v1 h10 (by omega) (by decide) k) (by rw [decide_eq_false (fun z => hm (Nat.le_trans z (by decide)))]; exact iteF (in_t (fun R h => h) R h))) (fun H' R h => ⟨_, rfl, h⟩) fun H' u s' d => q H' u (s1.trans (s')) (hD ▸ d))
      rw [Bool.eq_false_iff.mpr hd]
      refine iteF (iteF ?_)
      refine t_eqF (way := "rounds") rfl (by decide +kernel) (iteF (iteF ?_))
      refine t_eqF (way := "rounds") rfl (by decide +kernel) (iteF (iteF ?_))
      refine t_in2F (way := "rounds") rfl (by decide +kernel) (by decide +kernel) fun H2 s2 => iteF (iteF ?_)
      refine t_eqT rfl rfl (iteT (t_eqC (d := 42) (by decide +kernel) rfl ?_))
      by_cases h42 : c = 42
      · have hD : nxD (.rounds (TL.numL n)) op c = .tuple [.tuple [.str "star", .str ""], .int (op : Nat)] := by rw [nxD, e1, if_neg (fun z => hd z.1), if_pos h42]; rfl
        rw [decide_eq_true h42]
        exact iteT (ret_o (K := K) (in_t fun R h => h) (fun H' R h => ⟨_, rfl, h⟩) fun H' u s' d => q H' u (s1.trans (s2.trans (s'))) (hD ▸ d))
      have hD : nxD (.rounds (TL.numL n)) op c = .tuple [.tuple [.str "bad", .str ""], .int (op : Nat)] := by rw [nxD, e1, if_neg (fun z => hd z.1), if_neg h42]
      rw [decide_eq_false h42]
      refine iteF ?_
      refine t_eqF (way := "rounds") rfl (by decide +kernel) (iteF (iteF ?_))
      refine t_in2F (way := "rounds") rfl (by decide +kernel) (by decide +kernel) fun H3 s3 => iteF (iteF ?_)
      refine t_in2F (way := "rounds") rfl (by decide +kernel) (by decide +kernel) fun H4 s4 => iteF (iteF ?_)
      exact (ret_o (K := K) (in_t fun R h => h) (fun H' R h => ⟨_, rfl, h⟩) fun H' u s' d => q H' u (s1.trans (s2.trans (s3.trans (s4.trans (s'))))) (hD ▸ d))
    | star =>
      have e1 : nxG .star op c = if c = 40 then some (.start, op + 1) else none := rfl
      refine ⟨_, rfl, t, _, rfl, hx, rfl, ?_⟩
      dsimp only [gCons, gName, gNil, tSeq, tIfS, tAnd, tNext, tRet, tIf]
      refine ⟨_, _, rfl, _, _, rfl, rfl, ?_⟩
      refine t_eqF (way := "star") rfl (by decide +kernel) (iteF (iteF ?_))
      refine t_in2F (way := "star") rfl (by decide +kernel) (by decide +kernel) fun H1 s1 => iteF (iteF ?_)
      refine t_eqF (way := "star") rfl (by decide +kernel) (iteF (iteF ?_))
      refine t_eqF (way := "star") rfl (by decide +kernel) (iteF (iteF ?_))
      refine t_in2F (way := "star") rfl (by decide +kernel) (by decide +kernel) fun H2 s2 => iteF (iteF ?_)
      refine t_eqF (way := "star") rfl (by decide +kernel) (iteF (iteF ?_))
      refine t_eqT rfl rfl (iteT (t_eqC (d := 40) (by decide +kernel) rfl ?_))
      by_cases h40 : c = 40
      · have hD : nxD .star op c = .tuple [.tuple [.str "start", .str ""], .int ((op : Int) + 1)] := by
          rw [nxD, e1, if_pos h40]
          rfl
        rw [decide_eq_true h40]
        exact iteT (ret_o (K := K) (in_t fun R h => h) (fun H' R h => ⟨_, rfl, _, _, rfl, rfl, h⟩) fun H' u s' d => q H' u (s1.trans (s2.trans (s'))) (hD ▸ d))
      have hD : nxD .star op c = .tuple [.tuple [.str "bad", .str ""], .int (op : Nat)] := by rw [nxD, e1, if_neg h40]
      rw [decide_eq_false h40]
      refine iteF ?_
      refine t_in2F (way := "star") rfl (by decide +kernel) (by decide +kernel) fun H3 s3 => iteF (iteF ?_)
      refine t_in2F (way := "star") rfl (by decide +kernel) (by decide +kernel) fun H4 s4 => iteF (iteF ?_)
      exact (ret_o (K := K) (in_t fun R h => h) (fun H' R h => ⟨_, rfl, h⟩) fun H' u s' d => q H' u (s1.trans (s2.trans (s3.trans (s4.trans (s'))))) (hD ▸ d))
    | done =>
      have e1 : nxG .done op c = if c = 41 ∧ 0 < op then some (.done, op - 1) else if c = 32 then some (.start, op) else none := rfl
      refine ⟨_, rfl, t, _, rfl, hx, rfl, ?_⟩
      dsimp only [gCons, gName, gNil, tSeq, tIfS, tAnd, tNext, tRet, tIf]
      refine ⟨_, _, rfl, _, _, rfl, rfl, ?_⟩
      refine t_eqF (way := "done") rfl (by decide +kernel) (iteF (iteF ?_))
      refine t_in2F (way := "done") rfl (by decide +kernel) (by decide +kernel) fun H1 s1 => iteF (iteF ?_)
      refine t_eqF (way := "done") rfl (by decide +kernel) (iteF (iteF ?_))
      refine t_eqF (way := "done") rfl (by decide +kernel) (iteF (iteF ?_))
      refine t_in2F (way := "done") rfl (by decide +kernel) (by decide +kernel) fun H2 s2 => iteF (iteF ?_)
      refine t_eqF (way := "done") rfl (by decide +kernel) (iteF (iteF ?_))
      refine t_eqF (way := "done") rfl (by decide +kernel) (iteF (iteF ?_))
      refine t_in2T rfl (.inr rfl) fun H3 s3 => iteT (t_eqC (d := 41) (by decide +kernel) rfl ?_)
      by_cases h41 : c = 41
      · rw [decide_eq_true h41]
        by_cases ho : 0 < op
        · have hD : nxD .done op c = .tuple [.tuple [.str "done", .str ""], .int ((op : Int) - 1)] := by
            rw [nxD, e1, if_pos ⟨h41, ho⟩]
            show PyData.tuple [.tuple [.str "done", .str ""], .int ((op - 1 : Nat) : Int)] = _
            rw [show ((op - 1 : Nat) : Int) = (op : Int) - 1 by omega]
          refine iteT ⟨_, rfl, _, _, rfl, rfl, true, congrArg V.bl (decide_eq_true (by omega)), ?_⟩
          exact iteT (ret_o (K := K) (in_t fun R h => h) (fun H' R h => ⟨_, rfl, _, _, rfl, rfl, h⟩) fun H' u s' d => q H' u (s1.trans (s2.trans (s3.trans (s')))) (hD ▸ d))
        · have hD : nxD .done op c = .tuple [.tuple [.str "bad", .str ""], .int (op : Nat)] := by rw [nxD, e1, if_neg (fun z => ho z.2), if_neg (by omega)]
          refine iteT ⟨_, rfl, _, _, rfl, rfl, false, congrArg V.bl (decide_eq_false (by omega)), ?_⟩
          refine iteF (t_in2T rfl (.inr rfl) fun H4 s4 => iteT (t_eqC (d := 32) (by decide +kernel) rfl ?_))
          rw [decide_eq_false (by omega)]
          exact iteF (ret_o (K := K) (in_t fun R h => h) (fun H' R h => ⟨_, rfl, h⟩) fun H' u s' d => q H' u (s1.trans (s2.trans (s3.trans (s4.trans (s'))))) (hD ▸ d))
      · rw [decide_eq_false h41]
        refine iteF (iteF (t_in2T rfl (.inr rfl) fun H4 s4 => iteT (t_eqC (d := 32) (by decide +kernel) rfl ?_)))
        by_cases h32 : c = 32
        · have hD : nxD .done op c = .tuple [.tuple [.str "start", .str ""], .int (op : Nat)] := by
            rw [nxD, e1, if_neg (fun z => h41 z.1), if_pos h32]
            rfl
          rw [decide_eq_true h32]
          exact iteT (ret_o (K := K) (in_t fun R h => h) (fun H' R h => ⟨_, rfl, h⟩) fun H' u s' d => q H' u (s1.trans (s2.trans (s3.trans (s4.trans (s'))))) (hD ▸ d))
        · have hD : nxD .done op c = .tuple [.tuple [.str "bad", .str ""], .int (op : Nat)] := by rw [nxD, e1, if_neg (fun z => h41 z.1), if_neg h32]
          rw [decide_eq_false h32]
          exact iteF (ret_o (K := K) (in_t fun R h => h) (fun H' R h => ⟨_, rfl, h⟩) fun H' u s' d => q H' u (s1.trans (s2.trans (s3.trans (s4.trans (s'))))) (hD ▸ d))
end
end Ev

/-! ## for i, x in enumerate(a list) -/
namespace Ev
open PySem PySem.Spec PyProof.Rows L2
theorem for_enumL {K : PySem.W.Frag} {a : Addr} {xs : List V} {g : TG} {tb : TS} {D : Ends} {σ : L2.St} {H : Hp} (Pv : Nat → L2.St → Hp → Prop) (h0 : Pv 0 σ H) (hl : ∀ i σ H, i ≤ xs.length → Pv i σ H → SqL K H a xs)
    (hs : ∀ i x σ H T, xs[i]? = some x → Pv i σ H → H T = none → g (.ref T) σ (upd H T (.tup [.int (i : Nat), x])) fun σ2 H2 => tb { D with nx := Pv (i + 1), ct := Pv (i + 1), bk := D.nx } σ2 H2) (hd : ∀ σ H, Pv xs.length σ H → D.nx σ H) :
    ∃ W : Nat → Nat → L2.St → Hp → Prop, (∃ m, W 0 m σ H) ∧ ∀ i m σ H, W i m σ H →
      ((Ite K a).stop i H ∧ D.nx σ H) ∨ ((Ite K a).go i H ∧ ∃ N : L2.St → Hp → Prop, (∀ σ' H', N σ' H' → ∃ m', m' < m ∧ W (i + 1) m' σ' H') ∧ ∀ x H', (Ite K a).yld i H x H' → g x σ H' fun σ2 H2 => tb { D with nx := N, ct := N, bk := D.nx } σ2 H2) := by
  refine ⟨fun i m σ H => m = xs.length - i ∧ i ≤ xs.length ∧ Pv i σ H, ⟨xs.length, rfl, Nat.zero_le _, h0⟩, ?_⟩
  rintro i m σ H ⟨rfl, hi, hp⟩
  have hq := hl i σ H hi hp
  by_cases hlt : i < xs.length
  · refine .inr ⟨⟨xs, xs[i], hq, List.getElem?_eq_getElem hlt⟩, Pv (i + 1), fun σ' H' h => ⟨xs.length - (i + 1), by omega, rfl, hlt, h⟩, ?_⟩
    rintro v H' ⟨T, x, rfl, nT, rfl, hx⟩
    exact hs i x σ H T (hx xs hq) hp nT
  · have e : i = xs.length := by omega
    subst e
    exact .inl ⟨⟨xs, hq, Nat.le_refl _⟩, hd σ H hp⟩
/-- found so far -/
structure WI (w : List Str) (cs : List Nat) (m i : Nat) : Prop where
  len : w.length = m + m
  ab : ∀ x ∈ w, x = ("a" : Str) ∨ x = ("b" : Str)
  cnt : ∀ c, c < i → c < m → (if w[c]? = some ("a" : Str) then (1 : Int) else 0) + (if w[m + c]? = some ("a" : Str) then 1 else 0) = ((cs.getD c 0 : Nat) : Int)
  rest : ∀ c, i ≤ c → c < m → w[c]? = some ("b" : Str) ∧ w[m + c]? = some ("b" : Str)
def markS (w : List Str) (i : Nat) : Bool → List Str
  | true => w.set i ("a" : Str)
  | false => w
theorem mark_len {w : List Str} {i : Nat} : ∀ {x : Bool}, (markS w i x).length = w.length
  | true => List.length_set
  | false => rfl
theorem mark_ne {w : List Str} {i j : Nat} (h : i ≠ j) : ∀ {x : Bool}, (markS w i x)[j]? = w[j]?
  | true => List.getElem?_set_ne h
  | false => rfl
theorem mark_ab {w : List Str} {i : Nat} (h : ∀ x ∈ w, x = ("a" : Str) ∨ x = ("b" : Str)) : ∀ {x : Bool}, ∀ z ∈ markS w i x, z = ("a" : Str) ∨ z = ("b" : Str)
  | true, z, hz => by
    rcases List.mem_or_eq_of_mem_set hz with e | e
    · exact h z e
    · exact .inl e
  | false, z, hz => h z hz
theorem ab_ne7 : ("a" : Str) ≠ ("b" : Str) := by decide +kernel
theorem mark_at {w : List Str} {i : Nat} (hi : i < w.length) (hb : w[i]? = some ("b" : Str)) : ∀ {x : Bool}, (if (markS w i x)[i]? = some ("a" : Str) then (1 : Int) else 0) = if x = true then 1 else 0
  | true => by
    rw [if_pos rfl, if_pos]
    exact List.getElem?_set_self hi
  | false => by
    rw [if_neg Bool.false_ne_true, if_neg]
    intro z
    have z : w[i]? = some ("a" : Str) := z
    rw [hb] at z
    exact ab_ne7 (Option.some.inj z).symm
theorem WI.next {w : List Str} {cs : List Nat} {m i : Nat} (h : WI w cs m i) (hi : i < m) {x y : Bool} (hxy : (if x = true then (1 : Int) else 0) + (if y = true then 1 else 0) = ((cs.getD i 0 : Nat) : Int)) : WI (markS (markS w i x) (m + i) y) cs m (i + 1) := by
  obtain ⟨b1, b2⟩ := h.rest i (Nat.le_refl i) hi
  have l1 : (markS w i x).length = m + m := mark_len.trans h.len
  refine ⟨mark_len.trans l1, mark_ab (mark_ab h.ab), fun c hc hcm => ?_, fun c hc hcm => ?_⟩
  · by_cases e : c = i
    · subst e
      rw [mark_ne (show m + c ≠ c by omega), mark_at (by rw [h.len]; omega) b1, mark_at (by rw [l1]; omega) (by rw [mark_ne (show c ≠ m + c by omega)]; exact b2)]
      exact hxy
    · rw [mark_ne (show m + i ≠ c by omega), mark_ne (show i ≠ c by omega), mark_ne (show m + i ≠ m + c by omega), mark_ne (show i ≠ m + c by omega)]
      exact h.cnt c (by omega) hcm
  · rw [mark_ne (show m + i ≠ c by omega), mark_ne (show i ≠ c by omega), mark_ne (show m + i ≠ m + c by omega), mark_ne (show i ≠ m + c by omega)]
    exact h.rest c (by omega) hcm
theorem WI.zero (cs : List Nat) (m : Nat) : WI (List.replicate (m + m) ("b" : Str)) cs m 0 := ⟨List.length_replicate, fun x hx => .inr (List.eq_of_mem_replicate hx), fun c hc => absurd hc (Nat.not_lt_zero c), fun c _ hc => ⟨List.getElem?_replicate_of_lt (by omega), List.getElem?_replicate_of_lt (by omega)⟩⟩
end Ev

/-! ## for i, x in enumerate(a tuple), over the library's WalksT.enumerateD and Draws.tuple -/
namespace Ev
open PySem PySem.Spec PyProof.Rows L2
/-- what enumerate(v) leaves, o being v's new iterator -/
def enumHeap (h : Heap) (o : Obj) : Heap := (h.push o).push ⟨.type "enumerate", none, .fields #[.none, .bool false, .ref h.objs.size, rawInt 0, .none, .none], #[]⟩
theorem enum_one {v : Value} {o : Obj} {G : Heap → Prop} (B : Begins v o G) :
    Meets (Builtin.«enumerate.__new__» ⟨[.type "enumerate", v], []⟩) (fun _ R s => G s.heap ∧ R (.ok (.ret (.ref (s.heap.push o).objs.size))) { s with heap := enumHeap s.heap o }) :=
  .of_wp fun prog w A R ⟨hp, g, d, tk, os⟩ ⟨hG, h⟩ => by
    have sub := sub_enumerate
    have it := fun (A : Around) E Q => B.iter prog w A E ⟨hp, g, d, tk, os⟩ Q hG
    wp_walk
    refine wpAny_stack_any fun st => wpAny_pure ?_
    split
    · rename_i c _ _ _ _ _
      cases (c == Value.type "enumerate") <;> (wp_walk using it; exact ⟨_, rfl, h⟩)
    · wp_walk using it
      exact ⟨_, rfl, h⟩
theorem enum_two {P : Program} {w : World} {A : Around} {E : Value → Shared → Prop} {s : Shared} {v : Value} {o : Obj} {G : Heap → Prop} {Q : Value → Shared → Prop} (B : Begins v o G) (hG : G s.heap)
    (q : IsEnum (enumHeap s.heap o) (s.heap.objs.size + 1) s.heap.objs.size 0 .none → Q (.ref (s.heap.objs.size + 1)) { s with heap := enumHeap s.heap o }) : wpAny (model P w) A (call (.type "enumerate") [v]) Q E s := by
  have sz : (s.heap.push o).objs.size = s.heap.objs.size + 1 := Heap.size_push ..
  have at1 := Heap.get?_push_size (s.heap.push o) (o := ⟨.type "enumerate", none, .fields #[.none, .bool false, .ref s.heap.objs.size, rawInt 0, .none, .none], #[]⟩) rfl
  rw [sz] at at1
  have fin : s.heap.objs.size + 1 = (s.heap.push o).objs.size := sz.symm
  refine callType_new F.called_enumerate (by decide) (F.typeCall_enumerate_1 v) (F.newCall_enumerate_1 v) (fun ob => F.args_object_init_2 ob v) F.entry_enumerate_new (enum_one B) ⟨hG, ?_⟩
  show Shared.TypeIs _ _ _ ∧ _
  rw [← fin]
  exact ⟨⟨_, at1, rfl⟩, q at1⟩
/-- the pairs of a tuple's places and items -/
def IteT (K : PySem.W.Frag) (a : Addr) : L2.It where
  go i H := ∃ xs x, SqT K H a xs ∧ xs[i]? = some x
  yld i H v H' := ∃ T x, v = V.ref T ∧ H T = none ∧ H' = upd H T (.tup [.int (i : Nat), x]) ∧ ∀ xs, SqT K H a xs → xs[i]? = some x
  stop i H := ∃ xs, SqT K H a xs ∧ xs.length = i
/-- the cells of such a walk -/
structure EnT (a e it : Addr) (i : Nat) (h : Heap) : Prop where
  en : ∃ old, IsEnum h e it ((i : Nat) : Int) old
  tu : h.IsTupleIter it a i
  ei : e ≠ it
  ai : a ≠ it
  ae : a ≠ e
theorem two_cells {e it b : Addr} (h : b ∈ [e, it]) : b = e ∨ b = it := by simpa using h
theorem turnT {P : Program} {w : World} {K : PySem.W.Frag} {elts : List Expr} {kk : Nat} {tpos : Pos} (a e it : Addr) : L2.Turn P w K (.Tuple elts kk tpos) (IteT K a) [e, it] e (EnT a e it) where
  mem := List.mem_cons_self ..
  obj i h st b hb := by
    rcases two_cells hb with rfl | rfl
    · obtain ⟨old, q⟩ := st.en
      exact ⟨_, q, nofun⟩
    · obtain ⟨o, q, _, dt⟩ := st.tu
      exact ⟨o, q, fun v z => nomatch dt.symm.trans z⟩
  keep i h h' st k := by
    obtain ⟨old, q⟩ := st.en
    exact ⟨⟨old, k e (by simp) _ q⟩, st.tu.at (k it (by simp)), st.ei, st.ai, st.ae⟩
  item := by
    rintro X rfl rfl rfl calm i pins s σ H E I own st ⟨xs, x, hq, hx⟩
    obtain ⟨its, vals, isT, _⟩ := I.tuple hq
    obtain ⟨u, hu, ru⟩ := vals.get hx
    have W := WalksT.enumerateD (Draws.tuple (prog := X.prog) (w := X.w) (A := X.A.in1) (I.ok.hd calm) it a st.ai its.toArray) e st.ei (by simp [st.ei, Ne.symm st.ae]) (by simp)
    have inside : i < its.toArray.size := by
      rw [List.size_toArray]
      exact (List.getElem?_eq_some_iff.mp hu).1
    refine W.item i s _ E inside ⟨st.en, st.tu, isT⟩ fun T vs h1 tk pt big tup mid k1 => ⟨_, rfl, W.go elts kk tpos i T _ _ E mid fun h2 st2 k2 => ?_⟩
    obtain ⟨t, y, hy, rfl⟩ := pt
    obtain rfl : y = u := Option.some.inj (hy.symm.trans (by simpa using hu))
    obtain ⟨oT, gT, cT, dT⟩ := tup
    have new : ObjOk X.prog X.w (upd H T (.tup [.int (i : Nat), x])) h2 T (.tup [.int (i : Nat), x]) :=
      ⟨(by show 2 ≤ sizeLine; decide), [.int i t, y], .cons ⟨t, rfl⟩ (.cons ru .nil), oT, k2 T oT (W.apart i T h1 mid) gT, cT, dT⟩
    have J := I.turnedNew (t' := tk) (fun b o nb q => k2 b o nb (k1 b o nb q)) own big new
    have fresh : ∀ b ∈ [e, it], b ≠ T := fun b hb z => by
      obtain ⟨o, q, _⟩ : ∃ o, s.heap.get? b = some o ∧ True := by
        rcases two_cells hb with rfl | rfl
        · obtain ⟨old, q⟩ := st.en
          exact ⟨_, q, trivial⟩
        · obtain ⟨o, q, _⟩ := st.tu
          exact ⟨o, q, trivial⟩
      have lt := Heap.lt_size q
      rw [z] at lt
      exact Nat.lt_irrefl _ (Nat.lt_of_lt_of_le lt big)
    refine ⟨.ref T, _, J, rfl, ⟨T, x, rfl, I.hok.fresh big, rfl, fun ys hy => I.tuple_inj hq hy ▸ hx⟩, ⟨?_, st2.2.1, st.ei, st.ai, st.ae⟩, fun b hb => ?_⟩
    · obtain ⟨old, q⟩ := st2.1
      exact ⟨old, q⟩
    · rw [upd_ne (fresh b hb)]
      exact (own b hb).1
  done := by
    rintro X rfl rfl rfl calm i pins s σ H E I own st ⟨xs, hq, hl⟩
    obtain ⟨its, vals, isT, _⟩ := I.tuple hq
    have n : its.toArray.size = i := by
      rw [List.size_toArray, ← hl]
      exact vals.length.symm
    obtain ⟨old, q⟩ := st.en
    obtain ⟨f0, f1, _, f3, f4, f5⟩ := own it (by simp)
    refine wpAny_pyNext_enum_endD (Draws.tuple (A := X.A.in1) (I.ok.hd calm) it a st.ai its.toArray) q (by rw [n]; exact ⟨st.tu, isT⟩) fun h' k => ⟨rfl, ?_⟩
    exact I.turned (t' := s.toks) (fun b o nb z => k b o nb z) f0 f1 f3 f4 f5
  self A i s Q E st h := by
    obtain ⟨old, q⟩ := st.en
    exact wpAny_pyIter_enum q h
def iEnumT (K : PySem.W.Frag) (ta : TA) : TI := fun σ H R => ta σ H fun vs H1 => ∃ a xs, vs = [.ref a] ∧ SqT K H1 a xs ∧ R (IteT K a) H1
theorem pi_enumT {X : Cx} {e : Expr} {ta : TA} {p pos tpos : Pos} {elts : List Expr} {kk : Nat} (hg : Gl X "enumerate") (hm : X.mg "enumerate" = none) (ha : PA X [e] ta) (hs : starEach [e] X.env = [(false, eval e X.env)] := by rfl) :
    PI X (.Tuple elts kk tpos) (.Call (.Name "enumerate" p) [e] [] pos) (iEnumT X.K ta) where
  run pins s σ H R I h := by
    have args := ha.run pos pins s σ H _ I h
    refine Call_ (ld_blt I hg hm boot_enumerate (PyProof.Rows.callWith_type1 (thn args ?_) hs rfl))
    rintro us s1 ⟨vs, H1, I1, rel, a, xs, rfl, hq, q⟩
    obtain ⟨u, rfl, ra⟩ := vals1 rel
    cases ra
    obtain ⟨its, vals, isT, _⟩ := I1.tuple hq
    obtain ⟨oa, ga, _⟩ := id isT
    have la := Heap.lt_size ga
    refine enum_two (begins_tuple a its.toArray) isT fun en => wpAny_pyIter_enum en ?_
    have kp : ∀ b o, s1.heap.get? b = some o → (enumHeap s1.heap ⟨.type "tuple_iterator", none, .fields #[.ref a, .int 0 0], #[]⟩).get? b = some o := fun b o z => Heap.get?_push_of_some _ (Heap.get?_push_of_some _ z)
    have ti : (enumHeap s1.heap ⟨.type "tuple_iterator", none, .fields #[.ref a, .int 0 0], #[]⟩).IsTupleIter s1.heap.objs.size a 0 := ⟨_, Heap.get?_push_of_some _ (Heap.get?_push_size _ rfl), rfl, rfl⟩
    refine ⟨_, [s1.heap.objs.size + 1, s1.heap.objs.size], _, _, H1, rfl, I1.kept (t' := s1.toks) kp, turnT a _ _, ⟨⟨.none, en⟩, ti, Nat.succ_ne_self _, Nat.ne_of_lt la, Nat.ne_of_lt (Nat.lt_succ_of_lt la)⟩, fun b hb => ?_, q⟩
    have above : s1.heap.objs.size ≤ b := by
      rcases two_cells hb with z | z
      · exact z ▸ Nat.le_succ _
      · exact z ▸ Nat.le_refl _
    exact I1.fpOk above (I1.hok.fresh above)
theorem walk_enumT {K : PySem.W.Frag} {a : Addr} {xs : List V} : Walk (IteT K a) xs.length (fun H => SqT K H a xs) (YPair (fun i => some (.int (i : Nat))) (fun i => xs[i]?)) where
  goes i H hi hq := ⟨xs, xs[i], hq, List.getElem?_eq_getElem hi⟩
  stops H hq := ⟨xs, hq, rfl⟩
  yields i H v H' _ hq := by
    rintro ⟨T, x, rfl, nT, rfl, hx⟩
    exact ⟨T, .int (i : Nat), x, rfl, nT, rfl, rfl, hx xs hq⟩
end Ev

/-! ## for i, c in enumerate(a text), over the library's WalksT.enumerateD and Draws.text -/
namespace Ev
open PySem PySem.Spec PyProof.Rows L2
/-- the pairs of a text's places and signs -/
def IteS (x : Str) : L2.It where
  go i H := i < x.cps.size
  yld i H v H' := ∃ T c, v = V.ref T ∧ H T = none ∧ H' = upd H T (.tup [.int (i : Nat), .str ⟨#[c]⟩]) ∧ x.cps[i]? = some c
  stop i H := x.cps.size = i
structure EnS (x : Str) (tk : Tok) (e it : Addr) (i : Nat) (h : Heap) : Prop where
  en : ∃ old, IsEnum h e it ((i : Nat) : Int) old
  tu : h.IsStrIter it (strIterType x) x tk i
  ei : e ≠ it
theorem turnS {P : Program} {w : World} {K : PySem.W.Frag} {elts : List Expr} {kk : Nat} {tpos : Pos} (x : Str) (tk0 : Tok) (e it : Addr) : L2.Turn P w K (.Tuple elts kk tpos) (IteS x) [e, it] e (EnS x tk0 e it) where
  mem := List.mem_cons_self ..
  obj i h st b hb := by
    rcases two_cells hb with rfl | rfl
    · obtain ⟨old, q⟩ := st.en
      exact ⟨_, q, nofun⟩
    · obtain ⟨o, q, _, dt⟩ := st.tu
      exact ⟨o, q, fun v z => nomatch dt.symm.trans z⟩
  keep i h h' st k := by
    obtain ⟨old, q⟩ := st.en
    obtain ⟨o, ho, hc, hd⟩ := st.tu
    exact ⟨⟨old, k e (by simp) _ q⟩, ⟨o, k it (by simp) _ ho, hc, hd⟩, st.ei⟩
  item := by
    rintro X rfl rfl rfl calm i pins s σ H E I own st hx
    have W := WalksT.enumerateD (Draws.text (prog := X.prog) (w := X.w) (A := X.A.in1) (I.ok.hd calm) it x tk0) e st.ei (by simp [st.ei]) (by simp)
    refine W.item i s _ E hx ⟨st.en, st.tu⟩ fun T vs h1 tk pt big tup mid k1 => ⟨_, rfl, W.go elts kk tpos i T _ _ E mid fun h2 st2 k2 => ?_⟩
    obtain ⟨t, y, ⟨c, u, hc, rfl⟩, rfl⟩ := pt
    obtain ⟨oT, gT, cT, dT⟩ := tup
    have new : ObjOk X.prog X.w (upd H T (.tup [.int (i : Nat), .str ⟨#[c]⟩])) h2 T (.tup [.int (i : Nat), .str ⟨#[c]⟩]) :=
      ⟨(by show 2 ≤ sizeLine; decide), [.int i t, .str ⟨#[c]⟩ u], .cons ⟨t, rfl⟩ (.cons ⟨u, rfl⟩ .nil), oT, k2 T oT (W.apart i T h1 mid) gT, cT, dT⟩
    have J := I.turnedNew (t' := tk) (fun b o nb q => k2 b o nb (k1 b o nb q)) own big new
    have fresh : ∀ b ∈ [e, it], b ≠ T := fun b hb z => by
      obtain ⟨o, q, _⟩ : ∃ o, s.heap.get? b = some o ∧ True := by
        rcases two_cells hb with rfl | rfl
        · obtain ⟨old, q⟩ := st.en
          exact ⟨_, q, trivial⟩
        · obtain ⟨o, q, _⟩ := st.tu
          exact ⟨o, q, trivial⟩
      have lt := Heap.lt_size q
      rw [z] at lt
      exact Nat.lt_irrefl _ (Nat.lt_of_lt_of_le lt big)
    refine ⟨.ref T, _, J, rfl, ⟨T, c, rfl, I.hok.fresh big, rfl, hc⟩, ⟨?_, st2.2, st.ei⟩, fun b hb => ?_⟩
    · obtain ⟨old, q⟩ := st2.1
      exact ⟨old, q⟩
    · rw [upd_ne (fresh b hb)]
      exact (own b hb).1
  done := by
    rintro X rfl rfl rfl calm i pins s σ H E I own st n
    obtain ⟨old, q⟩ := st.en
    obtain ⟨f0, f1, _, f3, f4, f5⟩ := own it (by simp)
    refine wpAny_pyNext_enum_endD (Draws.text (A := X.A.in1) (I.ok.hd calm) it x tk0) q (by rw [show x.cps.size = i from n]; exact st.tu) fun h' k => ⟨rfl, ?_⟩
    exact I.turned (t' := s.toks) (fun b o nb z => k b o nb z) f0 f1 f3 f4 f5
  self A i s Q E st h := by
    obtain ⟨old, q⟩ := st.en
    exact wpAny_pyIter_enum q h
def iEnumS (ta : TA) : TI := fun σ H R => ta σ H fun vs H1 => ∃ x, vs = [.str x] ∧ R (IteS x) H1
theorem pi_enumS {X : Cx} {e : Expr} {ta : TA} {p pos tpos : Pos} {elts : List Expr} {kk : Nat} (hg : Gl X "enumerate") (hm : X.mg "enumerate" = none) (ha : PA X [e] ta) (hs : starEach [e] X.env = [(false, eval e X.env)] := by rfl) :
    PI X (.Tuple elts kk tpos) (.Call (.Name "enumerate" p) [e] [] pos) (iEnumS ta) where
  run pins s σ H R I h := by
    have args := ha.run pos pins s σ H _ I h
    refine Call_ (ld_blt I hg hm boot_enumerate (PyProof.Rows.callWith_type1 (thn args ?_) hs rfl))
    rintro us s1 ⟨vs, H1, I1, rel, x, rfl, q⟩
    obtain ⟨u, rfl, ra⟩ := vals1 rel
    obtain ⟨tk, rfl⟩ := ra
    refine enum_two (begins_text x tk) trivial fun en => wpAny_pyIter_enum en ?_
    have kp : ∀ b o, s1.heap.get? b = some o → (enumHeap s1.heap ⟨.type (strIterType x), none, .fields #[.str x tk, .int 0 0], #[]⟩).get? b = some o := fun b o z => Heap.get?_push_of_some _ (Heap.get?_push_of_some _ z)
    have ti : (enumHeap s1.heap ⟨.type (strIterType x), none, .fields #[.str x tk, .int 0 0], #[]⟩).IsStrIter s1.heap.objs.size (strIterType x) x tk 0 := ⟨_, Heap.get?_push_of_some _ (Heap.get?_push_size _ rfl), rfl, rfl⟩
    refine ⟨_, [s1.heap.objs.size + 1, s1.heap.objs.size], _, _, H1, rfl, I1.kept (t' := s1.toks) kp, turnS x tk _ _, ⟨⟨.none, en⟩, ti, Nat.succ_ne_self _⟩, fun b hb => ?_, q⟩
    have above : s1.heap.objs.size ≤ b := by
      rcases two_cells hb with z | z
      · exact z ▸ Nat.le_succ _
      · exact z ▸ Nat.le_refl _
    exact I1.fpOk above (I1.hok.fresh above)
theorem walk_enumS {x : Str} : Walk (IteS x) x.cps.size (fun _ => True) (YPair (fun i => some (.int (i : Nat))) (fun i => (x.cps[i]?).map fun c => V.str ⟨#[c]⟩)) where
  goes i H hi _ := hi
  stops H _ := rfl
  yields i H v H' _ _ := by
    rintro ⟨T, c, rfl, nT, rfl, hc⟩
    exact ⟨T, .int (i : Nat), .str ⟨#[c]⟩, rfl, nT, rfl, rfl, by show Option.map _ x.cps[i]? = _; rw [hc]; rfl⟩
end Ev

/-! ## k60: where no text goes on -/
namespace Ev
open PySem PySem.Spec PyProof.Rows L2
def wrV : Option Nat → V
  | none => .non
  | some n => .int (n : Nat)
def spWr60 (K : PySem.W.Frag) : Sp := fun vs H Q _ => ∃ z : Str, vs = [.str z] ∧ z.length ≤ sizeLine ∧ ∀ H', Same H H' → Q (wrV (wrongG (TL.tl z))) H'
theorem way_ne : ∀ s : Sg, s.way ≠ ("bad" : Str)
  | .start => (by decide +kernel : ("start" : Str) ≠ "bad")
  | .name _ => (by decide +kernel : ("name" : Str) ≠ "bad")
  | .mark => (by decide +kernel : ("mark" : Str) ≠ "bad")
  | .ticks _ => (by decide +kernel : ("ticks" : Str) ≠ "bad")
  | .rounds _ => (by decide +kernel : ("rounds" : Str) ≠ "bad")
  | .star => (by decide +kernel : ("star" : Str) ≠ "bad")
  | .done => (by decide +kernel : ("done" : Str) ≠ "bad")
theorem way_fin : ∀ s : Sg, (decide (s.way = ("ticks" : Str)) || decide (s.way = ("done" : Str))) = s.fin
  | .start => (by decide +kernel : (decide (("start" : Str) = "ticks") || decide (("start" : Str) = "done")) = false)
  | .name _ => (by decide +kernel : (decide (("name" : Str) = "ticks") || decide (("name" : Str) = "done")) = false)
  | .mark => (by decide +kernel : (decide (("mark" : Str) = "ticks") || decide (("mark" : Str) = "done")) = false)
  | .ticks _ => (by decide +kernel : (decide (("ticks" : Str) = "ticks") || decide (("ticks" : Str) = "done")) = true)
  | .rounds _ => (by decide +kernel : (decide (("rounds" : Str) = "ticks") || decide (("rounds" : Str) = "done")) = false)
  | .star => (by decide +kernel : (decide (("star" : Str) = "ticks") || decide (("star" : Str) = "done")) = false)
  | .done => (by decide +kernel : (decide (("done" : Str) = "ticks") || decide (("done" : Str) = "done")) = true)
theorem one_num {c : Nat} (h : digB c = true ∧ c ≠ 48) : ∃ n, [c] = TL.numL n ∧ 1 ≤ n ∧ n ≤ 9 := by
  obtain ⟨h1, h2⟩ := one_dig h.1
  have z := digB_iff.mp h.1
  have h3 := h.2
  exact ⟨c - 48, h1, by omega, h2⟩
theorem nx_ok {s : Sg} {op c : Nat} {x : Sg × Nat} (hs : s.ok) (h : nxG s op c = some x) : x.1.ok := by
  cases s with
  | start =>
    rw [nxG] at h
    by_cases h1 : letB c = true
    · rw [if_pos h1] at h
      cases h
      exact (by decide : 1 ≤ 8)
    · rw [if_neg h1] at h
      by_cases h2 : digB c = true ∧ c ≠ 48
      · rw [if_pos h2] at h
        cases h
        obtain ⟨n, a1, a2, a3⟩ := one_num h2
        exact ⟨n, a1, a2, by omega⟩
      · rw [if_neg h2] at h
        cases h
  | name w =>
    rw [nxG] at h
    by_cases h1 : letB c = true ∧ w.length < 8
    · rw [if_pos h1] at h
      cases h
      show (w ++ [c]).length ≤ 8
      rw [List.length_append]
      exact h1.2
    · rw [if_neg h1] at h
      by_cases h2 : c = 58
      · rw [if_pos h2] at h
        cases h
        trivial
      · rw [if_neg h2] at h
        cases h
  | mark =>
    rw [nxG] at h
    by_cases h2 : digB c = true ∧ c ≠ 48
    · rw [if_pos h2] at h
      cases h
      obtain ⟨n, a1, a2, a3⟩ := one_num h2
      exact ⟨n, a1, a2, by omega⟩
    · rw [if_neg h2] at h
      cases h
  | ticks w =>
    obtain ⟨n, rfl, hn1, hn2⟩ := hs
    rw [nxG] at h
    by_cases h1 : digB c = true ∧ valL (TL.numL n ++ [c]) ≤ 1000000000000
    · rw [if_pos h1] at h
      cases h
      obtain ⟨v1, v2, v3, v4⟩ := num_ok (c := c) hn1 (by omega) h1.1
      have z := h1.2
      rw [v2] at z
      exact ⟨_, v1, by omega, z⟩
    · rw [if_neg h1] at h
      by_cases h2 : c = 41 ∧ 0 < op
      · rw [if_pos h2] at h
        cases h
        trivial
      · rw [if_neg h2] at h
        by_cases h3 : c = 32
        · rw [if_pos h3] at h
          cases h
          trivial
        · rw [if_neg h3] at h
          cases h
  | rounds w =>
    obtain ⟨n, rfl, hn1, hn2⟩ := hs
    rw [nxG] at h
    by_cases h1 : digB c = true ∧ valL (TL.numL n ++ [c]) ≤ 1000000000000000000
    · rw [if_pos h1] at h
      cases h
      obtain ⟨v1, v2, v3, v4⟩ := num_ok (c := c) hn1 (by omega) h1.1
      have z := h1.2
      rw [v2] at z
      exact ⟨_, v1, by omega, z⟩
    · rw [if_neg h1] at h
      by_cases h2 : c = 42
      · rw [if_pos h2] at h
        cases h
        trivial
      · rw [if_neg h2] at h
        cases h
  | star =>
    rw [nxG] at h
    by_cases h2 : c = 40
    · rw [if_pos h2] at h
      cases h
      trivial
    · rw [if_neg h2] at h
      cases h
  | done =>
    rw [nxG] at h
    by_cases h2 : c = 41 ∧ 0 < op
    · rw [if_pos h2] at h
      cases h
      trivial
    · rw [if_neg h2] at h
      by_cases h3 : c = 32
      · rw [if_pos h3] at h
        cases h
        trivial
      · rw [if_neg h3] at h
        cases h
theorem inV_two (way a b : Str) : inV (V.str way) [V.str a, V.str b] = (decide (way = a) || decide (way = b)) := by
  have e1 : ∀ x : Str, eqV (V.str x) (V.str way) = decide (way = x) := fun x => by
    show (x == way) = _
    rw [Bool.eq_iff_iff, beq_iff_eq, decide_eq_true_eq]
    exact eq_comm
  show (eqV (V.str a) (V.str way) || (eqV (V.str b) (V.str way) || false)) = _
  rw [e1, e1, Bool.or_false]
theorem da_two {K : PySem.W.Frag} {H : Hp} {u : V} {d1 d2 : PyData} (h : Da K H u (.tuple [d1, d2])) : ∃ a w1 w2, u = .ref a ∧ SqT K H a [w1, w2] ∧ Da K H w1 d1 ∧ Da K H w2 d2 := by
  obtain ⟨t, xs, rfl, hx, hxa⟩ := da_prog h
  cases hxa with
  | cons a b =>
    cases b with
    | cons c d =>
      cases d
      exact ⟨_, _, _, rfl, hx, a, c⟩
theorem scWr : FnScope ["_law_page", "_law_state", "_law_opened", "_law_at", "_law_sign"] ["_law_page"] (defScope (topS 34)) := ⟨rfl, rfl, rfl, by decide +kernel, rfl, by decide +kernel, by decide +kernel⟩
section
variable {P : Program} {w : World} {K : PySem.W.Frag} {mg : Str → Option Value} {base : Heap}
theorem ok_wr60 (D : Def K mg "_law_wrong_at" (topS 34) ["_law_page"]) (C__law_next : Cal P w K mg base 1 "_law_next" ["_law_state", "_law_opened", "_law_sign"] (spNx K)) (nb : NB mg) : Cal P w K mg base 2 "_law_wrong_at" ["_law_page"] (spWr60 K) := by
  refine D.ok scWr (fun vs H Q E h => ?_) (fun fa cdv A outer sh H vs Q E hr gd h => ?_)
  · obtain ⟨z, rfl, _⟩ := h
    rfl
  · obtain ⟨z, rfl, hz, q⟩ := h
    refine ⟨_, (pss_cons (ps_asg (pe_tup (pa_cons (pe_tup (pa_cons pe_str (pa_cons pe_str pa_nil))) (pa_cons pe_int pa_nil))) (pg_tup rfl (pgs_cons (pg_name (i := 1) scWr.nd rfl (Or.inl rfl)) (pgs_cons (pg_name (i := 2) scWr.nd rfl (Or.inl rfl)) pgs_nil))))
      (pss_cons (ps_for PassesOwn.never rfl (pi_enumS rfl nb.at (pa_cons (pv 0) pa_nil)) (pg_tup rfl (pgs_cons (pg_name (i := 3) scWr.nd rfl (Or.inl rfl)) (pgs_cons (pg_name (i := 4) scWr.nd rfl (Or.inl rfl)) pgs_nil)))
        (pss_cons (ps_asg (pcall C__law_next (hr.mono (by omega)) gd (by rfl) (pa_cons (pv 1) (pa_cons (pv 2) (pa_cons (pv 4) pa_nil)))) (pg_tup rfl (pgs_cons (pg_name (i := 1) scWr.nd rfl (Or.inl rfl)) (pgs_cons (pg_name (i := 2) scWr.nd rfl (Or.inl rfl)) pgs_nil))))
        (pss_one (ps_if (pt_cmpR op_eq (pe_ix ix_tup (pv 1) pe_int (fun _ _ => rfl)) pe_str (nomark _))
          (pss_one (ps_ret (pv 3)))
          pss_nil))))
      (pss_one (ps_ret (pe_ifExp (PW.pt (pw_and (pt_cmpR op_eq (pv 2) pe_int (nomark _)) (pw_and1 (pt_cmpR op_in_seq (pe_ix ix_tup (pv 1) pe_int (fun _ _ => rfl)) (pe_tup (pa_cons pe_str (pa_cons pe_str pa_nil))) rfl)))) pe_non (pe_callB call_len_str (by rfl) nb.at (by decide +kernel) (pa_cons (pv 0) pa_nil))))))), ?_⟩
    have y := sizeLine_eq
    refine ⟨(by show 2 ≤ sizeLine; decide), fun t1 n1 => ⟨(by show 2 ≤ sizeLine; decide), fun t2 n2 => ⟨t2, _, rfl, .inl (.inl upd_same), rfl, _, _, rfl, _, _, rfl, rfl, ?_⟩⟩⟩
    refine ⟨_, rfl, z, rfl, for_it walk_enumS (fun i σ' H' => ∃ (s : Sg) (op : Nat) (v : V) (y3 y4 : Option V), σ' = [some (.str z), some v, some (.int (op : Nat)), y3, y4] ∧ Same H H' ∧ Da K H' v (.tuple [.str s.way, .str (mkS s.word)]) ∧ s.ok ∧ goG .start 0 (TL.tl z) 0 = goG s op ((TL.tl z).drop i) i)
      ⟨.start, 0, .ref t1, _, _, rfl, (same_put n1).trans (same_put n2), .tup (.inl (.inl (same_put n2 _ _ upd_same))) (.cons (.str _) (.cons (.str _) .nil)), trivial, rfl⟩ (fun _ _ _ _ _ => trivial) ?_ ?_⟩
    · rintro i x σ' H1 H2 hi ⟨s, op, v, y3, y4, rfl, s1, hv, hs, hg⟩ ⟨T, a, b, rfl, nT, rfl, ha, hb⟩
      obtain ⟨c, hc, rfl⟩ := Option.map_eq_some_iff.mp hb
      cases ha
      have sT := same_put (o := .tup [.int (i : Nat), .str ⟨#[c]⟩]) nT
      have hgc : (TL.tl z).drop i = c :: (TL.tl z).drop (i + 1) := drop_get (by rw [← hc]; exact Array.getElem?_toList ..)
      refine ⟨T, _, rfl, .inl (.inl upd_same), rfl, _, _, rfl, _, _, rfl, rfl, ?_⟩
      refine ⟨_, rfl, _, rfl, _, rfl, v, s, op, c, rfl, hv.mono sT, hs, fun H3 u s3 hu => ?_⟩
      unfold nxD at hu
      cases hx : nxG s op c with
      | none =>
        rw [hx] at hu
        obtain ⟨a1, w1, w2, rfl, q1, q2, q3⟩ := da_two hu
        obtain ⟨a2, w3, w4, rfl, q4, q5, q6⟩ := da_two q2
        cases q3
        cases q5
        refine ⟨a1, _, rfl, q1, rfl, _, _, rfl, _, _, rfl, rfl, ?_⟩
        refine ⟨_, rfl, a2, _, 0, _, rfl, rfl, q4, rfl, rfl, true, congrArg V.bl ((decS _ _).trans (decide_eq_true rfl)), iteT ⟨_, rfl, ?_⟩⟩
        have e : wrongG (TL.tl z) = some i := by
          show goG .start 0 (TL.tl z) 0 = some i
          rw [hg, hgc, goG, hx]
        rw [e] at q
        exact q _ (s1.trans (sT.trans s3))
      | some x =>
        rw [hx] at hu
        obtain ⟨a1, w1, w2, rfl, q1, q2, q3⟩ := da_two hu
        obtain ⟨a2, w3, w4, rfl, q4, q5, q6⟩ := da_two q2
        cases q3
        cases q5
        refine ⟨a1, _, rfl, q1, rfl, _, _, rfl, _, _, rfl, rfl, ?_⟩
        refine ⟨_, rfl, a2, _, 0, _, rfl, rfl, q4, rfl, rfl, false, congrArg V.bl ((decS _ _).trans (decide_eq_false (way_ne _))), iteF ?_⟩
        refine ⟨x.1, x.2, .ref a2, _, _, rfl, s1.trans (sT.trans s3), q2, nx_ok hs hx, ?_⟩
        rw [hg, hgc, goG, hx]
    · rintro σ H1 ⟨s, op, v, y3, y4, rfl, s1, hv, hs, hg⟩
      obtain ⟨a2, w3, w4, rfl, q4, q5, q6⟩ := da_two hv
      cases q5
      have en : (TL.tl z).drop z.cps.size = [] := List.drop_eq_nil_of_le (by show z.cps.toList.length ≤ _; rw [Array.length_toList]; exact Nat.le_refl _)
      rw [en, goG] at hg
      have hl : z.length = z.cps.size := rfl
      have lst : wrongG (TL.tl z) = if op = 0 ∧ s.fin = true then none else some z.cps.size := hg
      refine ⟨_, rfl, rfl, decide (op = 0), congrArg V.bl ?_, ?_⟩
      · show decide (V.int op = V.int 0) = _
        rw [decide_eq_decide]
        constructor
        · intro e
          injection e with e
          omega
        · intro e
          rw [e]
          rfl
      by_cases ho : op = 0
      · rw [decide_eq_true ho]
        refine iteT ⟨_, rfl, a2, _, 0, _, rfl, rfl, q4, rfl, ?_⟩
        refine ⟨(by show 2 ≤ sizeLine; decide), fun t nt => ⟨t, _, rfl, .inr (.inl (.inl upd_same)), rfl, rfl, s.fin, congrArg V.bl ?_, ?_⟩⟩
        · rw [← way_fin]
          exact inV_two _ _ _
        by_cases hf : s.fin = true
        · rw [hf]
          rw [lst, if_pos ⟨ho, hf⟩] at q
          exact iteT (q _ (s1.trans (same_put nt)))
        · rw [Bool.eq_false_iff.mpr hf]
          rw [lst, if_neg (fun w => hf w.2)] at q
          exact iteF ⟨_, rfl, z, rfl, hz, q _ (s1.trans (same_put nt))⟩
      · rw [decide_eq_false ho]
        rw [lst, if_neg (fun w => ho w.1)] at q
        exact iteF (iteF ⟨_, rfl, z, rfl, hz, q _ s1⟩)
end
end Ev

/-! ## raise C(), C an error class whose __init__ takes self alone -/
namespace Ev
open PySem PySem.Spec PyProof.Rows L2
def spInit0 (C : Addr) : Sp := fun vs H Q _ => ∃ a : Addr, vs = [.ref a] ∧ H a = some (exo a C none) ∧ Q .non H
/-- such a class, ready to be raised -/
structure Err0 (P : Program) (w : World) (K : PySem.W.Frag) (mg : Str → Option Value) (base : Heap) (x : Str) (C : Addr) : Prop where
  g : mg x = some (.ref C)
  cls : ErrC K C
  ini : ∃ (fI : Addr) (fd : FuncData), PySem.W.findIn K (.ref C) "__init__" = some (some (.ref fI)) ∧ PySem.W.typeIn K (.ref fI) = some (.type "function") ∧ FnOk P w K mg base CX0 1 fI fd ["self"] (spInit0 C) ∧ Binds K fd ["self"] []
section
variable {X : Cx} {x : Str} {C : Addr} {W : WX} {p pos pos' : Pos}
/-- C(): a new error, held as a value -/
theorem pe_err0 (R : Err0 X.prog X.w X.K X.mg X.base x C) (hr : Room 2 X.A) (hg : Gl X x) (hdb : (x == ("__debug__" : Str)) = false := by decide) :
    PE X (.Call (.Name x p) [] [] pos) (fun _ H Q => ∀ a, H a = none → Q (.ref a) (upd H a (exo a C none))) := by
  constructor
  intro pins s σ H Q I q
  obtain ⟨fI, fd, iC, tI, F1, hb⟩ := R.ini
  have T := R.cls.ox
  obtain ⟨nm, qn, N, bs, bm, sn, sub, ab, col, dd, k0, k1, k2, k3, k5, hC, hbm⟩ := T.cls
  refine wpAny_Call_Name_kw (ld_glob I hg R.g (PySem.W.callWith_K0 I.kIn T.kC ?_) hdb)
  obtain ⟨hp, g, dr, tk, os⟩ := s
  have hsz : hp.objs.size ≤ hp.objs.size + 1 := Nat.le_succ _
  have hn : H (hp.objs.size + 1) = none := I.hok.fresh hsz
  have there : ((hp.push (PySem.W.kdv_tup [])).push (PySem.HandSPX.excO C hp.objs.size)).get? (hp.objs.size + 1) = some (PySem.HandSPX.excO C hp.objs.size) := by heap_get
  have old : ∀ b o, hp.get? b = some o → ((hp.push (PySem.W.kdv_tup [])).push (PySem.HandSPX.excO C hp.objs.size)).get? b = some o := fun b o e => Heap.get?_push_of_some _ (Heap.get?_push_of_some _ e)
  have J : Inv X pins σ (upd H (hp.objs.size + 1) (exo (hp.objs.size + 1) C none)) ⟨_, g, dr, tk, os⟩ := I.laid (t' := tk) old hsz (exo_ok there)
  have bt := hb _ [Value.ref (hp.objs.size + 1)] J.kIn rfl
  have run := F1.run _ X.stack _ _ ⟨[Value.ref (hp.objs.size + 1)], []⟩ [Value.ref (hp.objs.size + 1)] [V.ref (hp.objs.size + 1)] (fun v H2 => v = .non ∧ Q (.ref (hp.objs.size + 1)) H2) E0 (hr.make C [] []) (J.env0.make C [] []) bt (.cons rfl .nil)
    ⟨_, rfl, upd_same, rfl, q _ hn⟩
  refine wpAny_call (PySem.HandSPX.call_own F.excBase_ValueError (fun Y => PySem.HandSPX.refsVE_contains Y bm hbm) (I.kIn _ _ hC) (PySem.W.looks_findIn I.kIn iC) (fun self => PySem.W.bind_fn I.kIn self tI) (Nat.zero_le _) (codeAny_mono run fun r s' z => ?_))
  match r, z with
  | .error er, z => exact pass0 pins σ _ _ er s' J z
  | .ok .next, z => exact False.elim z
  | .ok .brk, z => exact False.elim z
  | .ok .cont, z => exact False.elim z
  | .ok (.ret u), z =>
    obtain ⟨v, H2, J2, rv, ev, q2⟩ := (J.after z : EP X pins σ _ u s')
    subst ev
    obtain rfl : u = Value.none := rv
    exact ⟨rfl, .ref _, H2, J2, rfl, q2⟩
/-- raise C() -/
theorem ps_raise0 (R : Err0 X.prog X.w X.K X.mg X.base x C) (hc : X.calm = true) (hx : X.ex = []) (hr : Room 2 X.A) (hg : Gl X x) (tk : Takes X W) (hdb : (x == ("__debug__" : Str)) = false := by decide) :
    PS X (.Raise (some (.Call (.Name x p) [] [] pos)) none pos') (fun _ σ H => ∀ a, H a = none → Fr0 X.H_0 a ∧ W (.ref C) none σ H) := by
  refine ps_raise (t := fun σ H Q => ∀ a, H a = none → Fr0 X.H_0 a ∧ Q (.ref C) none H) hc tk fun pins s σ H Q I h => ?_
  refine wpAny_mono ((pe_err0 R hr hg hdb).run pins s σ H (fun v H1 => ∃ a, v = .ref a ∧ H a = none ∧ H1 = upd H a (exo a C none)) I fun a na => ⟨a, rfl, na, rfl⟩) (fun u s1 hu => ?_) fun _ _ z => z
  obtain ⟨v, H1, J, rv, a, rfl, na, rfl⟩ := hu
  obtain rfl : u = Value.ref a := rv
  obtain ⟨fr, q⟩ := h a na
  obtain ⟨t1, ho⟩ := exo_at J.hok (upd_same (H := H) (a := a) (o := exo a C none))
  obtain ⟨G, g1, g2, J'⟩ := J.untrack upd_same fr hx
  rw [delH_new na] at J'
  exact ⟨a, _, _, { s1 with heap := G }, H, .ref C, none, rfl, J', g1, g2, ho, ⟨rfl, rfl⟩, rfl, rfl, na, rfl, J.bare, raises_own R.cls.ox.exC R.cls.ox.tyC, q⟩
end
end Ev

/-! ## Methods of own classes -/
namespace Ev
open PySem PySem.Spec PyProof.Rows L2
/-- a method of a class, ready to be called -/
structure MCal (P : Program) (w : World) (K : PySem.W.Frag) (mg : Str → Option Value) (base : Heap) (k : Nat) (C : Addr) (m : Str) (ps : List Str) (sp : Sp) : Prop where
  ex : ∃ (f : Addr) (fd : FuncData), FnOk P w K mg base CX0 k f fd ps sp ∧ Binds K fd ps [] ∧ Meth K C m f
/-- a method as it is written -/
structure MDef (K : PySem.W.Frag) (C : Addr) (m q : Str) (st : Stmt) (ps : List Str) : Prop where
  ex : ∃ (f : Addr) (fd : FuncData), Fun K m q st f fd ∧ Binds K fd ps [] ∧ Meth K C m f
section
variable {P : Program} {w : World} {K : PySem.W.Frag} {mg : Str → Option Value} {base : Heap} {x q : Str} {st : Stmt} {ps N : List Str} {sp : Sp} {k j : Nat} {C : Addr}
theorem MCal.up (M : MCal P w K mg base j C x ps sp) (h : j ≤ k) : MCal P w K mg base k C x ps sp := by
  obtain ⟨f, fd, F, b, m⟩ := M.ex
  exact ⟨f, fd, ⟨F.len, fun A o s H args us vs Q E hr => F.run A o s H args us vs Q E (hr.mono h)⟩, b, m⟩
theorem MDef.ok (D : MDef K C x q st ps) (S : FnScope N ps (defScope st)) (len : ∀ vs H Q E, sp vs H Q E → vs.length = ps.length)
    (hbody : ∀ (f : Addr) (cdv : Value) (A : Around) (outer : List Env) (s : Shared) (H : Hp) (vs : List V) (Q : VK) (E : XK),
      Room k (A.deeper (envOfC q (defScope st) s.heap.objs.size f cdv)) → sp vs H Q E →
      ∃ t, PSs (cxOf CX0 P w K mg base N q (defScope st) f cdv A outer s H E).nox (defBody st) t ∧
        t { nx := fun _ H' => Q .non H', rt := Q } (start N vs) H) : MCal P w K mg base (k + 1) C x ps sp := by
  obtain ⟨f, fd, F, b, m⟩ := D.ex
  exact ⟨f, fd, F.ok S len (hbody f), b, m⟩
end
section
variable {X : Cx} {k : Nat} {C : Addr} {ps : List Str} {sp : Sp} {m : Str} {pos apos : Pos} {e o : Expr} {es : List Expr} {ta : TE} {t : TA}
theorem pmeth {pl : Sem Bool} (M : MCal X.prog X.w X.K X.mg X.base k C m ps sp) (c : Cls X.K C) (hr : Room k X.A) (ho : PE X o ta) (ha : PA X (e :: es) t)
    (h1 : starEach (e :: es) X.env = (false, eval e X.env) :: starEach es X.env := by rfl) (h2 : (backTo pos (starEach es X.env)).any (·.1) = false := by rfl)
    (h3 : eval (.Call (.Attribute o m apos) (e :: es) [] pos) X.env = (do
      let v ← eval o X.env
      standAt apos.atName
      let (f, first) ← holding [v] (getMethod v m pl)
      callWith pos f first (backTo pos (starEach (e :: es) X.env)) (backToKw pos (keywordEach [] X.env))) := by rfl) : PE X (.Call (.Attribute o m apos) (e :: es) [] pos) (tMeth C m sp [] E0 ta t) := by
  obtain ⟨f, fd, F, hb, hm⟩ := M.ex
  exact pe_meth (pl := pl) ho c hm F hr hb .nil pass0 ha h1 h2 h3
theorem pmeth0 {pl : Sem Bool} (M : MCal X.prog X.w X.K X.mg X.base k C m ps sp) (c : Cls X.K C) (hr : Room k X.A) (ho : PE X o ta)
    (h3 : eval (.Call (.Attribute o m apos) [] [] pos) X.env = (do
      let v ← eval o X.env
      standAt apos.atName
      let (f, first) ← holding [v] (getMethod v m pl)
      callWith pos f first (backTo pos (starEach [] X.env)) (backToKw pos (keywordEach [] X.env))) := by rfl) : PE X (.Call (.Attribute o m apos) [] [] pos) (tMeth C m sp [] E0 ta tNil) := by
  obtain ⟨f, fd, F, hb, hm⟩ := M.ex
  exact pe_meth0 (pl := pl) ho c hm F hr hb .nil pass0 h3
/-- a class whose __init__ keeps a promise -/
structure KCal (P : Program) (w : World) (K : PySem.W.Frag) (mg : Str → Option Value) (base : Heap) (k : Nat) (C : Addr) (x : Str) (ps : List Str) (sp : Sp) : Prop where
  ex : ∃ (f : Addr) (fd : FuncData), FnOk P w K mg base CX0 k f fd ps sp ∧ Binds K fd ps [] ∧ Mk K C f ∧ mg x = some (.ref C)
theorem pmake {x : Str} {p : Pos} (M : KCal X.prog X.w X.K X.mg X.base k C x ps sp) (hr : Room (k + 1) X.A) (hg : Gl X x) (ha : PA X (e :: es) t)
    (h0 : (x == ("__debug__" : Str)) = false := by decide) (h1 : starEach (e :: es) X.env = (false, eval e X.env) :: starEach es X.env := by rfl) (h2 : (backTo pos (starEach es X.env)).any (·.1) = false := by rfl) :
    PE X (.Call (.Name x p) (e :: es) [] pos) (tMake C sp [] E0 t) := by
  obtain ⟨f, fd, F, hb, mk, hm⟩ := M.ex
  exact pe_make mk F hr hg hm hb .nil pass0 ha h0 h1 h2
end
/-! ### tuples stay, while objects and lists change -/
def Kj (H H' : Hp) : Prop := ∀ b o, H b = some o → (∀ xs, o ≠ .lst xs) → (∀ C dx fs, o ≠ .ins C dx fs) → H' b = some o
section
variable {K : PySem.W.Frag} {H H' H'' : Hp}
theorem Kj.of (s : Same H H') : Kj H H' := fun b o e _ _ => s b o e
theorem Kj.kt (s : Kt H H') : Kj H H' := fun b o e n _ => s b o e n
theorem Kj.trans (a : Kj H H') (b : Kj H' H'') : Kj H H'' := fun x o e n m => b x o (a x o e n m) n m
theorem Kj.putL {l : Addr} {xs : List V} {o : HO} (h : H l = some (.lst xs)) : Kj H (upd H l o) := .kt (Kt.put h)
theorem Kj.putI {p C dx : Addr} {fs : List (Str × V)} {o : HO} (h : H p = some (.ins C dx fs)) : Kj H (upd H p o) := fun b u e _ m => by
  have z : b ≠ p := fun z => by
    rw [z, h] at e
    cases e
    exact m _ _ _ rfl
  rw [upd_ne z]
  exact e
mutual
theorem Da.kj (k : Kj H H') : ∀ {v : V} {d : PyData}, tupD d = true → Da K H v d → Da K H' v d
  | _, _, _, .non => .non
  | _, _, _, .bl b => .bl b
  | _, _, _, .int i => .int i
  | _, _, _, .str x => .str x
  | _, _, n, .lst _ _ => by
    rw [tupD] at n
    cases n
  | _, _, n, .tup h t => by
    rw [tupD] at n
    refine .tup ?_ (DaAll.kj k n t)
    rcases h with (e | ⟨o, e⟩) | e
    · exact .inl (.inl (k _ _ e (fun xs z => by cases z) (fun _ _ _ z => by cases z)))
    · exact .inl (.inr ⟨o, k _ _ e (fun xs z => by cases z) (fun _ _ _ z => by cases z)⟩)
    · exact .inr e
  | _, _, n, .dic _ _ => by
    rw [tupD] at n
    cases n
theorem DaAll.kj (k : Kj H H') : ∀ {vs : List V} {ds : List PyData}, tupDs ds = true → DaAll K H vs ds → DaAll K H' vs ds
  | _, _, _, .nil => .nil
  | _, _, n, .cons h t => by
    rw [tupDs, Bool.and_eq_true] at n
    exact .cons (Da.kj k n.1 h) (DaAll.kj k n.2 t)
end
end
theorem none_of' {H H' : Hp} {p : Addr} (s : Same H H') (n : H' p = none) : H p = none := by
  cases e : H p with
  | none => rfl
  | some o =>
    rw [s _ _ e] at n
    cases n
/-- all but two stand -/
def Bu2 (p e : Addr) (H H' : Hp) : Prop := ∀ b o, b ≠ p → b ≠ e → H b = some o → H' b = some o
theorem Bu2.refl {p e : Addr} {H : Hp} : Bu2 p e H H := fun _ _ _ _ h => h
theorem Bu2.trans {p e : Addr} {H H1 H2 : Hp} (a : Bu2 p e H H1) (b : Bu2 p e H1 H2) : Bu2 p e H H2 := fun x o n m h => b x o n m (a x o n m h)
theorem Bu2.of {p e : Addr} {H H' : Hp} (s : Same H H') : Bu2 p e H H' := fun b o _ _ h => s b o h
theorem Bu2.put1 {p e : Addr} {H : Hp} {o : HO} : Bu2 p e H (upd H p o) := fun b _ n _ h => by
  rw [upd_ne n]
  exact h
theorem Bu2.put2 {p e : Addr} {H : Hp} {o : HO} : Bu2 p e H (upd H e o) := fun b _ _ n h => by
  rw [upd_ne n]
  exact h
end Ev

/-! ## A law whose defs make lambdas: the tables of their code objects are known from the start -/
namespace Ev
open PySem PySem.Spec PyProof.Rows L2
open LamX (TabB)
/-- the script is read only: it stands whatever else changes -/
def Scr (K : PySem.W.Frag) (H : Hp) (a : Addr) (xs : List V) : Prop := (∃ o, H a = some (.frz o (.lst xs))) ∨ ∀ H', SqL K H' a xs
/-- what the ledger holds when a law begins: the script (if no written object is the script), empty tables -/
structure Begun (K : PySem.W.Frag) (a : Addr) (o : Obj) (xs : List V) (cs : List (Addr × Addr)) (H : Hp) : Prop where
  tab : ∀ p ∈ cs, H p.2 = some (.tbl #[])
  seq : Scr K H a xs
  all : ∀ b u, H b = some u → (∃ p ∈ cs, p.2 = b ∧ u = .tbl #[]) ∨ (b = a ∧ u = .frz o (.lst xs) ∧ K.lookup a = none)
theorem begun {K : PySem.W.Frag} {h : Heap} {a : Addr} {vs : List Value} {xs : List V} {cs : List (Addr × Addr)} (KX : K.In h) (ha : h.get? a = some { cls := .type "list", data := .seq vs.toArray })
    (hT : ∀ p ∈ cs, h.get? p.2 = some (PySem.W.tabObj #[])) (rv : Vals xs vs) (hl : xs.length ≤ sizeLine) : ∃ H, Begun K a { cls := .type "list", data := .seq vs.toArray } xs cs H := by
  have ne : ∀ p ∈ cs, p.2 ≠ a := fun p hp z => by
    have e := hT p hp
    rw [z, ha] at e
    cases e
  let T : Hp := fun b => if ∃ p ∈ cs, p.2 = b then some (.tbl #[]) else none
  have at1 : ∀ p ∈ cs, T p.2 = some (.tbl #[]) := fun p hp => if_pos ⟨p, hp, rfl⟩
  have inv1 : ∀ b u, T b = some u → ∃ p ∈ cs, p.2 = b ∧ u = .tbl #[] := fun b u e => by
    by_cases z : ∃ p ∈ cs, p.2 = b
    · have e2 : T b = some (.tbl #[]) := if_pos z
      obtain ⟨p, hp, hb⟩ := z
      exact ⟨p, hp, hb, Option.some.inj (e.symm.trans e2)⟩
    · exact nomatch (if_neg z : T b = none).symm.trans e
  cases hk : K.lookup a with
  | none =>
    refine ⟨upd T a (.frz { cls := .type "list", data := .seq vs.toArray } (.lst xs)), fun p hp => (upd_ne (ne p hp)).trans (at1 p hp), .inl ⟨_, upd_same⟩, fun b u e => ?_⟩
    by_cases z : b = a
    · subst z
      exact .inr ⟨rfl, Option.some.inj (e.symm.trans upd_same), hk⟩
    · exact .inl (inv1 b u ((upd_ne z).symm.trans e))
  | some ob =>
    have e := KX a ob hk
    rw [ha] at e
    cases e
    exact ⟨T, at1, .inr fun _ => .inr ⟨_, vs.toArray, _, hk, rfl, rfl, rfl, by rw [List.size_toArray, ← rv.length]; exact hl, by simpa using rv⟩, fun b u e => .inl (inv1 b u e)⟩
section
variable {P : Program} {w : World} {K : PySem.W.Frag} {mg mb : Str → Option Value} {h : Heap} {a : Addr} {vs : List Value} {xs : List V} {cs : List (Addr × Addr)} {H : Hp}
/-- what is neither the script nor a table is not in the ledger -/
theorem Begun.off (B : Begun K a { cls := .type "list", data := .seq vs.toArray } xs cs H) (ha : h.get? a = some { cls := .type "list", data := .seq vs.toArray }) (hT : ∀ p ∈ cs, h.get? p.2 = some (PySem.W.tabObj #[]))
    {b : Addr} {ob : Obj} (e : h.get? b = some ob) (n1 : ob.data ≠ .seq vs.toArray) (n2 : ob.data ≠ .fields #[]) : H b = none := by
  cases q : H b with
  | none => rfl
  | some u =>
    rcases B.all b u q with ⟨p, hp, rfl, _⟩ | ⟨rfl, _, _⟩
    · rw [hT p hp] at e
      cases e
      exact (n2 rfl).elim
    · rw [ha] at e
      cases e
      exact (n1 rfl).elim
theorem Begun.ns (B : Begun K a { cls := .type "list", data := .seq vs.toArray } xs cs H) (ha : h.get? a = some { cls := .type "list", data := .seq vs.toArray }) (hT : ∀ p ∈ cs, h.get? p.2 = some (PySem.W.tabObj #[]))
    {b : Addr} {m : Str → Option Value} : h.Ns b m → (hidT h H).Ns b m := fun ⟨ob, es, ep, e, d, r⟩ => ⟨ob, es, ep, hidT_get e (B.off ha hT e (by rw [d]; nofun) (by rw [d]; nofun)), d, r⟩
theorem Begun.kin (B : Begun K a { cls := .type "list", data := .seq vs.toArray } xs cs H) (KX : K.In h) (nT : ∀ p ∈ cs, K.lookup p.2 = none) : K.In (hidT h H) := fun b ob e => by
  refine hidT_get (KX b ob e) ?_
  cases q : H b with
  | none => rfl
  | some u =>
    rcases B.all b u q with ⟨p, hp, rfl, _⟩ | ⟨rfl, _, n⟩
    · exact nomatch (nT p hp).symm.trans e
    · exact nomatch n.symm.trans e
theorem Begun.hok (B : Begun K a { cls := .type "list", data := .seq vs.toArray } xs cs H) (ha : h.get? a = some { cls := .type "list", data := .seq vs.toArray }) (hT : ∀ p ∈ cs, h.get? p.2 = some (PySem.W.tabObj #[])) (rv : Vals xs vs) (hl : xs.length ≤ sizeLine) : HOk P w H h := fun b u e => by
  rcases B.all b u e with ⟨p, hp, rfl, rfl⟩ | ⟨rfl, rfl, _⟩
  · exact hT p hp
  · exact ⟨ha, hl, vs, _, rv, ha⟩
theorem Begun.tabB (B : Begun K a { cls := .type "list", data := .seq vs.toArray } xs cs H) (ha : h.get? a = some { cls := .type "list", data := .seq vs.toArray }) (hT : ∀ p ∈ cs, h.get? p.2 = some (PySem.W.tabObj #[])) (C : ∀ p ∈ cs, PySem.W.CodeHd h p.1 p.2) (hns : h.Ns mainGlobals mg)
    (hbm : ∃ bm ob, mg "__builtins__" = some (.ref bm) ∧ bm ≠ builtinsNs ∧ h.get? bm = some ob ∧ ob.cls = .type "module" ∧ ob.dict = some builtinsNs ∧ ob.data = .plain) {p : Addr × Addr} (hp : p ∈ cs) : TabB (hidT h H) mg p.1 p.2 where
  code := by
    obtain ⟨o, us, file, tf, flags, tg, inF, text, tt, e, r1, r2, r3, r⟩ := C p hp
    refine ⟨o, us, file, tf, flags, tg, inF, text, tt, hidT_get e (B.off ha hT e ?_ ?_), r1, r2, r3, r⟩
    · rw [r2]
      nofun
    · intro z
      rw [r2] at z
      cases z
      simp at r3
  bm := by
    obtain ⟨bm, ob, b1, b2, b3, b4, b5, b6⟩ := hbm
    refine ⟨bm, ob, b1, b2, fun z => ?_, fun z => ?_, hidT_get b3 (B.off ha hT b3 ?_ ?_), b4, b5, b6⟩
    · obtain ⟨o, es, ep, e, d, _⟩ := hns
      rw [z, e] at b3
      cases b3
      rw [d] at b6
      cases b6
    · rw [z, hT p hp] at b3
      cases b3
      cases b6
    · rw [b6]
      nofun
    · rw [b6]
      nofun
  gP := fun z => by
    obtain ⟨o, es, ep, e, d, _⟩ := hns
    rw [z, hT p hp] at e
    cases e
    cases d
/-- at the end all stands as it was, but for what the tables were told -/
theorem Begun.over {H' : Hp} {h' : Heap} (B : Begun K a { cls := .type "list", data := .seq vs.toArray } xs cs H) (ha : h.get? a = some { cls := .type "list", data := .seq vs.toArray }) (hT : ∀ p ∈ cs, h.get? p.2 = some (PySem.W.tabObj #[])) (C : ∀ p ∈ cs, PySem.W.CodeHd h p.1 p.2)
    (un : Un [] [] H H' h h') (ok : HOk P w H' h') : OldK h h' := by
  have one : ∀ b ob, h.get? b = some ob → asItWas h h' b ob ∧ ∃ o', h'.get? b = some o' := fun b ob e => by
    cases q : H b with
    | none =>
      have z := un.keep b ob e q (by simp) (by simp)
      exact ⟨.inl z, _, z⟩
    | some u =>
      rcases B.all b u q with ⟨p, hp, rfl, rfl⟩ | ⟨rfl, rfl, _⟩
      · obtain ⟨more, z⟩ := un.tbls _ _ q
        have z : h'.get? p.2 = some { cls := .none, data := .fields (#[] ++ more) } := ok _ _ z
        rw [hT p hp] at e
        cases e
        exact ⟨.inr (.inl ⟨((C p hp).tab (hT p hp)).isCodeTable, rfl, #[], more, rfl, z⟩), _, z⟩
      · obtain ⟨z, _⟩ := ok _ _ (un.frzs _ _ _ q)
        rw [ha] at e
        cases e
        exact ⟨.inl z, _, z⟩
  exact ⟨fun b ob e => (one b ob e).1, fun b ob e => (one b ob e).2⟩
end
/-- the law, called -/
theorem law_endT {P : Program} {w : World} {K : PySem.W.Frag} {mg mb : Str → Option Value} {CX : CXT} {k : Nat} {fa a : Addr} {fd : FuncData} {x : Str} {sp : Sp} {s₁ : Shared} {vs : List Value} {ns : List Int} {cs : List (Addr × Addr)}
    (KX : K.In s₁.heap) (hns : s₁.heap.Ns mainGlobals mg) (hb : s₁.heap.Ns builtinsNs mb) (hbb : ∀ x : Str, x ≠ "__name__" → mb x = bootBuiltins x) (hlim : s₁.heap.NoLimit) (hg : s₁.gens = #[])
    (hbm : ∃ bm ob, mg "__builtins__" = some (.ref bm) ∧ bm ≠ builtinsNs ∧ s₁.heap.get? bm = some ob ∧ ob.cls = .type "module" ∧ ob.dict = some builtinsNs ∧ ob.data = .plain)
    (hT : ∀ p ∈ cs, s₁.heap.get? p.2 = some (PySem.W.tabObj #[])) (nT : ∀ p ∈ cs, K.lookup p.2 = none) (C : ∀ p ∈ cs, PySem.W.CodeHd s₁.heap p.1 p.2)
    (ha : s₁.heap.get? a = some { cls := .type "list", data := .seq vs.toArray }) (hi : IntsAre vs ns) (hl : ns.length ≤ sizeLine) (hr : Room k callerA) (hsm : ∃ mm, s₁.heap.Ns sysModules mm)
    (F : ∀ base : Heap, K.In base → base.Ns mainGlobals mg → (∃ mm, base.Ns sysModules mm) → (∀ p ∈ cs, TabB base mg p.1 p.2) → FnG P w K mg base CX k fa fd [x] sp)
    (hbind : ∀ (s : Shared) (u : Value), BindsTo s fd ⟨[u], []⟩ [(x, u)])
    (hsp : ∀ H : Hp, (∀ p ∈ cs, H p.2 = some (.tbl #[])) → Scr K H a (ns.map V.int) → sp [.ref a] H (fun v _ => v = .bl true) fun _ _ _ => False)
    (hCX : ∀ H e s', CX [] H s₁ (fun _ _ _ => False) e s' → False) :
    codeAny (model P w) callerA (.call (.ref fa) ⟨[.ref a], []⟩) (fun r s' => r = .ok (.ret (.bool true)) ∧ OldK s₁.heap s'.heap ∧ s'.os = s₁.os ∧ AllBare s'.gens) s₁ := by
  have rv := vals_ints hi
  have hl' : (ns.map V.int).length ≤ sizeLine := by rw [List.length_map]; exact hl
  obtain ⟨H, B⟩ := begun KX ha hT rv hl'
  have kin := B.kin KX nT
  have seen : ∀ {b m}, s₁.heap.Ns b m → (hidT s₁.heap H).Ns b m := B.ns ha hT
  obtain ⟨mc, m1, m2⟩ := hlim
  obtain ⟨mm, hmm⟩ := hsm
  have e0 : Env0 P w K mg (hidT s₁.heap H) callerA [] s₁ H :=
    { frames := rfl, mod := ⟨kin, seen hns, ⟨mb, seen hb, hbb⟩, ⟨mc, seen m1, m2⟩⟩, bs := fun _ _ => of_hidT, bsz := Nat.le_of_eq (hidT_size _ _), funs := trivial, frf := nofun, hok := B.hok ha hT rv hl', bare := .of_eq hg }
  refine codeAny_mono ((F _ kin (seen hns) ⟨mm, seen hmm⟩ fun p hp => B.tabB ha hT C hns hbm hp).go callerA [] s₁ H ⟨[.ref a], []⟩ [.ref a] [.ref a] _ _ hr rfl e0 (hbind s₁ (.ref a)) (.cons rfl .nil) (hsp H B.tab B.seq)) fun r s' out => ?_
  match r, out with
  | .error e, out => exact (hCX H e s' out).elim
  | .ok (.ret u), ⟨v, H', os, bare, un, ok, rel, q⟩ =>
    have q : v = .bl true := q
    subst q
    cases (show u = Value.bool true from rel)
    exact ⟨rfl, B.over ha hT C un ok, os, bare⟩
/-- the code objects and tables of these defs -/
def TabF (h : Heap) (mg : Str → Option Value) (x : Str) (p : Addr × Addr) : Prop := ∃ (f : Addr) (o : Obj) (fd : FuncData), mg x = some (.ref f) ∧ h.get? f = some o ∧ o.data = .func fd ∧ fd.code = .ref p.1
theorem walkT (xs : List Str) {l : PySem.W.OpenLaw} {n k : Nat} {q : Program} {loose : List Str} {XP : (Str → Option Value) → Heap → Prop} {YP : World → Heap → Prop} {d : DefRec} {K : Params → PySem.W.Frag} {CX : CXT} {sp : PySem.W.Frag → List Addr → Sp} {x : Str}
    (hq : importsNone q = true) (hxs : (xs.all fun y => (recsOf q).any fun e => e.name == y) = true) (hK : ∀ w : World, PySem.W.noTabs (K w.params) = true) (hn : l.most = some n) (hn2 : n ≤ sizeLine) (hdf : d.params.defaults = []) (hr : Room k callerA) (hY : ∀ (w : World) (h : Heap), YP w h → (K w.params).In h)
    (F : ∀ (w : World) (mg : Str → Option Value) (fa : Addr) (h : Heap), (K w.params).In h → h.Ns mainGlobals mg → mg d.name = some (.ref fa) → ∀ cs : List (Addr × Addr), Paired (TabF h mg) xs cs →
      ∃ fd : FuncData, (∀ (s : Shared) (u : Value), BindsTo s fd ⟨[u], []⟩ [(x, u)]) ∧ ∀ base : Heap, (K w.params).In base → base.Ns mainGlobals mg → (∃ mm, base.Ns sysModules mm) → (∀ p ∈ cs, TabB base mg p.1 p.2) → FnG l.prog w (K w.params) mg base CX k fa fd [x] (sp (K w.params) (cs.map (·.2))))
    (hsp : ∀ (K : PySem.W.Frag) (H : Hp) (a : Addr) (ns : List Int) (ps : List Addr), ns.length ≤ n → (∀ P ∈ ps, H P = some (.tbl #[])) → Scr K H a (ns.map V.int) → sp K ps [.ref a] H (fun v _ => v = .bl true) fun _ _ _ => False)
    (hCX : ∀ (H : Hp) (s : Shared) (e : Value) (s' : Shared), CX [] H s (fun _ _ _ => False) e s' → False) : PySem.W.WalkO q loose XP YP l.row.toRowW d [] (fun f vs => PySem.call f vs) := by
  refine Att.attach_call hn hdf fun w s₀ s₁ mg mb fa o pm cd doc a vs ns G Y ho hd hcd hmg hobj hints hlen hg => ?_
  have KX := hY w _ Y
  obtain ⟨mm, hmm, _⟩ := (G.T.seer hq).mods
  obtain ⟨cs, hcs, tabs⟩ : ∃ cs, Paired (TabF s₁.heap mg) xs cs ∧ ∀ p ∈ cs, PySem.W.CodeHd s₁.heap p.1 p.2 ∧ s₁.heap.get? p.2 = some (PySem.W.tabObj #[]) := by
    have all := List.all_eq_true.mp hxs
    clear hxs F
    induction xs with
    | nil => exact ⟨[], .nil, nofun⟩
    | cons y ys ih =>
      obtain ⟨cs, c1, c2⟩ := ih fun z hz => all z (List.mem_cons_of_mem _ hz)
      obtain ⟨e, he, hy⟩ := List.any_eq_true.mp (all y (List.mem_cons_self ..))
      obtain ⟨f, ob, fd, c, P, h1, h2, h3, h4, h5, h6⟩ := G.T.tab e he
      rw [beq_iff_eq.mp hy] at h1
      refine ⟨(c, P) :: cs, .cons ⟨f, ob, fd, h1, h2, h3, h4⟩ c1, fun p hp => ?_⟩
      rcases List.mem_cons.mp hp with rfl | hp
      · exact ⟨.of h5 h6, h6.2⟩
      · exact c2 p hp
  have nT : ∀ p ∈ cs, (K w.params).lookup p.2 = none := fun p hp => by
    cases e : (K w.params).lookup p.2 with
    | none => rfl
    | some ob =>
      have z := KX _ _ e
      rw [(tabs p hp).2] at z
      cases z
      have y := List.all_eq_true.mp (hK w) _ (PySem.W.mem_of_lookupK e)
      exact absurd (show false = true from y) Bool.false_ne_true
  obtain ⟨fd, hb, hF⟩ := F w mg fa _ KX G.T.g hmg cs hcs
  refine law_endT KX G.T.g G.T.b G.T.builtins G.T.nolimit hg G.T.bmain (fun p hp => (tabs p hp).2) nT (fun p hp => (tabs p hp).1) hobj hints (Nat.le_trans hlen hn2) hr ⟨mm, hmm⟩ hF hb (fun H hH hS => hsp _ H a ns _ hlen (fun P hP => ?_) hS) fun H e s' => hCX H s₁ e s'
  obtain ⟨p, hp, rfl⟩ := List.mem_map.mp hP
  exact hH p hp
end Ev

/-! ## Methods that may raise; lambdas; what a table's growth leaves -/
namespace Ev
open PySem PySem.Spec PyProof.Rows L2
open LamX (CodeO TabS Tabs ExtN TabB LamS lamCx lamEnv GivesTo tLam)
/-! ### promises for any stack -/
/-- a def that keeps a promise whatever stands around it, ready to be called (CX: what it lets out) -/
structure CalN (CX : CXT) (P : Program) (w : World) (K : PySem.W.Frag) (mg : Str → Option Value) (base : Heap) (k : Nat) (x : Str) (ps : List Str) (sp : Sp) : Prop where
  ex : ∃ (f : Addr) (fd : FuncData), FnOk P w K mg base CX k f fd ps sp ∧ Binds K fd ps [] ∧ mg x = some (.ref f) ∧ PySem.W.keepIn K (.ref f) = true
/-- a method that keeps a promise or raises -/
structure MCalX (P : Program) (w : World) (K : PySem.W.Frag) (mg : Str → Option Value) (base : Heap) (k : Nat) (C : Addr) (m : Str) (ps : List Str) (sp : Sp) : Prop where
  ex : ∃ (f : Addr) (fd : FuncData), FnOk P w K mg base (L2.CX P w) k f fd ps sp ∧ Binds K fd ps [] ∧ Meth K C m f
/-- a class whose __init__ keeps a promise or raises -/
structure KCalX (P : Program) (w : World) (K : PySem.W.Frag) (mg : Str → Option Value) (base : Heap) (k : Nat) (C : Addr) (x : Str) (ps : List Str) (sp : Sp) : Prop where
  ex : ∃ (f : Addr) (fd : FuncData), FnOk P w K mg base (L2.CX P w) k f fd ps sp ∧ Binds K fd ps [] ∧ Mk K C f ∧ mg x = some (.ref C)
section
variable {P : Program} {w : World} {K : PySem.W.Frag} {mg : Str → Option Value} {base : Heap} {x q : Str} {st : Stmt} {ps N : List Str} {sp : Sp} {k j : Nat} {C : Addr}
theorem CalN.cal (c : CalN CX0 P w K mg base k x ps sp) : Cal P w K mg base k x ps sp := by
  obtain ⟨f, fd, F, b, m, v⟩ := c.ex
  exact ⟨f, fd, .of F, b, m, v⟩
theorem fun_okX {f : Addr} {fd : FuncData} (F : Fun K x q st f fd) (S : FnScope N ps (defScope st)) (len : ∀ vs H Q E, sp vs H Q E → vs.length = ps.length)
    (walk : ∀ (cdv : Value) (A : Around) (outer : List Env) (s : Shared) (H : Hp) (vs : List V) (Q : VK) (E : XK), Room k (A.deeper (envOfC q (defScope st) s.heap.objs.size f cdv)) → sp vs H Q E →
      ∃ t, PSs (cxOf (L2.CX P w) P w K mg base N q (defScope st) f cdv A outer s H E) (defBody st) t ∧ t { nx := fun _ H' => Q .non H', rt := Q } (start N vs) H) : FnOk P w K mg base (L2.CX P w) (k + 1) f fd ps sp := by
  obtain ⟨oc, od, kV, doc, pm, an, cdv, ct, osl, e, lk, hcd⟩ := F.ex
  cases e
  exact fn_of lk hcd S len fun A outer s H vs Q E hr h => walk cdv A outer s H vs Q E hr h
theorem Def.okN (D : Def K mg x st ps) (S : FnScope N ps (defScope st)) (len : ∀ vs H Q E, sp vs H Q E → vs.length = ps.length)
    (walk : ∀ (f : Addr) (cdv : Value) (A : Around) (outer : List Env) (s : Shared) (H : Hp) (vs : List V) (Q : VK) (E : XK), Room k (A.deeper (envOfC x (defScope st) s.heap.objs.size f cdv)) → sp vs H Q E →
      ∃ t, PSs (cxOf (L2.CX P w) P w K mg base N x (defScope st) f cdv A outer s H E) (defBody st) t ∧ t { nx := fun _ H' => Q .non H', rt := Q } (start N vs) H) : CalN (L2.CX P w) P w K mg base (k + 1) x ps sp := by
  obtain ⟨f, fd, F, b, m⟩ := D.ex
  exact ⟨f, fd, fun_okX F S len (walk f), b, m, F.kp⟩
theorem MDef.okX (D : MDef K C x q st ps) (S : FnScope N ps (defScope st)) (len : ∀ vs H Q E, sp vs H Q E → vs.length = ps.length)
    (walk : ∀ (f : Addr) (cdv : Value) (A : Around) (outer : List Env) (s : Shared) (H : Hp) (vs : List V) (Q : VK) (E : XK), Room k (A.deeper (envOfC q (defScope st) s.heap.objs.size f cdv)) → sp vs H Q E →
      ∃ t, PSs (cxOf (L2.CX P w) P w K mg base N q (defScope st) f cdv A outer s H E) (defBody st) t ∧ t { nx := fun _ H' => Q .non H', rt := Q } (start N vs) H) : MCalX P w K mg base (k + 1) C x ps sp := by
  obtain ⟨f, fd, F, b, m⟩ := D.ex
  exact ⟨f, fd, fun_okX F S len (walk f), b, m⟩
end
section
variable {X : Cx} {k : Nat} {C : Addr} {ps : List Str} {sp : Sp} {m x : Str} {p pos apos : Pos} {e o : Expr} {es : List Expr} {ta : TE} {t : TA} {W : WX} {E : XK}
/-- f(e, ..) -/
theorem pcallN (c : CalN (L2.CX X.prog X.w) X.prog X.w X.K X.mg X.base k x ps sp) (hr : Room k X.A) (hg : Gl X x) (tk : Takes X W) (hW : ∀ cls d σ H, E cls d H → W cls d σ H) (ha : PA X (e :: es) t)
    (hdb : (x == ("__debug__" : Str)) = false := by decide) (he : starEach (e :: es) X.env = (false, eval e X.env) :: starEach es X.env := by rfl) (hpl : (backTo pos (starEach es X.env)).any (·.1) = false := by rfl) : PE X (.Call (.Name x p) (e :: es) [] pos) (tCall sp [] E t) := by
  obtain ⟨f, fd, F, b, hm, v⟩ := c.ex
  exact pe_call F hr hg hm v b .nil (passes_call tk hW) ha hdb he hpl
theorem pcallO (c : CalN CX0 X.prog X.w X.K X.mg X.base k x ps sp) (hr : Room k X.A) (hg : Gl X x) (ha : PA X (e :: es) t)
    (hdb : (x == ("__debug__" : Str)) = false := by decide) (he : starEach (e :: es) X.env = (false, eval e X.env) :: starEach es X.env := by rfl) (hpl : (backTo pos (starEach es X.env)).any (·.1) = false := by rfl) : PE X (.Call (.Name x p) (e :: es) [] pos) (tCall sp [] E0 t) := by
  obtain ⟨f, fd, F, b, hm, v⟩ := c.ex
  exact pe_call F hr hg hm v b .nil pass0 ha hdb he hpl
theorem pmethX {pl : Sem Bool} (M : MCalX X.prog X.w X.K X.mg X.base k C m ps sp) (c : Cls X.K C) (hr : Room k X.A) (tk : Takes X W) (hW : ∀ cls d σ H, E cls d H → W cls d σ H) (ho : PE X o ta) (ha : PA X (e :: es) t)
    (h1 : starEach (e :: es) X.env = (false, eval e X.env) :: starEach es X.env := by rfl) (h2 : (backTo pos (starEach es X.env)).any (·.1) = false := by rfl)
    (h3 : eval (.Call (.Attribute o m apos) (e :: es) [] pos) X.env = (do
      let v ← eval o X.env
      standAt apos.atName
      let (f, first) ← holding [v] (getMethod v m pl)
      callWith pos f first (backTo pos (starEach (e :: es) X.env)) (backToKw pos (keywordEach [] X.env))) := by rfl) : PE X (.Call (.Attribute o m apos) (e :: es) [] pos) (tMeth C m sp [] E ta t) := by
  obtain ⟨f, fd, F, hb, hm⟩ := M.ex
  exact pe_meth (pl := pl) ho c hm F hr hb .nil (passes_call tk hW) ha h1 h2 h3
theorem pmethX0 {pl : Sem Bool} (M : MCalX X.prog X.w X.K X.mg X.base k C m ps sp) (c : Cls X.K C) (hr : Room k X.A) (tk : Takes X W) (hW : ∀ cls d σ H, E cls d H → W cls d σ H) (ho : PE X o ta)
    (h3 : eval (.Call (.Attribute o m apos) [] [] pos) X.env = (do
      let v ← eval o X.env
      standAt apos.atName
      let (f, first) ← holding [v] (getMethod v m pl)
      callWith pos f first (backTo pos (starEach [] X.env)) (backToKw pos (keywordEach [] X.env))) := by rfl) : PE X (.Call (.Attribute o m apos) [] [] pos) (tMeth C m sp [] E ta tNil) := by
  obtain ⟨f, fd, F, hb, hm⟩ := M.ex
  exact pe_meth0 (pl := pl) ho c hm F hr hb .nil (passes_call tk hW) h3
theorem pmakeX (M : KCalX X.prog X.w X.K X.mg X.base k C x ps sp) (hr : Room (k + 1) X.A) (hg : Gl X x) (tk : Takes X W) (hW : ∀ cls d σ H, E cls d H → W cls d σ H) (ha : PA X (e :: es) t)
    (h0 : (x == ("__debug__" : Str)) = false := by decide) (h1 : starEach (e :: es) X.env = (false, eval e X.env) :: starEach es X.env := by rfl) (h2 : (backTo pos (starEach es X.env)).any (·.1) = false := by rfl) : PE X (.Call (.Name x p) (e :: es) [] pos) (tMake C sp [] E t) := by
  obtain ⟨f, fd, F, hb, mk, hm⟩ := M.ex
  exact pe_make mk F hr hg hm hb .nil (passes_call tk hW) ha h0 h1 h2
end
/-- what is taken need be taken from as many slots as there are alone -/
theorem takes_len {X : Cx} {W W' : WX} (t : Takes X W) (h : ∀ c d σ H, σ.length = X.N.length → W' c d σ H → W c d σ H) : Takes X W' := fun u s' ⟨a, B, sI, pins, σ, H, cls, d, e, I, r1, r2, r3, r4, r5, r6, w⟩ =>
  t u s' ⟨a, B, sI, pins, σ, H, cls, d, e, I, r1, r2, r3, r4, r5, r6, h _ _ _ _ I.len w⟩
/-! ### list.count of plain values -/
def rCntF (K : PySem.W.Frag) : V → List V → Hp → VK → Prop := fun x xs H Q => ∃ (p : Addr) (ys : List V) (y : V), x = .ref p ∧ xs = [y] ∧ SqL K H p ys ∧ flatV y = true ∧ ys.all flatV = true ∧ Q (.int (ys.countP fun z => eqV z y : Nat)) H
theorem countP_rel {y : V} : ∀ {us : List Value} {ys : List V}, Vals ys us → ys.all flatV = true → us.countP (eqU y) = ys.countP fun z => eqV z y
  | _, _, .nil, _ => rfl
  | _, _, .cons r t, f => by
    rw [List.all_cons, Bool.and_eq_true] at f
    rw [List.countP_cons, List.countP_cons, countP_rel t f.2, eqU_of r f.1]
theorem mt_lcountF {X : Cx} : MtR X "list.count" (rCntF X.K) := by
  intro pins s σ H x xs v us Q I rx rxs h
  obtain ⟨p, ys, y, rfl, rfl, hs, fy, fys, q⟩ := h
  cases rx
  obtain ⟨u, rfl, ru⟩ := rxs.one
  obtain ⟨its, rv, ⟨⟨cls, dd, data, sl⟩, n, ho, hc, hdn, hd⟩, hlen⟩ := I.list hs
  cases (show cls = _ from hc)
  cases (show data = _ from hd)
  refine call_meets PySem.F.slot_list_count ⟨_, ho, rfl⟩ PySem.F.entry_list_count (PySem.F.args_list_count_2 _ _)
    (SeqAt.list_countAt p its.toArray n dd sl u (eqU y)) ⟨ho, fun z hz => mem_eqAt ru fy rv fys z (by simpa using hz), ?_⟩
  refine ⟨.int (ys.countP fun z => eqV z y : Nat), H, I.tok _, ⟨s.toks, ?_⟩, q⟩
  show Value.int ((its.toArray.toList.countP (eqU y) : Nat) : Int) s.toks = _
  rw [show its.toArray.toList = its from rfl, countP_rel rv fys]
/-! ### a lambda handed to a def of the module -/
def tLam1 (Pt : Addr) (q : Str) (TT : (XK → Hp → VK → Prop) → Hp → VK → Prop) (t : XK → TE) : TE := fun σ H Q => TabS H Pt q ∧ ∀ H1, ExtN H H1 → TabS H1 Pt q → TT (fun E H' Q' => t E σ H' Q') H1 Q
/-- x(lambda: body), x a def of one parameter -/
theorem pe_lamD {X : Cx} {TT : (XK → Hp → VK → Prop) → Hp → VK → Prop} {x a q : Str} {st : Stmt} {c Pt : Addr} {k : Nat} {Ng : List Str} {params : Arguments} {body : Expr} {scope : Scope} {t : XK → TE} {p lpos pos : Pos} (D : Def X.K X.mg x st [a]) (hg : Gl X x) (Sg : FnScope Ng [a] (defScope st)) (hNg : Ng[0]? = some a) (hva : Vis (defScope st) a)
    (hG : ∀ g cdg, GivesTo X Ng x (defScope st) g cdg (defBody st) a q TT) (TB : TabB X.base X.mg c Pt) (hcode : X.env.code = .ref c) (hr : Room (k + 2) X.A) (L : LamS X.env.scope scope) (hq : X.env.qual ++ "<lambda>" = q) (hdef : defaultsOf params X.env = ([], []))
    (hbind : ∀ (q : Str) (cl : List (Str × Addr)) (pm cv ctv : Value), bindArgs (PySem.W.kla_fn "<lambda>" q params body scope cl pm cv ctv) ⟨[], []⟩ = pure [])
    (hbody : ∀ (A : Around) (outer : List Env) (s : Shared) (H : Hp) (E : XK) (f c' : Addr), Room k (A.deeper (lamEnv X scope s.heap.objs.size f c')) → PE (lamCx X A outer s H E scope f c') body (t E))
    (hdb : (x == ("__debug__" : Str)) = false := by decide) (hd : (a == ("__debug__" : Str)) = false := by decide) (hcd : (a == ("__classdict__" : Str)) = false := by decide) : PE X (.Call (.Name x p) [.Lambda params body scope lpos] [] pos) (tLam1 Pt q TT t) := by
  obtain ⟨g, fd, F, b, m⟩ := D.ex
  obtain ⟨oc, od, kV, doc, pm, an, cdv, ct, osl, e, lk, hcdv⟩ := id F.ex
  cases e
  subst hq
  have z : PE X (.Call (.Name x p) [.Lambda params body scope lpos] [] pos) (tLam [(Pt, X.env.qual ++ "<lambda>")] TT t) :=
    LamX.pe_lamcall hg m F.kp lk hcdv b Sg hNg hva (hG g cdv) TB hcode (List.mem_singleton.mpr rfl) (fun r hr _ => by rw [List.mem_singleton.mp hr]) hr L hdef hbind hbody hdb hd hcd
  refine ⟨fun pins s σ H Q I h => z.run pins s σ H Q I ⟨fun r hr => ?_, fun H1 e1 t1 => h.2 H1 e1 (t1 _ (List.mem_singleton.mpr rfl))⟩⟩
  rw [List.mem_singleton.mp hr]
  exact h.1
end Ev

/-! ## _law_text_caught: what a call told, or at which place of a text it stopped -/
namespace Ev
open PySem PySem.Spec PyProof.Rows L2
open LamX (CodeO TabS Tabs ExtN TabB LamS lamCx lamEnv GivesTo tLam)
/-- the error of texts, and two others -/
structure TxC (K : PySem.W.Frag) (mg : Str → Option Value) (cS cB cP cC : Addr) : Prop where
  cls : ErrC K cB
  fld : PySem.W.findIn K (.ref cB) "position" = some none
  up : PySem.W.exmOne K (.ref cB) (.ref cS) = some true
  own : PySem.W.kitOne K (.ref cB) (.ref cB) = some true
  oth : PySem.W.kitAny K (.ref cB) [.ref cP, .ref cC] = some false
  val : PySem.W.kitOne K (.ref cB) (.type "ValueError") = some true
  gS : mg "SampleError" = some (.ref cS)
  gB : mg "BadText" = some (.ref cB)
  gP : mg "BadProgram" = some (.ref cP)
  gC : mg "BadCommand" = some (.ref cC)
  nV : mg "ValueError" = none
theorem Kept.sameX {H H' : Hp} {a C : Addr} {fs : Option (List (Str × V))} (k : Kept H a C fs) (s : Same H H') : Kept H' a C fs := by
  obtain ⟨d, ea, m⟩ := k
  refine ⟨d, s _ _ ea, ?_⟩
  match d, fs, m with
  | none, none, _ => trivial
  | some d, some l, m => exact s _ _ m
/-- what is told of an error -/
def ErX (cB : Addr) (Q : VK) : XK := fun cls d H' => ∃ (dd : Addr) (n : Nat), cls = .ref cB ∧ d = some dd ∧ H' dd = some (.xd [("position", .int (n : Nat))]) ∧ ∀ H'' t, Same H' H'' → H'' t = some (.tup [.str "text", .int (n : Nat)]) → Q (.ref t) H''
def TTx (cB : Addr) : (XK → Hp → VK → Prop) → Hp → VK → Prop := fun tl H Q => ∀ (H1 : Hp) (R : VK), Same H H1 → (∀ v H', (∀ H'' t, Same H' H'' → H'' t = some (.tup [.str "told", v]) → Q (.ref t) H'') → R v H') → tl (ErX cB Q) H1 R
theorem scCx : FnScope ["_law_call", "_law_caught", "_law_told", "error", "_law_is_other"] ["_law_call"] (defScope (topS 31)) := ⟨rfl, rfl, rfl, by decide +kernel, rfl, by decide +kernel, by decide +kernel⟩
section
variable {K : PySem.W.Frag} {mg : Str → Option Value}
theorem text_gives {X : Cx} {q : Str} {c_SampleError c_BadText c_BadProgram c_BadCommand : Addr} (Z : TxC X.K X.mg c_SampleError c_BadText c_BadProgram c_BadCommand) (nb : NB X.mg) (g : Addr) (cdg : Value) :
    GivesTo X ["_law_call", "_law_caught", "_law_told", "error", "_law_is_other"] "_law_text_caught" (defScope (topS 31)) g cdg (defBody (topS 31)) "_law_call" q (TTx c_BadText) := by
  have g_SampleError := Z.gS
  have g_BadText := Z.gB
  have g_BadProgram := Z.gP
  have g_BadCommand := Z.gC
  have n_ValueError := Z.nV
  intro f c' s H Q tl act hc h
  refine ⟨_, (pss_cons (ps_asg (pe_tup (pa_cons pe_non (pa_cons pe_non pa_nil))) (pg_tup rfl (pgs_cons (pg_name (i := 1) scCx.nd rfl (Or.inl rfl)) (pgs_cons (pg_name (i := 2) scCx.nd rfl (Or.inl rfl)) pgs_nil))))
      (pss_cons (ps_try_kept (i := 3) (tb := fun W D σ H => ∃ Ech : XK, (∀ cls d σ' H', σ'.length = 5 → Ech cls d H' → W cls d σ' H') ∧ σ[0]? = some (some (.ref f)) ∧ H c' = some (CodeO c' q) ∧ tl Ech H fun v H' => D.nx (σ.set 2 (some v)) H') rfl rfl rfl scCx.nd rfl rfl ⟨rfl, rfl, .inl g_SampleError⟩
        (fun W pn xe tkB => ⟨fun pins s' σ H' D I ⟨Ech, hW, h1, h2, h3⟩ => (pss_one (ps_set (i := 2) scCx.nd rfl (.inl rfl) (act (fun cls d _ H => Ech cls d H) pn xe Ech _ _ (takes_len tkB fun c d σ H hl he => hW c d σ H hl he) fun _ _ _ _ z => z))).run pins s' σ H' D I ⟨h1, h2, h3⟩⟩)
        (fun a pn => (pss_one (ps_set (i := 1) scCx.nd rfl (.inl rfl) (pv 3)))))
      (pss_cons (ps_if (pt_cmp (pc_isN (pv 1)) rfl)
        (pss_one (ps_ret (pe_tup (pa_cons pe_str (pa_cons (pv 2) pa_nil)))))
        pss_nil)
      (pss_cons (ps_set (i := 4) scCx.nd rfl (.inl rfl) (pe_or (pe_callB call_isKT (by rfl) nb.at (by decide +kernel) (pa_cons (pv 1) (pa_cons (pe_tup (pa_cons (pe_glob (v := .ref c_BadProgram) rfl g_BadProgram rfl) (pa_cons (pe_glob (v := .ref c_BadCommand) rfl g_BadCommand rfl) pa_nil))) pa_nil))) (pe_one (pe_not (pe_callB call_isK (by rfl) nb.at (by decide +kernel) (pa_cons (pv 1) (pa_cons (ty_of (T := "ValueError") rfl n_ValueError (by decide +kernel)) pa_nil)))))))
      (pss_one (ps_ret (pe_ifExp (PW.pt (pw_and (pt_val (pe_callB call_isK (by rfl) nb.at (by decide +kernel) (pa_cons (pv 1) (pa_cons (pe_glob (v := .ref c_BadText) rfl g_BadText rfl) pa_nil)))) (pw_and1 (pt_not (pt_val (pv 4)))))) (pe_tup (pa_cons pe_str (pa_cons (pe_atK (pv 1)) pa_nil))) (pe_tup (pa_cons pe_str (pa_cons pe_non pa_nil)))))))))), ?_⟩
  refine ⟨(by show 2 ≤ sizeLine; decide), fun t0 nt0 => ⟨t0, _, rfl, .inl (.inl upd_same), rfl, _, _, rfl, _, _, rfl, rfl, ErX c_BadText Q, fun cls d σ' H' hl he => ?_, rfl, ?_, ?_⟩⟩
  · obtain ⟨y0, y1, y2, y3, y4, rfl⟩ : ∃ y0 y1 y2 y3 y4 : Option V, σ' = [y0, y1, y2, y3, y4] := by
      match σ', hl with
      | [a, b, c, d, e], _ => exact ⟨a, b, c, d, e, rfl⟩
    obtain ⟨dd, n, rfl, rfl, hd, qq⟩ := he
    refine ⟨Z.up, fun a na => ?_⟩
    have da : dd ≠ a := fun z => by
      rw [z, na] at hd
      cases hd
    have kp : Kept (upd H' a (XcO a (.ref c_BadText) (some dd))) a c_BadText (some [("position", .int (n : Nat))]) := ⟨some dd, upd_same, by show upd H' a _ dd = _; rw [upd_ne da]; exact hd⟩
    have s0 := same_put (o := XcO a (.ref c_BadText) (some dd)) na
    refine ⟨_, rfl, _, rfl, false, congrArg V.bl (decide_eq_false nofun), iteF ?_⟩
    refine ⟨_, rfl, (by show 2 ≤ sizeLine; decide), fun t nt => ?_⟩
    have k1 := kp.sameX (same_put (o := .tup [.ref c_BadProgram, .ref c_BadCommand]) nt)
    refine ⟨a, c_BadText, _, t, _, _, false, rfl, k1, Z.cls, upd_same, .cons (.own _) (.cons (.own _) .nil), Z.oth, false, rfl, iteF ⟨_, rfl, a, c_BadText, _, _, _, true, rfl, k1, Z.cls, .ty _, Z.val, true, rfl, ?_⟩⟩
    refine ⟨_, rfl, a, c_BadText, _, _, _, true, rfl, k1, Z.cls, .own _, Z.own, true, rfl, iteT ⟨_, rfl, _, rfl, iteT ?_⟩⟩
    exact ⟨_, rfl, a, c_BadText, _, _, rfl, k1, Z.cls, Z.fld, rfl, (by show 2 ≤ sizeLine; decide), fun t2 nt2 => qq _ t2 (s0.trans ((same_put nt).trans (same_put nt2))) upd_same⟩
  · exact same_put nt0 _ _ hc
  · refine h _ _ (same_put nt0) fun v H' qq => ?_
    refine ⟨_, rfl, true, congrArg V.bl (decide_eq_true rfl), iteT ⟨_, rfl, (by show 2 ≤ sizeLine; decide), fun t nt => qq _ t (same_put nt) upd_same⟩⟩
end
end Ev

/-! ## Weaker promises; numbers from 0 -/
namespace Ev
open PySem PySem.Spec PyProof.Rows L2
theorem FnG.imp {P : Program} {w : World} {K : PySem.W.Frag} {mg : Str → Option Value} {base : Heap} {CX : CXT} {k : Nat} {f : Addr} {fd : FuncData} {ps : List Str} {sp sp' : Sp} (F : FnG P w K mg base CX k f fd ps sp)
    (h : ∀ vs H Q E, sp' vs H Q E → sp vs H Q E) : FnG P w K mg base CX k f fd ps sp' :=
  ⟨fun vs H Q E z => F.many vs H Q E (h _ _ _ _ z), fun A o s H args us vs Q E hr gd e b v z => F.go A o s H args us vs Q E hr gd e b v (h _ _ _ _ z)⟩
theorem Cal.imp {P : Program} {w : World} {K : PySem.W.Frag} {mg : Str → Option Value} {base : Heap} {k : Nat} {x : Str} {ps : List Str} {sp sp' : Sp} (C : Cal P w K mg base k x ps sp) (h : ∀ vs H Q E, sp' vs H Q E → sp vs H Q E) : Cal P w K mg base k x ps sp' := by
  obtain ⟨f, fd, F, b, m, v⟩ := C.ex
  exact ⟨f, fd, F.imp h, b, m, v⟩
theorem nn_mem : ∀ {is : List It} {i : It}, Its.nn is → i ∈ is → It.nn i
  | j :: is, i, h, m => by
    rw [Its.nn] at h
    rcases List.mem_cons.mp m with rfl | m
    · exact h.1
    · exact nn_mem h.2 m
theorem nn_of : ∀ {is : List It}, (∀ i ∈ is, It.nn i) → Its.nn is
  | [], _ => by
    rw [Its.nn]
    trivial
  | i :: is, h => by
    rw [Its.nn]
    exact ⟨h i (List.mem_cons_self ..), nn_of fun j hj => h j (List.mem_cons_of_mem _ hj)⟩
theorem nn_app {is js : List It} (h : Its.nn is) (k : Its.nn js) : Its.nn (is ++ js) := nn_of fun i hi => by
  rcases List.mem_append.mp hi with z | z
  · exact nn_mem h z
  · exact nn_mem k z
end Ev

/-! ## Lists of pairs, and dicts of them -/
namespace Ev
open PySem PySem.Spec PyProof.Rows L2
theorem paired_of {α β : Type} {R : α → β → Prop} : ∀ {as : List α} {bs : List β}, as.length = bs.length → (∀ (j : Nat) a b, as[j]? = some a → bs[j]? = some b → R a b) → Paired R as bs
  | [], [], _, _ => .nil
  | [], _ :: _, h, _ => by simp at h
  | _ :: _, [], h, _ => by simp at h
  | a :: as, b :: bs, h, f => .cons (f 0 a b rfl rfl) (paired_of (by simpa using h) fun j x y h1 h2 => f (j + 1) x y (by simpa using h1) (by simpa using h2))
/-- [(..) for x in a list] -/
theorem lcT_list {K : PySem.W.Frag} {σ : L2.St} {H : Hp} {Q : VK} {te ti : TE} {a : Addr} {xs : List V} {g : TG} {vs : List Nat} (row : V → List V) (hi : ∀ Q : VK, Q (.ref a) H → ti σ H Q) (hx : SqL K H a xs) (hz : xs.length ≤ 1000000)
    (he : ∀ x ∈ xs, ∀ (H' : Hp) (R : VK), Same H H' → (∀ H'' t, Same H' H'' → H' t = none → H'' t = some (.tup (row x)) → R (.ref t) H'') → g x (wipe σ vs) H' fun σ2 H2 => wipe σ2 vs = wipe σ vs ∧ te σ2 H2 R)
    (q : ∀ H' D (ps : List Addr), Same H H' → H D = none → H' D = some (.lst (ps.map V.ref)) → ps.length = xs.length → (∀ (j : Nat) t x, ps[j]? = some t → xs[j]? = some x → H' t = some (.tup (row x))) → Q (.ref D) H') : tLc (iList K ti) g tYes te vs σ H Q := by
  refine hi _ ⟨a, rfl, ⟨xs, hx⟩, fun D nD => ?_⟩
  have y := sizeLine_eq
  refine lc_list (K := K) (a := a) (xs := xs) (fun k H' => Same H H' ∧ ∃ ps : List Addr, H' D = some (.lst (ps.map V.ref)) ∧ ps.length = k ∧ ∀ (j : Nat) t x, ps[j]? = some t → xs[j]? = some x → t ≠ D ∧ H' t = some (.tup (row x)))
    ⟨same_put nD, [], upd_same, rfl, fun j t x h => by simp at h⟩ (fun k H' _ ⟨s', _⟩ => s'.seq hx) ?_ ?_
  · rintro k x H' hk ⟨s', ps, eD, hl, hp⟩
    have hkl : k < xs.length := (List.getElem?_eq_some_iff.mp hk).1
    refine cast ?_ (he x (List.mem_of_getElem? hk) H' (fun y H4 => ∃ acc, H4 D = some (.lst acc) ∧ acc.length < sizeLine ∧ Same H (upd H4 D (.lst (acc ++ [y]))) ∧ ∃ ps : List Addr, upd H4 D (.lst (acc ++ [y])) D = some (.lst (ps.map V.ref)) ∧ ps.length = k + 1 ∧ ∀ (j : Nat) t x, ps[j]? = some t → xs[j]? = some x → t ≠ D ∧ upd H4 D (.lst (acc ++ [y])) t = some (.tup (row x))) s' fun H4 t s4 nt h4 => ⟨_, s4 _ _ eD, ?_, ?_, ps ++ [t], ?_, ?_, ?_⟩)
    · rfl
    · rw [List.length_map]
      omega
    · intro b o h
      rw [upd_ne (ne_of_none h nD)]
      exact s4 _ _ (s' _ _ h)
    · rw [upd_same, List.map_append]
      rfl
    · rw [List.length_append, hl]
      rfl
    · intro j u z hj hz
      have htD : t ≠ D := fun e => by
        rw [e, eD] at nt
        cases nt
      by_cases hjk : j < k
      · rw [List.getElem?_append_left (by omega)] at hj
        obtain ⟨g1, g2⟩ := hp j u z hj hz
        refine ⟨g1, ?_⟩
        rw [upd_ne g1]
        exact s4 _ _ g2
      · have hjk : j = k := by
          obtain ⟨h1, _⟩ := List.getElem?_eq_some_iff.mp hj
          rw [List.length_append, hl] at h1
          have h1 : j < k + 1 := h1
          omega
        subst hjk
        rw [List.getElem?_append_right (by omega), hl, Nat.sub_self] at hj
        obtain rfl : t = u := Option.some.inj hj
        obtain rfl : x = z := Option.some.inj (hk.symm.trans hz)
        refine ⟨htD, ?_⟩
        rw [upd_ne htD]
        exact h4
  · rintro H' ⟨s', ps, eD, hl, hp⟩
    exact q H' D ps s' nD eD hl fun j t x h1 h2 => (hp j t x h1 h2).2
theorem merge_val {v : Key → V} {k : Key} : ∀ {kvs acc : List (Key × V)}, (∀ p ∈ kvs, p.2 = v p.1) → ((∃ p ∈ kvs, p.1 = k) ∨ valV acc k = some (v k)) → valV (mergeK acc kvs) k = some (v k)
  | [], acc, _, h => by
    rcases h with ⟨p, hp, _⟩ | h
    · cases hp
    · exact h
  | p :: kvs, acc, hv, h => by
    show valV (mergeK (putK acc p.1 p.2) kvs) k = _
    refine merge_val (fun q hq => hv q (List.mem_cons_of_mem _ hq)) ?_
    by_cases e : k = p.1
    · right
      rw [valV_put, if_pos e, hv p (List.mem_cons_self ..), e]
    · rcases h with ⟨q, hq, eq⟩ | h
      · rcases List.mem_cons.mp hq with rfl | hq
        · exact absurd eq.symm e
        · exact .inl ⟨q, hq, eq⟩
      · right
        rw [valV_put, if_neg e]
        exact h
/-- a dict from numbers -/
theorem merge_nat {v : Nat → V} {ds : List Nat} {d : Nat} (h : d ∈ ds) : valV (mergeK [] (ds.map fun d => ((.inl ((d : Nat) : Int) : Key), v d))) (.inl ((d : Nat) : Int)) = some (v d) := by
  refine merge_val (v := fun k => match k with | .inl i => v i.toNat | .inr _ => .non) (k := .inl ((d : Nat) : Int)) (fun p hp => ?_) (.inl ⟨(.inl ((d : Nat) : Int), v d), List.mem_map.mpr ⟨d, h, rfl⟩, rfl⟩)
  obtain ⟨e, _, rfl⟩ := List.mem_map.mp hp
  rfl
end Ev

/-! ## is True, is False; tuples in a comprehension over a range -/
namespace Ev
open PySem PySem.Spec PyProof.Rows L2
section
variable {X : Cx} {a : Expr} {ta : TE}
def tIsB (b : Bool) (ta : TE) : TE := fun σ H Q => ta σ H fun x H1 => ∃ c, x = .bl c ∧ Q (.bl (c == b)) H1
def tNotB (b : Bool) (ta : TE) : TE := fun σ H Q => ta σ H fun x H1 => ∃ c, x = .bl c ∧ Q (.bl (c != b)) H1
theorem pc_isB {b : Bool} {j pos'} (ha : PE X a ta) : PC X .Is a (.Constant (.bool b) j pos') (tIsB b ta) := by
  refine ⟨fun pins s σ H Q I h => thn (ha.run pins s σ H _ I h) fun v s1 ⟨x, H1, I1, r1, c, ex, q1⟩ => ?_⟩
  subst ex
  cases r1
  exact Constant_bool (is_bool ⟨.bl _, H1, I1, rfl, q1⟩)
theorem pc_notB {b : Bool} {j pos'} (ha : PE X a ta) : PC X .IsNot a (.Constant (.bool b) j pos') (tNotB b ta) := by
  refine ⟨fun pins s σ H Q I h => thn (ha.run pins s σ H _ I h) fun v s1 ⟨x, H1, I1, r1, c, ex, q1⟩ => ?_⟩
  subst ex
  cases r1
  exact Constant_bool (isnot_bool ⟨.bl _, H1, I1, rfl, q1⟩)
end
abbrev rTupOf (K : PySem.W.Frag) : List V → Hp → VK → Prop := fun xs H Q => ∃ p ys, xs = [.ref p] ∧ ((SqL K H p ys ∧ ∀ l, H l = none → Q (.ref l) (upd H l (.tup ys))) ∨ (SqT K H p ys ∧ Q (.ref p) H))
/-- [(..) for k in range(n)] -/
theorem lcT_rng {σ : L2.St} {H : Hp} {Q : VK} {te : TE} {ta : TA} {n : Nat} {g : TG} {vs : List Nat} (row : Nat → List V) (hta : ∀ (Q : List V → Hp → Prop), Q [.int (n : Nat)] H → ta σ H Q) (hz : n ≤ 1000000)
    (he : ∀ k, k < n → ∀ (H' : Hp) (R : VK), Same H H' → (∀ H'' t, Same H' H'' → H' t = none → H'' t = some (.tup (row k)) → R (.ref t) H'') → g (nV k) (wipe σ vs) H' fun σ2 H2 => wipe σ2 vs = wipe σ vs ∧ te σ2 H2 R)
    (q : ∀ H' D (ps : List Addr), Same H H' → H D = none → H' D = some (.lst (ps.map V.ref)) → ps.length = n → (∀ (j : Nat) t, ps[j]? = some t → H' t = some (.tup (row j))) → Q (.ref D) H') : tLc (iRng1 ta) g tYes te vs σ H Q := by
  refine hta _ ⟨(n : Nat), rfl, by omega, by omega, fun D nD => ?_⟩
  have y := sizeLine_eq
  rw [Int.toNat_natCast]
  refine lc_range (lo := 0) (n := n) (fun k H' => Same H H' ∧ ∃ ps : List Addr, H' D = some (.lst (ps.map V.ref)) ∧ ps.length = k ∧ ∀ (j : Nat) t, ps[j]? = some t → t ≠ D ∧ H' t = some (.tup (row j)))
    ⟨same_put nD, [], upd_same, rfl, fun j t h => by simp at h⟩ ?_ ?_
  · rintro k H' hk ⟨s', ps, eD, hl, hp⟩
    have e0 : V.int (0 + (k : Nat)) = nV k := by
      show V.int (0 + (k : Nat)) = V.int (k : Nat)
      rw [Int.zero_add]
    rw [e0]
    refine cast ?_ (he k hk H' (fun y H4 => ∃ acc, H4 D = some (.lst acc) ∧ acc.length < sizeLine ∧ Same H (upd H4 D (.lst (acc ++ [y]))) ∧ ∃ ps : List Addr, upd H4 D (.lst (acc ++ [y])) D = some (.lst (ps.map V.ref)) ∧ ps.length = k + 1 ∧ ∀ (j : Nat) t, ps[j]? = some t → t ≠ D ∧ upd H4 D (.lst (acc ++ [y])) t = some (.tup (row j))) s' fun H4 t s4 nt h4 => ⟨_, s4 _ _ eD, ?_, ?_, ps ++ [t], ?_, ?_, ?_⟩)
    · rfl
    · rw [List.length_map]
      omega
    · intro b o h
      rw [upd_ne (ne_of_none h nD)]
      exact s4 _ _ (s' _ _ h)
    · rw [upd_same, List.map_append]
      rfl
    · rw [List.length_append, hl]
      rfl
    · intro j u hj
      have htD : t ≠ D := fun e => by
        rw [e, eD] at nt
        cases nt
      by_cases hjk : j < k
      · rw [List.getElem?_append_left (by omega)] at hj
        obtain ⟨g1, g2⟩ := hp j u hj
        refine ⟨g1, ?_⟩
        rw [upd_ne g1]
        exact s4 _ _ g2
      · have hjk : j = k := by
          obtain ⟨h1, _⟩ := List.getElem?_eq_some_iff.mp hj
          rw [List.length_append, hl] at h1
          have h1 : j < k + 1 := h1
          omega
        subst hjk
        rw [List.getElem?_append_right (by omega), hl, Nat.sub_self] at hj
        obtain rfl : t = u := Option.some.inj hj
        refine ⟨htD, ?_⟩
        rw [upd_ne htD]
        exact h4
  · rintro H' ⟨s', ps, eD, hl, hp⟩
    exact q H' D ps s' nD eD hl fun j t h1 => (hp j t h1).2
theorem cb_lcB {tl : TE} {r : List V → Hp → VK → Prop} {Q : VK} {σ : L2.St} {H : Hp} (h : tl σ H fun v H1 => r [v] H1 Q) : tCB r (tCons tl tNil) σ H Q := h
theorem ret_cbB {tl : TE} {r : List V → Hp → VK → Prop} {D : Ends} {σ : L2.St} {H : Hp} (h : tl σ H fun v H1 => r [v] H1 D.rt) : tRet (tCB r (tCons tl tNil)) D σ H := h
def stV (e : Str → V) : V → V
  | .str x => e x
  | v => v
theorem filt_st {e : Str → V} {l : List Str} : ((l.map V.str).filter (fun _ => true)).map (stV e) = l.map e := by
  rw [List.filter_eq_self.mpr (fun _ _ => rfl), List.map_map]
  rfl
end Ev

/-! ## defs that may be called within a lambda: no word of guards -/
namespace Ev
open PySem PySem.Spec PyProof.Rows L2
section
variable {P : Program} {w : World} {K : PySem.W.Frag} {mg : Str → Option Value} {base : Heap} {x : Str} {st : Stmt} {ps N : List Str} {sp sp' : Sp} {k j : Nat}
theorem Def.okO (D : Def K mg x st ps) (S : FnScope N ps (defScope st)) (len : ∀ vs H Q E, sp vs H Q E → vs.length = ps.length)
    (hbody : ∀ (f : Addr) (cdv : Value) (A : Around) (outer : List Env) (s : Shared) (H : Hp) (vs : List V) (Q : VK) (E : XK),
      Room k (A.deeper (envOfC x (defScope st) s.heap.objs.size f cdv)) → sp vs H Q E →
      ∃ t, PSs (cxOf CX0 P w K mg base N x (defScope st) f cdv A outer s H E).nox (defBody st) t ∧
        t { nx := fun _ H' => Q .non H', rt := Q } (start N vs) H) : CalN CX0 P w K mg base (k + 1) x ps sp := by
  obtain ⟨f, fd, F, b, m⟩ := D.ex
  exact ⟨f, fd, F.ok S len fun cdv A outer s H vs Q E hr h => hbody f cdv A outer s H vs Q E hr h, b, m, F.kp⟩
theorem no_calO (D : Def K mg x st ps) : CalN CX0 P w K mg base k x ps (fun _ _ _ _ => False) := by
  obtain ⟨f, fd, F, b, m⟩ := D.ex
  exact ⟨f, fd, no_fn, b, m, F.kp⟩
theorem CalN.of0 {f : Addr} {fd : FuncData} (F : FnOk P w K mg base CX0 k f fd ps sp) (b : Binds K fd ps []) (m : mg x = some (.ref f)) (v : PySem.W.keepIn K (.ref f) = true) : CalN CX0 P w K mg base k x ps sp := ⟨f, fd, F, b, m, v⟩
theorem CalN.imp {CX : CXT} (C : CalN CX P w K mg base k x ps sp) (h : ∀ vs H Q E, sp' vs H Q E → sp vs H Q E) : CalN CX P w K mg base k x ps sp' := by
  obtain ⟨f, fd, F, b, m, v⟩ := C.ex
  exact ⟨f, fd, F.imp h, b, m, v⟩
end
end Ev

/-! ## read_program -/
namespace Ev
open PySem PySem.Spec PyProof.Rows L2
def spIl : Sp := fun vs H Q _ => ∃ x : Str, vs = [.str x] ∧ Q (.bl ((!decide (x.cps.toList < [97])) && !decide ([122] < x.cps.toList))) H
def spRn (K : PySem.W.Frag) : Sp := fun vs H Q _ => ∃ (z : Str) (a : Nat), vs = [.str z, .int (a : Nat)] ∧ z.length ≤ sizeLine ∧ ∀ H' u, Same H H' → Da K H' u (.tuple [.str (cutN (TL.tl z) a (nameEnd (TL.tl z) a)), .int (nameEnd (TL.tl z) a : Nat)]) → Q u H'
def spBh (cB : Addr) : Sp := fun vs H Q E => ∃ (z y : Str) (a : Nat), vs = [.str z, .int (a : Nat), .str y] ∧ z.length ≤ sizeLine ∧ y.length ≤ 1000 ∧ RdG (rdBh (TL.tl z) (TL.tl y) a) cB H E fun b => ∀ H', Same H H' → Q (.int (b : Nat)) H'
def spRm (K : PySem.W.Frag) (cB : Addr) : Sp := fun vs H Q E => ∃ (z : Str) (a most : Nat), vs = [.str z, .int (a : Nat), .int (most : Nat)] ∧ z.length ≤ sizeLine ∧ most ≤ 10 ^ 18 ∧ 9 ≤ most ∧
  RdG (rdNum (TL.tl z) most a) cB H E fun b => ∀ H' u, Same H H' → Da K H' u (.tuple [.int (b.1 : Nat), .int (b.2 : Nat)]) → Q u H'
def spRi (K : PySem.W.Frag) (cB : Addr) (d : Nat) : Sp := fun vs H Q E => ∃ (z : Str) (a r : Nat), vs = [.str z, .int (a : Nat), .int (d : Nat), .int (r : Nat)] ∧ z.length ≤ sizeLine ∧ 1 ≤ r ∧ r ≤ 60 ∧
  RdG (rdIt (TL.tl z) d a r) cB H E fun b => ∀ H' u, Same H H' → Da K H' u (.tuple [It.d b.1, .int (b.2.1 : Nat), .int (b.2.2 : Nat)]) → Q u H'
def spRis (K : PySem.W.Frag) (cB : Addr) (d : Nat) : Sp := fun vs H Q E => ∃ (z : Str) (a r : Nat), vs = [.str z, .int (a : Nat), .int (d : Nat), .int (r : Nat)] ∧ z.length ≤ sizeLine ∧ 1 ≤ r ∧ r ≤ 60 ∧
  RdG (rdMany (rdIt (TL.tl z) d) (TL.tl z) a r) cB H E fun b => ∀ H' u, Same H H' → Da K H' u (.tuple [.tuple (b.1.map It.d), .int (b.2.1 : Nat), .int (b.2.2 : Nat)]) → Q u H'
def spRp (K : PySem.W.Frag) (cB : Addr) : Sp := fun vs H Q E => ∃ (v : V) (dd : PyData), vs = [v] ∧ Da K H v dd ∧ (∀ z, dd = .str z → z.length ≤ sizeLine ∧ RdG (rdP (TL.tl z)) cB H E fun is => ∀ H' u, Same H H' → Da K H' u (.tuple (is.map It.d)) → Q u H') ∧ ((∀ z, dd ≠ .str z) → RzP cB 0 H E)
theorem scIl : FnScope ["text"] ["text"] (defScope (topS 17)) := ⟨rfl, rfl, rfl, by decide +kernel, rfl, by decide +kernel, by decide +kernel⟩
theorem scRn : FnScope ["text", "at", "stop"] ["text", "at"] (defScope (topS 15)) := ⟨rfl, rfl, rfl, by decide +kernel, rfl, by decide +kernel, by decide +kernel⟩
theorem scBh : FnScope ["text", "at", "signs", "sign"] ["text", "at", "signs"] (defScope (topS 18)) := ⟨rfl, rfl, rfl, by decide +kernel, rfl, by decide +kernel, by decide +kernel⟩
theorem scRm : FnScope ["text", "at", "most", "number"] ["text", "at", "most"] (defScope (topS 16)) := ⟨rfl, rfl, rfl, by decide +kernel, rfl, by decide +kernel, by decide +kernel⟩
theorem scRi : FnScope ["text", "at", "depth", "room", "name", "ticks", "rounds", "items"] ["text", "at", "depth", "room"] (defScope (topS 14)) := ⟨rfl, rfl, rfl, by decide +kernel, rfl, by decide +kernel, by decide +kernel⟩
theorem scRis : FnScope ["text", "at", "depth", "room", "item", "items"] ["text", "at", "depth", "room"] (defScope (topS 13)) := ⟨rfl, rfl, rfl, by decide +kernel, rfl, by decide +kernel, by decide +kernel⟩
theorem scRp : FnScope ["text", "items", "at", "room"] ["text"] (defScope (topS 12)) := ⟨rfl, rfl, rfl, by decide +kernel, rfl, by decide +kernel, by decide +kernel⟩
section
variable {P : Program} {w : World} {K : PySem.W.Frag} {mg : Str → Option Value} {base : Heap} {cB : Addr} {tT tR tL tE : Tok}
theorem ok_il (D : Def K mg "is_letter" (topS 17) ["text"]) (nb : NB mg) : CalN CX0 P w K mg base 1 "is_letter" ["text"] spIl := by
  refine D.okO scIl (fun vs H Q E h => ?_) (fun fa cdv A outer sh H vs Q E hr h => ?_)
  · obtain ⟨x, rfl, _⟩ := h
    rfl
  · obtain ⟨x, rfl, q⟩ := h
    refine ⟨_, (pss_one (ps_ret (pe_chain op_le_str op_le_str pe_str (pv 0) pe_str))), ?_⟩
    rw [show ([97] : List Nat) = (Str.ofString "a").cps.toList from by decide +kernel, show ([122] : List Nat) = (Str.ofString "z").cps.toList from by decide +kernel] at q
    refine ⟨_, rfl, _, _, rfl, rfl, _, rfl, ?_⟩
    by_cases h : (!decide (x.cps.toList < (Str.ofString "a").cps.toList)) = true
    · rw [if_pos h]
      rw [h, Bool.true_and] at q
      exact ⟨_, _, rfl, rfl, q⟩
    · rw [if_neg h]
      rw [Bool.eq_false_iff.mpr h, Bool.false_and] at q
      exact q
theorem ok_bh (D : Def K mg "behind" (topS 18) ["text", "at", "signs"]) (R_BadText : Err1 P w K mg base "BadText" cB "position") (nb : NB mg) : CalN (L2.CX P w) P w K mg base 3 "behind" ["text", "at", "signs"] (spBh cB) := by
  refine D.okN scBh (fun vs H Q E h => ?_) (fun fa cdv A outer sh H vs Q E hr h => ?_)
  · obtain ⟨z, y, a, rfl, _⟩ := h
    rfl
  · obtain ⟨z, y, a, rfl, hz, hy, g⟩ := h
    refine ⟨_, (pss_cons (ps_for (passes_of rfl) rfl (pi_str (pv 2)) (pg_name (i := 3) scBh.nd rfl (Or.inl rfl))
        (pss_cons (ps_if (pt_cmpR op_ne (pe_slice sl_str (pv 0) (po_some (pv 1)) (po_some (pe_op op_add (pv 1) pe_int))) (pv 3) (nomark _))
          (pss_one (ps_raise1 R_BadText rfl (hr.mono (by omega)) (by rfl) (takes_of rfl rfl rfl rfl) (pv 1)))
          pss_nil)
        (pss_one (ps_aug (i := 1) scBh.nd rfl (.inl rfl) pe_int ip_add))))
      (pss_one (ps_ret (pv 1)))), ?_⟩
    refine ⟨_, rfl, _, rfl, ?_⟩
    refine for_it walk_str (fun i σ' H' => ∃ y3 : Option V, σ' = [some (.str z), some (.int ((a + i : Nat) : Int)), some (.str y), y3] ∧ H' = H ∧ RdG (rdBh (TL.tl z) ((TL.tl y).drop i) (a + i)) cB H E fun b => ∀ H', Same H H' → Q (.int (b : Nat)) H')
      ⟨_, rfl, rfl, g⟩ (fun _ _ _ _ _ => trivial) ?_ ?_
    · rintro i x σ' H1 H2 hi ⟨y3, rfl, rfl, g1⟩ ⟨rfl, c, hc, rfl⟩
      have hd : (TL.tl y).drop i = c :: (TL.tl y).drop (i + 1) := by
        have h1 : (TL.tl y)[i]? = some c := by rw [← hc]; exact Array.getElem?_toList
        obtain ⟨hl, e⟩ := List.getElem?_eq_some_iff.mp h1
        rw [List.drop_eq_getElem_cons hl, e]
      rw [hd] at g1
      refine ⟨_, rfl, _, rfl, _, rfl, _, rfl, _, _, rfl, rfl, _, rfl, z, rfl, hz, _, rfl, rfl, _, rfl, ?_⟩
      rw [cut_sg]
      by_cases e : (TL.tl z)[a + i]? = some c
      · rw [rdBh, if_pos e] at g1
        rw [show (!decide (V.str ⟨(sgN (TL.tl z) (a + i)).toArray⟩ = V.str ⟨#[c]⟩)) = false from by
          rw [decide_eq_true (str_mk.mpr (sgN_eq.mpr e))]
          rfl]
        refine iteF ⟨_, rfl, _, _, rfl, rfl, ?_⟩
        exact ⟨_, rfl, rfl, g1⟩
      · rw [rdBh, if_neg e] at g1
        rw [show (!decide (V.str ⟨(sgN (TL.tl z) (a + i)).toArray⟩ = V.str ⟨#[c]⟩)) = true from by
          rw [decide_eq_false (fun h => e (sgN_eq.mp (str_mk.mp h)))]
          rfl]
        exact iteT ⟨_, rfl, RzP.go g1⟩
    · rintro σ' H1 ⟨y3, rfl, rfl, g1⟩
      rw [List.drop_of_length_le (by show (y.cps.toList).length ≤ y.cps.size; rw [Array.length_toList]; exact Nat.le_refl _)] at g1
      exact ⟨_, rfl, g1 _ Same.rfl'⟩
theorem ok_rn (D : Def K mg "read_name" (topS 15) ["text", "at"]) (C_is_letter : CalN CX0 P w K mg base 1 "is_letter" ["text"] spIl) (g_MOST_LETTERS : mg "MOST_LETTERS" = some (.int 8 tL)) (nb : NB mg) : CalN CX0 P w K mg base 2 "read_name" ["text", "at"] (spRn K) := by
  refine D.okO scRn (fun vs H Q E h => ?_) (fun fa cdv A outer sh H vs Q E hr h => ?_)
  · obtain ⟨z, a, rfl, _⟩ := h
    rfl
  · obtain ⟨z, a, rfl, hz, q⟩ := h
    refine ⟨_, (pss_cons (ps_set (i := 2) scRn.nd rfl (.inl rfl) (pe_op op_add (pv 1) pe_int))
      (pss_cons (ps_while PassesOwn.never (PW.pt (pw_and (pt_val (pcallO C_is_letter (hr.mono (by omega)) (by rfl) (pa_cons (pe_slice sl_str (pv 0) (po_some (pv 2)) (po_some (pe_op op_add (pv 2) pe_int))) pa_nil))) (pw_and1 (pt_cmpR op_lt (pe_op op_sub (pv 2) (pv 1)) (pe_glob (v := .int 8) rfl g_MOST_LETTERS ⟨_, rfl⟩) (nomark _)))))
        (pss_one (ps_aug (i := 2) scRn.nd rfl (.inl rfl) pe_int ip_add)))
      (pss_one (ps_ret (pe_tup (pa_cons (pe_slice sl_str (pv 0) (po_some (pv 1)) (po_some (pv 2))) (pa_cons (pv 2) pa_nil))))))), ?_⟩
    have sl := sizeLine_eq
    have h7 := nameL_le (TL.tl z) a
    refine ⟨_, rfl, _, _, rfl, rfl, ?_⟩
    refine ⟨fun m σ' H' => ∃ k : Nat, m + k = (nameL (TL.tl z) a).length ∧ σ' = [some (.str z), some (.int (a : Nat)), some (.int ((a + 1 + k : Nat) : Int))] ∧ Same H H', ⟨_, 0, rfl, rfl, Same.rfl'⟩, ?_⟩
    rintro m σ' H1 ⟨k, hk, rfl, s1⟩
    refine ⟨_, rfl, _, rfl, _, rfl, _, rfl, _, _, rfl, rfl, _, rfl, z, rfl, hz, ?_⟩
    rw [cut_sg]
    refine ⟨_, rfl, ?_⟩
    rw [sg_let]
    by_cases hm : k < (nameL (TL.tl z) a).length
    · obtain ⟨k7, e⟩ := nameL_go hm
      rw [e]
      refine ⟨true, rfl, iteT ⟨_, rfl, _, rfl, _, _, rfl, rfl, _, _, rfl, rfl, _, rfl, ite2 (fun _ => ?_) (fun h => ?_)⟩⟩
      · refine ⟨_, fun _ _ n => n, _, rfl, _, _, rfl, rfl, m - 1, by omega, k + 1, by omega, rfl, s1⟩
      · exact absurd (decide_eq_true (by omega)) h
    · have e : k = (nameL (TL.tl z) a).length := by omega
      have fin : ∀ H2, Same H1 H2 → tRet (tTup (tCons (tSl rSlS (tVar 0) (tPart (tVar 1)) (tPart (tVar 2))) (tCons (tVar 2) tNil))) { nx := fun _ H' => Q .non H', rt := Q } [some (.str z), some (.int (a : Nat)), some (.int ((a + 1 + k : Nat) : Int))] H2 := fun H2 s2 => by
        refine ⟨_, rfl, _, rfl, _, rfl, _, rfl, _, rfl, z, rfl, hz, _, rfl, (by show 2 ≤ sizeLine; rw [sl]; decide), fun p np => ?_⟩
        refine q _ _ (s1.trans (s2.trans (same_put np))) (.tup (.inl (.inl upd_same)) (.cons ?_ (.cons ?_ .nil)))
        · rw [cut_nat, nameEnd_eq, e]
          exact .str _
        · rw [nameEnd_eq, e]
          exact .int _
      by_cases k7 : k < 7
      · have e2 := nameL_end (l := TL.tl z) (a := a) (by omega)
        rw [← e] at e2
        rw [e2]
        refine ⟨false, rfl, iteF (iteF (fin _ Same.rfl'))⟩
      · cases isLet (TL.tl z) (a + 1 + k) with
        | false => exact ⟨false, rfl, iteF (iteF (fin _ Same.rfl'))⟩
        | true =>
          refine ⟨true, rfl, iteT ⟨_, rfl, _, rfl, _, _, rfl, rfl, _, _, rfl, rfl, _, rfl, ite2 (fun h => ?_) (fun _ => fin _ Same.rfl')⟩⟩
          have h := of_decide_eq_true h
          omega
theorem ok_rm (D : Def K mg "read_number" (topS 16) ["text", "at", "most"]) (R_BadText : Err1 P w K mg base "BadText" cB "position") (nb : NB mg) : CalN (L2.CX P w) P w K mg base 3 "read_number" ["text", "at", "most"] (spRm K cB) := by
  refine D.okN scRm (fun vs H Q E h => ?_) (fun fa cdv A outer sh H vs Q E hr h => ?_)
  · obtain ⟨z, a, most, rfl, _⟩ := h
    rfl
  · obtain ⟨z, a, most, rfl, hz, hm, h9, g⟩ := h
    refine ⟨_, (pss_cons (ps_if (pt_not (pt_chain op_le_str op_le_str pe_str (pe_slice sl_str (pv 0) (po_some (pv 1)) (po_some (pe_op op_add (pv 1) pe_int))) pe_str))
        (pss_one (ps_raise1 R_BadText rfl (hr.mono (by omega)) (by rfl) (takes_of rfl rfl rfl rfl) (pv 1)))
        pss_nil)
      (pss_cons (ps_set (i := 3) scRm.nd rfl (.inl rfl) pe_int)
      (pss_cons (ps_while (passes_of rfl) (PW.pt (pw_and (pt_chain op_le_str op_le_str pe_str (pe_slice sl_str (pv 0) (po_some (pv 1)) (po_some (pe_op op_add (pv 1) pe_int))) pe_str) (pw_and1 (pt_cmpR op_le (pe_op op_add (pe_op op_mul (pv 3) pe_int) (pe_callTy call_int_str (by rfl) nb.at (by decide +kernel) (pa_cons (pe_ix ix_str (pv 0) (pv 1) (fun _ _ => rfl)) pa_nil))) (pv 2) (nomark _)))))
        (pss_cons (ps_set (i := 3) scRm.nd rfl (.inl rfl) (pe_op op_add (pe_op op_mul (pv 3) pe_int) (pe_callTy call_int_str (by rfl) nb.at (by decide +kernel) (pa_cons (pe_ix ix_str (pv 0) (pv 1) (fun _ _ => rfl)) pa_nil))))
        (pss_one (ps_aug (i := 1) scRm.nd rfl (.inl rfl) pe_int ip_add))))
      (pss_one (ps_ret (pe_tup (pa_cons (pv 3) (pa_cons (pv 1) pa_nil)))))))), ?_⟩
    have sl := sizeLine_eq
    have s0 : (Str.ofString "0").cps.toList = [48] := by decide +kernel
    have s1 : (Str.ofString "1").cps.toList = [49] := by decide +kernel
    have sgo : ∀ (σ : L2.St) (a' : Nat) (H1 : Hp), σ[0]? = some (some (.str z)) → σ[1]? = some (some (.int (a' : Nat))) → ∀ Q : VK, Q (.str ⟨(sgN (TL.tl z) a').toArray⟩) H1 → tSl rSlS (tVar 0) (tPart (tVar 1)) (tPart (tOp (rI0 fun i j => .int (i + j)) (tVar 1) (tC (.int 1)))) σ H1 Q := fun σ a' H1 h0 h1 Q q => by
      refine ⟨_, h0, _, h1, _, rfl, _, h1, _, _, rfl, rfl, _, rfl, z, rfl, hz, ?_⟩
      rw [cut_sg]
      exact q
    refine btw_go s1 (sgo _ a _ rfl rfl) ?_
    by_cases hc : ∃ c, (TL.tl z)[a]? = some c ∧ digB c = true ∧ c ≠ 48
    · obtain ⟨c, hc, hd, h48⟩ := hc
      have hb := digB_iff.mp hd
      rw [sgB_some hc, decide_eq_true (by omega), decide_eq_true hb.2]
      unfold rdNum at g
      rw [hc] at g
      dsimp only at g
      rw [if_pos ⟨hd, h48⟩] at g
      refine iteF ?_
      refine ⟨fun m σ' H' => ∃ a' n : Nat, m = (TL.tl z).length - a' ∧ σ' = [some (.str z), some (.int (a' : Nat)), some (.int (most : Nat)), some (.int (n : Nat))] ∧ H' = H ∧ n ≤ most ∧ (numW most n ((TL.tl z).drop a')).1 = (numW most 0 ((TL.tl z).drop a)).1 ∧ a' + (numW most n ((TL.tl z).drop a')).2 = a + (numW most 0 ((TL.tl z).drop a)).2,
        ⟨_, a, 0, rfl, rfl, rfl, Nat.zero_le _, rfl, rfl⟩, ?_⟩
      rintro m σ' H1 ⟨a', n, rfl, rfl, rfl, hn, e1, e2⟩
      refine btw_go s0 (sgo _ a' _ rfl rfl) ?_
      have fin : (numW most n ((TL.tl z).drop a')) = (n, 0) → tRet (tTup (tCons (tVar 3) (tCons (tVar 1) tNil))) { nx := fun _ H' => Q .non H', rt := Q } [some (.str z), some (.int (a' : Nat)), some (.int (most : Nat)), some (.int (n : Nat))] H1 := fun e => by
        rw [e] at e1 e2
        refine ⟨_, rfl, _, rfl, (by show 2 ≤ sizeLine; rw [sl]; decide), fun p np => g _ _ (same_put np) (.tup (.inl (.inl upd_same)) (.cons ?_ (.cons ?_ .nil)))⟩
        · show Da K _ (.int (n : Nat)) (.int ((numW most 0 ((TL.tl z).drop a)).1 : Nat))
          rw [← e1]
          exact .int _
        · show Da K _ (.int (a' : Nat)) (.int ((a + (numW most 0 ((TL.tl z).drop a)).2 : Nat) : Int))
          rw [← e2]
          exact .int _
      have stp := numW_step (l := TL.tl z) (most := most) (n := n) (a := a')
      cases hc' : (TL.tl z)[a']? with
      | none =>
        rw [hc'] at stp
        rw [sgB_none hc']
        exact iteF (iteF (fin stp))
      | some c' =>
        rw [hc'] at stp
        dsimp only at stp
        rw [sgB_some hc']
        by_cases hd' : digB c' = true
        · have hb' := digB_iff.mp hd'
          have hat : atI z.cps.toList ((a' : Nat) : Int) = some c' := atI_nat hc'
          rw [decide_eq_true hb'.1, decide_eq_true hb'.2]
          have hin := dig_int hd'
          have hmul : CMul ((n : Nat) : Int) 10 := .inr ⟨by decide, by decide⟩
          refine iteT ⟨_, rfl, _, _, rfl, rfl, hmul, _, rfl, _, rfl, z, _, c', rfl, rfl, hz, hat, _, _, rfl, hin, (by show 1 ≤ 640; decide), _, _, rfl, rfl, _, rfl, _, _, rfl, rfl, _, rfl, ite2 (fun h => ?_) (fun h => ?_)⟩
          · have h : ((n : Nat) : Int) * 10 + ((c' - 48 : Nat) : Int) ≤ ((most : Nat) : Int) := of_decide_eq_true h
            have h' : n * 10 + (c' - 48) ≤ most := by omega
            rw [if_pos ⟨hd', h'⟩] at stp
            have hl : a' < (TL.tl z).length := (List.getElem?_eq_some_iff.mp hc').1
            rw [stp] at e1 e2
            refine ⟨_, fun _ _ n => n, _, rfl, _, _, rfl, rfl, hmul, _, rfl, _, rfl, z, _, c', rfl, rfl, hz, hat, _, _, rfl, hin, (by show 1 ≤ 640; decide), _, _, rfl, rfl, ?_⟩
            refine ⟨_, rfl, _, _, rfl, rfl, (TL.tl z).length - (a' + 1), by omega, a' + 1, n * 10 + (c' - 48), rfl, ?_, rfl, h', e1, by omega⟩
            show [some (V.str z), some (V.int (((a' : Nat) : Int) + 1)), some (V.int ((most : Nat) : Int)), some (V.int (((n : Nat) : Int) * 10 + ((c' - 48 : Nat) : Int)))] = _
            rw [Int.natCast_add, Int.natCast_add, Int.natCast_mul]
            rfl
          · have h : ¬ ((n : Nat) : Int) * 10 + ((c' - 48 : Nat) : Int) ≤ ((most : Nat) : Int) := of_decide_eq_false (Bool.eq_false_iff.mpr h)
            rw [if_neg (fun x => h (by omega))] at stp
            exact fin stp
        · have hd2 : (decide (48 ≤ c') && decide (c' ≤ 57)) = false := Bool.eq_false_iff.mpr hd'
          rw [hd2]
          rw [if_neg (fun x => hd' x.1)] at stp
          exact iteF (iteF (fin stp))
    · have e : sgB (fun c => decide (49 ≤ c) && decide (c ≤ 57)) (TL.tl z) a = false := by
        cases hc' : (TL.tl z)[a]? with
        | none => exact sgB_none hc'
        | some c =>
          rw [sgB_some hc']
          refine Bool.eq_false_iff.mpr fun h => hc ⟨c, hc', ?_⟩
          rw [Bool.and_eq_true, decide_eq_true_eq, decide_eq_true_eq] at h
          exact ⟨digB_iff.mpr (by omega), by omega⟩
      rw [e]
      have g : RzP cB a H E := by
        unfold rdNum at g
        cases hc' : (TL.tl z)[a]? with
        | none =>
          rw [hc'] at g
          exact g
        | some c =>
          rw [hc'] at g
          dsimp only at g
          rw [if_neg (fun x => hc ⟨c, hc', x⟩)] at g
          exact g
      exact iteT ⟨_, rfl, RzP.go g⟩
theorem ri_line {k d : Nat} {spR : Sp} (D : Def K mg "read_item" (topS 14) ["text", "at", "depth", "room"]) (C_is_letter : CalN CX0 P w K mg base 1 "is_letter" ["text"] spIl) (C_read_name : CalN CX0 P w K mg base 2 "read_name" ["text", "at"] (spRn K))
    (X_behind : CalN (L2.CX P w) P w K mg base 3 "behind" ["text", "at", "signs"] (spBh cB)) (X_read_number : CalN (L2.CX P w) P w K mg base 3 "read_number" ["text", "at", "most"] (spRm K cB)) (X_read_items : CalN (L2.CX P w) P w K mg base k "read_items" ["text", "at", "depth", "room"] spR) (hk : 3 ≤ k)
    (hR : d = 0 ∨ ∃ e, d = e + 1 ∧ spR = spRis K cB e) (R_BadText : Err1 P w K mg base "BadText" cB "position") (g_MOST_TICKS : mg "MOST_TICKS" = some (.int 1000000000000 tT)) (g_MOST_ROUNDS : mg "MOST_ROUNDS" = some (.int 1000000000000000000 tR)) (nb : NB mg) :
    CalN (L2.CX P w) P w K mg base (k + 1) "read_item" ["text", "at", "depth", "room"] (spRi K cB d) := by
  refine D.okN scRi (fun vs H Q E h => ?_) (fun fa cdv A outer sh H vs Q E hr h => ?_)
  · obtain ⟨z, a, r, rfl, _⟩ := h
    rfl
  · obtain ⟨z, a, r, rfl, hz, r1, r2, g⟩ := h
    refine ⟨_, (pss_cons (ps_if (pt_val (pcallO C_is_letter (hr.mono (by omega)) (by rfl) (pa_cons (pe_slice sl_str (pv 0) (po_some (pv 1)) (po_some (pe_op op_add (pv 1) pe_int))) pa_nil)))
        (pss_cons (ps_asg (pcallO C_read_name (hr.mono (by omega)) (by rfl) (pa_cons (pv 0) (pa_cons (pv 1) pa_nil))) (pg_tup rfl (pgs_cons (pg_name (i := 4) scRi.nd rfl (Or.inl rfl)) (pgs_cons (pg_name (i := 1) scRi.nd rfl (Or.inl rfl)) pgs_nil))))
        (pss_cons (ps_asg (pcallN X_read_number (hr.mono (by omega)) (by rfl) (takes_of rfl rfl rfl rfl) (fun _ _ _ _ h => h) (pa_cons (pv 0) (pa_cons (pcallN X_behind (hr.mono (by omega)) (by rfl) (takes_of rfl rfl rfl rfl) (fun _ _ _ _ h => h) (pa_cons (pv 0) (pa_cons (pv 1) (pa_cons pe_str pa_nil)))) (pa_cons (pe_glob (v := .int 1000000000000) rfl g_MOST_TICKS ⟨_, rfl⟩) pa_nil)))) (pg_tup rfl (pgs_cons (pg_name (i := 5) scRi.nd rfl (Or.inl rfl)) (pgs_cons (pg_name (i := 1) scRi.nd rfl (Or.inl rfl)) pgs_nil))))
        (pss_one (ps_ret (pe_tup (pa_cons (pe_tup (pa_cons pe_str (pa_cons (pv 4) (pa_cons (pv 5) pa_nil)))) (pa_cons (pv 1) (pa_cons (pe_op op_sub (pv 3) pe_int) pa_nil))))))))
        pss_nil)
      (pss_cons (ps_if (PW.pt (pw_or (pt_cmpR op_eq (pv 2) pe_int (nomark _)) (pw_or1 (pt_cmpR op_lt (pv 3) pe_int (nomark _)))))
        (pss_one (ps_raise1 R_BadText rfl (hr.mono (by omega)) (by rfl) (takes_of rfl rfl rfl rfl) (pv 1)))
        pss_nil)
      (pss_cons (ps_asg (pcallN X_read_number (hr.mono (by omega)) (by rfl) (takes_of rfl rfl rfl rfl) (fun _ _ _ _ h => h) (pa_cons (pv 0) (pa_cons (pv 1) (pa_cons (pe_glob (v := .int 1000000000000000000) rfl g_MOST_ROUNDS ⟨_, rfl⟩) pa_nil)))) (pg_tup rfl (pgs_cons (pg_name (i := 6) scRi.nd rfl (Or.inl rfl)) (pgs_cons (pg_name (i := 1) scRi.nd rfl (Or.inl rfl)) pgs_nil))))
      (pss_cons (ps_asg (pcallN X_read_items (hr.mono (by omega)) (by rfl) (takes_of rfl rfl rfl rfl) (fun _ _ _ _ h => h) (pa_cons (pv 0) (pa_cons (pcallN X_behind (hr.mono (by omega)) (by rfl) (takes_of rfl rfl rfl rfl) (fun _ _ _ _ h => h) (pa_cons (pv 0) (pa_cons (pv 1) (pa_cons pe_str pa_nil)))) (pa_cons (pe_op op_sub (pv 2) pe_int) (pa_cons (pe_op op_sub (pv 3) pe_int) pa_nil))))) (pg_tup rfl (pgs_cons (pg_name (i := 7) scRi.nd rfl (Or.inl rfl)) (pgs_cons (pg_name (i := 1) scRi.nd rfl (Or.inl rfl)) (pgs_cons (pg_name (i := 3) scRi.nd rfl (Or.inl rfl)) pgs_nil)))))
      (pss_one (ps_ret (pe_tup (pa_cons (pe_tup (pa_cons pe_str (pa_cons (pv 6) (pa_cons (pv 7) pa_nil)))) (pa_cons (pcallN X_behind (hr.mono (by omega)) (by rfl) (takes_of rfl rfl rfl rfl) (fun _ _ _ _ h => h) (pa_cons (pv 0) (pa_cons (pv 1) (pa_cons pe_str pa_nil)))) (pa_cons (pv 3) pa_nil)))))))))), ?_⟩
    have sl := sizeLine_eq
    refine sl1_go hz rfl rfl _ ⟨_, rfl, ?_⟩
    rw [sg_let]
    refine ⟨_, rfl, ite2 (fun e => ?_) (fun e => ?_)⟩
    · have g : RdG (rdLine (TL.tl z) a r) cB H E fun b => ∀ H' u, Same H H' → Da K H' u (.tuple [It.d b.1, .int (b.2.1 : Nat), .int (b.2.2 : Nat)]) → Q u H' := by
        cases d <;> (rw [rdIt] at g; dsimp only at g; rw [if_pos e] at g; exact g)
      unfold rdLine at g
      refine ⟨_, rfl, _, rfl, z, a, rfl, hz, fun H1 u1 s1 hu1 => ?_⟩
      obtain ⟨b1, x1, y1, rfl, hq1, hx1, hy1⟩ := da2 hu1
      cases da_strE hx1
      cases da_intE hy1
      refine ⟨b1, _, rfl, hq1, rfl, _, _, rfl, _, _, rfl, rfl, ?_⟩
      refine ⟨_, rfl, _, rfl, _, rfl, z, Str.ofString ":", _, rfl, hz, by decide +kernel, ?_⟩
      rw [show TL.tl (Str.ofString ":") = [58] from by decide +kernel]
      cases hB : rdBh (TL.tl z) [58] (nameEnd (TL.tl z) a) with
      | error e =>
        rw [hB] at g
        exact RzP.same g s1
      | ok b =>
        rw [hB] at g
        dsimp only at g
        intro H2 s2
        refine ⟨z, b, 1000000000000, rfl, hz, by decide, by decide, ?_⟩
        cases hN : rdNum (TL.tl z) 1000000000000 b with
        | error e =>
          rw [hN] at g
          exact RzP.same g (s1.trans s2)
        | ok tc =>
          obtain ⟨t, c⟩ := tc
          rw [hN] at g
          dsimp only at g
          intro H3 u3 s3 hu3
          obtain ⟨b3, x3, y3, rfl, hq3, hx3, hy3⟩ := da2 hu3
          cases da_intE hx3
          cases da_intE hy3
          refine ⟨b3, _, rfl, hq3, rfl, _, _, rfl, _, _, rfl, rfl, ?_⟩
          refine ⟨_, rfl, _, rfl, (by show 3 ≤ sizeLine; rw [sl]; decide), fun p np => ⟨_, rfl, _, rfl, _, _, rfl, rfl, (by show 3 ≤ sizeLine; rw [sl]; decide), fun p2 np2 => ?_⟩⟩
          refine g _ _ (s1.trans (s2.trans (s3.trans ((same_put np).trans (same_put np2))))) (.tup (.inl (.inl upd_same)) (.cons ?_ (.cons (.int _) (.cons ?_ .nil))))
          · show Da K _ _ (It.d (.line (cutN (TL.tl z) a (nameEnd (TL.tl z) a)) (t : Nat)))
            rw [It.d]
            exact .tup (.inl (.inl (same_put np2 _ _ upd_same))) (.cons (.str _) (.cons (.str _) (.cons (.int _) .nil)))
          · show Da K _ (.int (((r : Nat) : Int) - 1)) (.int ((r - 1 : Nat) : Int))
            rw [show ((r : Nat) : Int) - 1 = ((r - 1 : Nat) : Int) by omega]
            exact .int _
    · refine ⟨_, rfl, rfl, _, rfl, ?_⟩
      cases d with
      | zero =>
        rw [rdIt] at g
        dsimp only at g
        rw [if_neg e] at g
        exact iteT (iteT ⟨_, rfl, RzP.go g⟩)
      | succ d =>
        obtain ⟨d', hd', rfl⟩ : ∃ e, d + 1 = e + 1 ∧ spR = spRis K cB e := by
          rcases hR with h | h
          · cases h
          · exact h
        obtain rfl : d = d' := by omega
        rw [rdIt] at g
        dsimp only at g
        rw [if_neg e] at g
        unfold rdLoop at g
        rw [show decide (V.int (((d + 1 : Nat) : Nat) : Int) = V.int 0) = false from decide_eq_false fun z => by
          have z := V.int.inj z
          omega]
        refine iteF ⟨_, rfl, _, _, rfl, rfl, _, rfl, ite2 (fun h => ?_) (fun h => ?_)⟩
        · have h : ((r : Nat) : Int) < 2 := of_decide_eq_true h
          rw [if_pos (show r < 2 by omega)] at g
          exact ⟨_, rfl, RzP.go g⟩
        · have h : ¬ ((r : Nat) : Int) < 2 := of_decide_eq_false (Bool.eq_false_iff.mpr h)
          rw [if_neg (show ¬ r < 2 by omega)] at g
          refine ⟨_, rfl, _, rfl, z, a, 1000000000000000000, rfl, hz, by decide, by decide, ?_⟩
          cases hN : rdNum (TL.tl z) 1000000000000000000 a with
          | error e =>
            rw [hN] at g
            exact g
          | ok tc =>
            obtain ⟨t, c⟩ := tc
            rw [hN] at g
            dsimp only at g
            intro H1 u1 s1 hu1
            obtain ⟨b1, x1, y1, rfl, hq1, hx1, hy1⟩ := da2 hu1
            cases da_intE hx1
            cases da_intE hy1
            refine ⟨b1, _, rfl, hq1, rfl, _, _, rfl, _, _, rfl, rfl, ?_⟩
            refine ⟨_, rfl, _, rfl, _, rfl, z, Str.ofString "*(", _, rfl, hz, by decide +kernel, ?_⟩
            rw [show TL.tl (Str.ofString "*(") = [42, 40] from by decide +kernel]
            cases hB : rdBh (TL.tl z) [42, 40] c with
            | error e =>
              rw [hB] at g
              exact RzP.same g s1
            | ok b =>
              rw [hB] at g
              dsimp only at g
              intro H2 s2
              refine ⟨_, rfl, _, _, rfl, rfl, _, rfl, _, _, rfl, rfl, z, b, r - 1, ?_, hz, by omega, by omega, ?_⟩
              · show [V.str z, V.int (b : Nat), V.int (((d + 1 : Nat) : Int) - 1), V.int (((r : Nat) : Int) - 1)] = _
                rw [show ((d + 1 : Nat) : Int) - 1 = ((d : Nat) : Int) by omega, show ((r : Nat) : Int) - 1 = ((r - 1 : Nat) : Int) by omega]
              cases hI : rdMany (rdIt (TL.tl z) d) (TL.tl z) b (r - 1) with
              | error e =>
                rw [hI] at g
                exact RzP.same g (s1.trans s2)
              | ok tr =>
                obtain ⟨is, c2, r3⟩ := tr
                rw [hI] at g
                dsimp only at g
                intro H3 u3 s3 hu3
                obtain ⟨b3, x3, y3, v3, rfl, hq3, hx3, hy3, hv3⟩ := da3 hu3
                cases da_intE hy3
                cases da_intE hv3
                refine ⟨b3, _, rfl, hq3, rfl, _, _, rfl, _, _, rfl, _, _, rfl, rfl, ?_⟩
                refine ⟨_, rfl, _, rfl, (by show 3 ≤ sizeLine; rw [sl]; decide), fun p np => ⟨_, rfl, _, rfl, z, Str.ofString ")", _, rfl, hz, by decide +kernel, ?_⟩⟩
                rw [show TL.tl (Str.ofString ")") = [41] from by decide +kernel]
                cases hC : rdBh (TL.tl z) [41] c2 with
                | error e =>
                  rw [hC] at g
                  exact RzP.same g (s1.trans (s2.trans (s3.trans (same_put np))))
                | ok e2 =>
                  rw [hC] at g
                  dsimp only at g
                  intro H4 s4
                  refine ⟨_, rfl, (by show 3 ≤ sizeLine; rw [sl]; decide), fun p2 np2 => ?_⟩
                  have s5 := s4.trans (same_put (o := .tup [.ref p, .int (e2 : Nat), .int (r3 : Nat)]) np2)
                  refine g _ _ (s1.trans (s2.trans (s3.trans ((same_put np).trans s5)))) (.tup (.inl (.inl upd_same)) (.cons ?_ (.cons (.int _) (.cons (.int _) .nil))))
                  show Da K _ _ (It.d (.loop (t : Nat) is))
                  rw [It.d, Its.d_map]
                  exact .tup (.inl (.inl (s5 _ _ upd_same))) (.cons (.str _) (.cons (.int _) (.cons (hx3.mono ((same_put np).trans s5)) .nil)))
theorem ris_step {k d : Nat} (D : Def K mg "read_items" (topS 13) ["text", "at", "depth", "room"]) (X_read_item : CalN (L2.CX P w) P w K mg base k "read_item" ["text", "at", "depth", "room"] (spRi K cB d)) (g_MOST_BESIDE : mg "MOST_BESIDE" = some (.int 20 tE)) (nb : NB mg) :
    CalN (L2.CX P w) P w K mg base (k + 1) "read_items" ["text", "at", "depth", "room"] (spRis K cB d) := by
  refine D.okN scRis (fun vs H Q E h => ?_) (fun fa cdv A outer sh H vs Q E hr h => ?_)
  · obtain ⟨z, a, r, rfl, _⟩ := h
    rfl
  · obtain ⟨z, a, r, rfl, hz, r1, r2, g⟩ := h
    refine ⟨_, (pss_cons (ps_asg (pcallN X_read_item (hr.mono (by omega)) (by rfl) (takes_of rfl rfl rfl rfl) (fun _ _ _ _ h => h) (pa_cons (pv 0) (pa_cons (pv 1) (pa_cons (pv 2) (pa_cons (pv 3) pa_nil))))) (pg_tup rfl (pgs_cons (pg_name (i := 4) scRis.nd rfl (Or.inl rfl)) (pgs_cons (pg_name (i := 1) scRis.nd rfl (Or.inl rfl)) (pgs_cons (pg_name (i := 3) scRis.nd rfl (Or.inl rfl)) pgs_nil)))))
      (pss_cons (ps_set (i := 5) scRis.nd rfl (.inl rfl) (pe_lst (pa_cons (pv 4) pa_nil)))
      (pss_cons (ps_while (passes_of rfl) (PW.pt (pw_and (pt_cmpR op_eq (pe_slice sl_str (pv 0) (po_some (pv 1)) (po_some (pe_op op_add (pv 1) pe_int))) pe_str (nomark _)) (pw_and (pt_cmpR op_lt (pe_callB call_len_seq (by rfl) nb.at PySem.boot_len (pa_cons (pv 5) pa_nil)) (pe_glob (v := .int 20) rfl g_MOST_BESIDE ⟨_, rfl⟩) (nomark _)) (pw_and1 (pt_cmpR op_gt (pv 3) pe_int (nomark _))))))
        (pss_cons (ps_asg (pcallN X_read_item (hr.mono (by omega)) (by rfl) (takes_of rfl rfl rfl rfl) (fun _ _ _ _ h => h) (pa_cons (pv 0) (pa_cons (pe_op op_add (pv 1) pe_int) (pa_cons (pv 2) (pa_cons (pv 3) pa_nil))))) (pg_tup rfl (pgs_cons (pg_name (i := 4) scRis.nd rfl (Or.inl rfl)) (pgs_cons (pg_name (i := 1) scRis.nd rfl (Or.inl rfl)) (pgs_cons (pg_name (i := 3) scRis.nd rfl (Or.inl rfl)) pgs_nil)))))
        (pss_one (ps_expr (pe_bm PySem.F.plainAttrs_list PySem.F.slot_list_append PySem.F.type_list_append mt_append (pv 5) (pa_cons (pv 4) pa_nil))))))
      (pss_one (ps_ret (pe_tup (pa_cons (pe_callTy call_tuple_of (by rfl) nb.at (by decide +kernel) (pa_cons (pv 5) pa_nil)) (pa_cons (pv 1) (pa_cons (pv 3) pa_nil))))))))), ?_⟩
    have sl := sizeLine_eq
    have s32 : Str.ofString " " = ⟨([32] : List Nat).toArray⟩ := by decide +kernel
    rw [rdMany_app] at g
    refine ⟨_, rfl, _, rfl, _, rfl, _, rfl, z, a, r, rfl, hz, r1, r2, ?_⟩
    cases hI : rdIt (TL.tl z) d a r with
    | error e =>
      rw [hI] at g
      exact g
    | ok x =>
      rw [hI] at g
      dsimp only at g
      intro H1 u1 s1 hu1
      obtain ⟨b1, x1, y1, v1, rfl, hq1, hx1, hy1, hv1⟩ := da3 hu1
      cases da_intE hy1
      cases da_intE hv1
      refine ⟨b1, _, rfl, hq1, rfl, _, _, rfl, _, _, rfl, _, _, rfl, rfl, ?_⟩
      refine ⟨_, rfl, (by show 1 ≤ sizeLine; rw [sl]; decide), fun l nl => ?_⟩
      have hro := rdIt_room hI
      refine ⟨fun m σ' H' => ∃ (js : List It) (us : List V) (a2 rr : Nat) (v : V), m + js.length = 20 ∧ 1 ≤ js.length ∧ rr ≤ 60 ∧ σ' = [some (.str z), some (.int (a2 : Nat)), some (.int (d : Nat)), some (.int (rr : Nat)), some v, some (.ref l)] ∧ Same H H' ∧ H' l = some (.lst us) ∧ DaAll K H' us (js.map It.d) ∧
          RdG (rdApp js (rdMore (rdIt (TL.tl z) d) (TL.tl z) m a2 rr)) cB H E fun b => ∀ H' u, Same H H' → Da K H' u (.tuple [.tuple (b.1.map It.d), .int (b.2.1 : Nat), .int (b.2.2 : Nat)]) → Q u H',
        ⟨19, [x.1], [x1], x.2.1, x.2.2, x1, rfl, Nat.le_refl _, by omega, rfl, s1.trans (same_put nl), upd_same, .cons (hx1.mono (same_put nl)) .nil, g⟩, ?_⟩
      rintro m σ' H2 ⟨js, us, a2, rr, v, hm, hj, hrr, rfl, s2, hl2, hd2, g2⟩
      have hul := daAll_len hd2
      rw [List.length_map] at hul
      have fin : (m = 0 ∨ ¬ ((TL.tl z)[a2]? = some 32 ∧ 0 < rr)) → ∀ H3, Same H2 H3 → tRet (tTup (tCons (tCB (rTupOf K) (tCons (tVar 5) tNil)) (tCons (tVar 1) (tCons (tVar 3) tNil)))) { nx := fun _ H' => Q .non H', rt := Q } [some (.str z), some (.int (a2 : Nat)), some (.int (d : Nat)), some (.int (rr : Nat)), some v, some (.ref l)] H3 := fun e H3 s3 => by
        rw [rdMore_no e] at g2
        refine ⟨_, rfl, l, us, rfl, .inl ⟨.inl (.inl (s3 _ _ hl2)), fun t nt => ⟨_, rfl, _, rfl, (by show 3 ≤ sizeLine; rw [sl]; decide), fun p np => ?_⟩⟩⟩
        have s5 := (same_put (o := .tup us) nt).trans (same_put (o := .tup [.ref t, .int (a2 : Nat), .int (rr : Nat)]) np)
        exact g2 _ _ (s2.trans (s3.trans s5)) (.tup (.inl (.inl upd_same)) (.cons (.tup (.inl (.inl (same_put np _ _ upd_same))) (hd2.mono (s3.trans s5))) (.cons (.int _) (.cons (.int _) .nil))))
      refine sl1_go hz rfl rfl _ ⟨rfl, _, rfl, ?_⟩
      rw [s32]
      by_cases e : (TL.tl z)[a2]? = some 32
      · rw [decide_eq_true (str_mk.mpr (sgN_eq.mpr e))]
        refine iteT ⟨_, rfl, l, us, rfl, .inl (.inl (.inl hl2)), _, _, rfl, rfl, _, rfl, ite2 (fun h => ?_) (fun h => ?_)⟩
        · have h : ((us.length : Nat) : Int) < 20 := of_decide_eq_true h
          refine ⟨_, rfl, _, _, rfl, rfl, _, rfl, ite2 (fun h2 => ?_) (fun h2 => ?_)⟩
          · have h2 : (0 : Int) < ((rr : Nat) : Int) := of_decide_eq_true h2
            obtain ⟨m, rfl⟩ : ∃ k, m = k + 1 := ⟨m - 1, by omega⟩
            rw [rdMore_yes ⟨e, by omega⟩] at g2
            refine ⟨_, fun _ _ n => n, _, rfl, _, rfl, _, _, rfl, rfl, _, rfl, _, rfl, z, a2 + 1, rr, ?_, hz, by omega, hrr, ?_⟩
            · show [V.str z, V.int (((a2 : Nat) : Int) + 1), V.int (d : Nat), V.int (rr : Nat)] = _
              rw [Int.natCast_add]
              rfl
            cases hI2 : rdIt (TL.tl z) d (a2 + 1) rr with
            | error e =>
              rw [hI2] at g2
              exact RzP.same g2 s2
            | ok x2 =>
              rw [hI2] at g2
              dsimp only at g2
              intro H3 u3 s3 hu3
              obtain ⟨b3, x3, y3, v3, rfl, hq3, hx3, hy3, hv3⟩ := da3 hu3
              cases da_intE hy3
              cases da_intE hv3
              have hro2 := rdIt_room hI2
              have hl3 : H3 l = some (.lst us) := s3 _ _ hl2
              refine ⟨b3, _, rfl, hq3, rfl, _, _, rfl, _, _, rfl, _, _, rfl, rfl, ?_⟩
              refine ⟨_, rfl, .inl ⟨rfl, _, .inl (.inl hl3)⟩, _, rfl, l, us, _, rfl, rfl, hl3, by omega, ?_⟩
              have kt : Kt H3 (upd H3 l (.lst (us ++ [x3]))) := Kt.put hl3
              have nlH : H l = none := back_none s1 nl
              have s4 : Same H (upd H3 l (.lst (us ++ [x3]))) := fun b o e => by
                rw [upd_ne (ne_of_none e nlH)]
                exact s3 _ _ (s2 _ _ e)
              refine ⟨m, by omega, js ++ [x2.1], us ++ [x3], x2.2.1, x2.2.2, x3, by rw [List.length_append, List.length_singleton]; omega, by rw [List.length_append]; omega, by omega, rfl, s4, upd_same, ?_, g2⟩
              rw [List.map_append]
              have t1 := prog_tup js
              rw [tupD] at t1
              have t2 := prog_tup [x2.1]
              rw [tupD] at t2
              exact da_app (DaAll.kt kt t1 (hd2.mono s3)) (DaAll.kt kt t2 (.cons hx3 .nil))
          · have h2 : ¬ (0 : Int) < ((rr : Nat) : Int) := of_decide_eq_false (Bool.eq_false_iff.mpr h2)
            exact fin (.inr fun x => h2 (by omega)) _ Same.rfl'
        · have h : ¬ ((us.length : Nat) : Int) < 20 := of_decide_eq_false (Bool.eq_false_iff.mpr h)
          exact fin (.inl (by omega)) _ Same.rfl'
      · rw [decide_eq_false (fun h => e (sgN_eq.mp (str_mk.mp h)))]
        exact iteF (iteF (fin (.inr fun x => e x.1) _ Same.rfl'))
theorem no_calN {x : Str} {st : Stmt} {ps : List Str} {k : Nat} (D : Def K mg x st ps) : CalN (L2.CX P w) P w K mg base k x ps (fun _ _ _ _ => False) := by
  obtain ⟨f, fd, F, b, m⟩ := D.ex
  exact ⟨f, fd, no_fn, b, m, F.kp⟩
theorem ok_ris (D_read_item : Def K mg "read_item" (topS 14) ["text", "at", "depth", "room"]) (D_read_items : Def K mg "read_items" (topS 13) ["text", "at", "depth", "room"]) (C_is_letter : CalN CX0 P w K mg base 1 "is_letter" ["text"] spIl) (C_read_name : CalN CX0 P w K mg base 2 "read_name" ["text", "at"] (spRn K))
    (X_behind : CalN (L2.CX P w) P w K mg base 3 "behind" ["text", "at", "signs"] (spBh cB)) (X_read_number : CalN (L2.CX P w) P w K mg base 3 "read_number" ["text", "at", "most"] (spRm K cB)) (R_BadText : Err1 P w K mg base "BadText" cB "position") (g_MOST_TICKS : mg "MOST_TICKS" = some (.int 1000000000000 tT)) (g_MOST_ROUNDS : mg "MOST_ROUNDS" = some (.int 1000000000000000000 tR))
    (g_MOST_BESIDE : mg "MOST_BESIDE" = some (.int 20 tE)) (nb : NB mg) : ∀ d : Nat, CalN (L2.CX P w) P w K mg base (2 * d + 5) "read_items" ["text", "at", "depth", "room"] (spRis K cB d)
  | 0 => ris_step (k := 4) D_read_items (ri_line (k := 3) D_read_item C_is_letter C_read_name X_behind X_read_number (no_calN D_read_items) (Nat.le_refl 3) (.inl rfl) R_BadText g_MOST_TICKS g_MOST_ROUNDS nb) g_MOST_BESIDE nb
  | d + 1 => ris_step (k := 2 * d + 6) D_read_items (ri_line (k := 2 * d + 5) D_read_item C_is_letter C_read_name X_behind X_read_number (ok_ris D_read_item D_read_items C_is_letter C_read_name X_behind X_read_number R_BadText g_MOST_TICKS g_MOST_ROUNDS g_MOST_BESIDE nb d) (by omega) (.inr ⟨d, rfl, rfl⟩) R_BadText g_MOST_TICKS g_MOST_ROUNDS nb) g_MOST_BESIDE nb
theorem ok_rp {tD tI : Tok} (D : Def K mg "read_program" (topS 12) ["text"]) (X_read_items : CalN (L2.CX P w) P w K mg base 15 "read_items" ["text", "at", "depth", "room"] (spRis K cB 5)) (R_BadText : Err1 P w K mg base "BadText" cB "position")
    (g_MOST_DEEP : mg "MOST_DEEP" = some (.int 5 tD)) (g_MOST_ITEMS : mg "MOST_ITEMS" = some (.int 60 tI)) (nb : NB mg) : CalN (L2.CX P w) P w K mg base 16 "read_program" ["text"] (spRp K cB) := by
  refine D.okN scRp (fun vs H Q E h => ?_) (fun fa cdv A outer sh H vs Q E hr h => ?_)
  · obtain ⟨v, dd, rfl, _⟩ := h
    rfl
  · obtain ⟨v, dd, rfl, hd, g1, g2⟩ := h
    refine ⟨_, (pss_cons (ps_if (pt_not (pt_val (pe_isT (.inr (.inr (.inr rfl))) nb.at (fun _ => pv 0) (fun _ => ty_of rfl nb.at (by decide +kernel)))))
        (pss_one (ps_raise1 R_BadText rfl (hr.mono (by omega)) (by rfl) (takes_of rfl rfl rfl rfl) pe_int))
        pss_nil)
      (pss_cons (ps_asg (pcallN X_read_items (hr.mono (by omega)) (by rfl) (takes_of rfl rfl rfl rfl) (fun _ _ _ _ h => h) (pa_cons (pv 0) (pa_cons pe_int (pa_cons (pe_glob (v := .int 5) rfl g_MOST_DEEP ⟨_, rfl⟩) (pa_cons (pe_glob (v := .int 60) rfl g_MOST_ITEMS ⟨_, rfl⟩) pa_nil))))) (pg_tup rfl (pgs_cons (pg_name (i := 1) scRp.nd rfl (Or.inl rfl)) (pgs_cons (pg_name (i := 2) scRp.nd rfl (Or.inl rfl)) (pgs_cons (pg_name (i := 3) scRp.nd rfl (Or.inl rfl)) pgs_nil)))))
      (pss_cons (ps_if (pt_cmpR op_lt (pv 2) (pe_callB call_len_str (by rfl) nb.at (by decide +kernel) (pa_cons (pv 0) pa_nil)) (nomark _))
        (pss_one (ps_raise1 R_BadText rfl (hr.mono (by omega)) (by rfl) (takes_of rfl rfl rfl rfl) (pv 2)))
        pss_nil)
      (pss_one (ps_ret (pv 1)))))), ?_⟩
    have sl := sizeLine_eq
    by_cases hs : ∃ z, dd = .str z
    · obtain ⟨z, rfl⟩ := hs
      obtain ⟨hz, g⟩ := g1 z rfl
      cases da_strE hd
      refine ⟨_, .str z, rfl, .str z, true, congrArg V.bl (by rw [isD_str]), iteF ?_⟩
      unfold rdP at g
      refine ⟨_, rfl, z, 0, 60, rfl, hz, by decide, by decide, ?_⟩
      cases hI : rdMany (rdIt (TL.tl z) 5) (TL.tl z) 0 60 with
      | error e =>
        rw [hI] at g
        exact g
      | ok x =>
        obtain ⟨is, a, r⟩ := x
        rw [hI] at g
        dsimp only at g
        intro H1 u1 s1 hu1
        obtain ⟨b1, x1, y1, v1, rfl, hq1, hx1, hy1, hv1⟩ := da3 hu1
        cases da_intE hy1
        cases da_intE hv1
        refine ⟨b1, _, rfl, hq1, rfl, _, _, rfl, _, _, rfl, _, _, rfl, rfl, ?_⟩
        have hlen : ((z.length : Nat) : Int) = (((TL.tl z).length : Nat) : Int) := by rw [TL.len_tl]
        refine ⟨_, rfl, _, rfl, z, rfl, hz, _, _, rfl, rfl, _, rfl, ite2 (fun h => ?_) (fun h => ?_)⟩
        · have h : ((a : Nat) : Int) < ((z.length : Nat) : Int) := of_decide_eq_true h
          rw [if_pos (show a < (TL.tl z).length by omega)] at g
          exact ⟨_, rfl, RzP.go (RzP.same g s1)⟩
        · have h : ¬ ((a : Nat) : Int) < ((z.length : Nat) : Int) := of_decide_eq_false (Bool.eq_false_iff.mpr h)
          rw [if_neg (show ¬ a < (TL.tl z).length by omega)] at g
          exact ⟨_, rfl, g H1 x1 s1 hx1⟩
    · refine ⟨_, dd, rfl, hd, false, congrArg V.bl ?_, iteT (RzP.go (g2 fun z e => hs ⟨z, e⟩))⟩
      rw [isD_str]
      cases dd with
      | str z => exact absurd ⟨z, rfl⟩ hs
      | _ => rfl
end
end Ev

/-! ## Defs whose code object is known; what stands while a table grows -/
namespace Ev
open PySem PySem.Spec PyProof.Rows L2
open LamX (CodeO TabS Tabs ExtN TabB)
section
variable {P : Program} {w : World} {K : PySem.W.Frag} {mg : Str → Option Value} {base : Heap} {x q : Str} {st : Stmt} {ps N : List Str} {sp : Sp} {k : Nat} {c : Addr}
/-- a def by its body, its code object at c -/
theorem okGc {f : Addr} {fd : FuncData} (F : Fun K x q st f fd) (hc : fd.code = .ref c) (S : FnScope N ps (defScope st)) (len : ∀ vs H Q E, sp vs H Q E → vs.length = ps.length)
    (walk : ∀ (A : Around) (outer : List Env) (s : Shared) (H : Hp) (vs : List V) (Q : VK) (E : XK), Room k (A.deeper (envOfC q (defScope st) s.heap.objs.size f (.ref c))) → A.guards = some [] → sp vs H Q E →
      ∃ t, PSs (cxOf CX0 P w K mg base N q (defScope st) f (.ref c) A outer s H E).nox (defBody st) t ∧ t { nx := fun _ H' => Q .non H', rt := Q } (start N vs) H) : FnG P w K mg base CX0 (k + 1) f fd ps sp := by
  obtain ⟨oc, od, kV, doc, pm, an, cdv, ct, osl, e, lk, hcd⟩ := F.ex
  cases e
  cases (show cdv = .ref c from hc)
  refine fnG_of lk hcd S len fun A outer s H vs Q E hr gd h => ?_
  obtain ⟨t, ht, hq⟩ := walk A outer s H vs Q E hr gd h
  exact ⟨t, ht.nox, hq⟩
/-- a def of the module whose code object is known -/
structure DefC (K : PySem.W.Frag) (mg : Str → Option Value) (x : Str) (st : Stmt) (ps : List Str) (c : Addr) : Prop where
  ex : ∃ (f : Addr) (fd : FuncData), Fun K x x st f fd ∧ Binds K fd ps [] ∧ mg x = some (.ref f) ∧ fd.code = .ref c
theorem DefC.ok (D : DefC K mg x st ps c) (S : FnScope N ps (defScope st)) (len : ∀ vs H Q E, sp vs H Q E → vs.length = ps.length)
    (walk : ∀ (f : Addr) (A : Around) (outer : List Env) (s : Shared) (H : Hp) (vs : List V) (Q : VK) (E : XK), Room k (A.deeper (envOfC x (defScope st) s.heap.objs.size f (.ref c))) → A.guards = some [] → sp vs H Q E →
      ∃ t, PSs (cxOf CX0 P w K mg base N x (defScope st) f (.ref c) A outer s H E).nox (defBody st) t ∧ t { nx := fun _ H' => Q .non H', rt := Q } (start N vs) H) : Cal P w K mg base (k + 1) x ps sp := by
  obtain ⟨f, fd, F, b, m, hc⟩ := D.ex
  exact ⟨f, fd, okGc F hc S len (walk f), b, m, F.kp⟩
/-- a def's table is that of what is written -/
theorem TabF.code {h : Heap} {p : Addr × Addr} {f : Addr} {fd : FuncData} (t : TabF h mg x p) (X : K.In h) (F : Fun K x q st f fd) (m : mg x = some (.ref f)) : fd.code = .ref p.1 := by
  obtain ⟨f', o, fd', h1, h2, h3, h4⟩ := t
  obtain ⟨oc, od, kV, doc, pm, an, cdv, ct, osl, e, lk, hcd⟩ := F.ex
  rw [m] at h1
  cases h1
  have z := X _ _ lk
  rw [h2] at z
  cases z
  cases h3
  exact h4
theorem paired1 {α β : Type} {R : α → β → Prop} {x : α} {cs : List β} (h : Paired R [x] cs) : ∃ p, cs = [p] ∧ R x p := by
  cases h with
  | cons h t =>
    cases t
    exact ⟨_, rfl, h⟩
theorem paired2 {α β : Type} {R : α → β → Prop} {x y : α} {cs : List β} (h : Paired R [x, y] cs) : ∃ p r, cs = [p, r] ∧ R x p ∧ R y r := by
  cases h with
  | cons h t =>
    cases t with
    | cons h2 t =>
      cases t
      exact ⟨_, _, rfl, h, h2⟩
end
/-! ### what stands -/
section
variable {K : PySem.W.Frag} {H H' : Hp} {Pt : Addr} {q : Str}
theorem TabS.kj (t : TabS H Pt q) (k : Kj H H') : TabS H' Pt q := by
  obtain ⟨ps, h1, h2, h3⟩ := t
  refine ⟨ps, k _ _ h1 nofun nofun, h2, fun pos cv hc => ?_⟩
  obtain ⟨c, e1, e2⟩ := h3 pos cv hc
  exact ⟨c, e1, k _ _ e2 nofun nofun⟩
theorem TabS.new (h : H Pt = some (.tbl #[])) : TabS H Pt q := LamX.TabS.nil h
mutual
theorem Da.ext (s : ExtN H H') : ∀ {v : V} {d : PyData}, Da K H v d → Da K H' v d
  | _, _, .non => .non
  | _, _, .bl b => .bl b
  | _, _, .int i => .int i
  | _, _, .str x => .str x
  | _, _, .lst h t => .lst (by
      rcases h with (e | ⟨o, e⟩) | e
      · exact .inl (.inl (s _ _ e nofun))
      · exact .inl (.inr ⟨o, s _ _ e nofun⟩)
      · exact .inr e) (DaAll.ext s t)
  | _, _, .tup h t => .tup (by
      rcases h with (e | ⟨o, e⟩) | e
      · exact .inl (.inl (s _ _ e nofun))
      · exact .inl (.inr ⟨o, s _ _ e nofun⟩)
      · exact .inr e) (DaAll.ext s t)
  | _, _, .dic h t => .dic (s _ _ h nofun) (DaKv.ext s t)
theorem DaAll.ext (s : ExtN H H') : ∀ {vs : List V} {ds : List PyData}, DaAll K H vs ds → DaAll K H' vs ds
  | _, _, .nil => .nil
  | _, _, .cons h t => .cons (Da.ext s h) (DaAll.ext s t)
theorem DaKv.ext (s : ExtN H H') : ∀ {vs : List (Key × V)} {ds : List (PyData × PyData)}, DaKv K H vs ds → DaKv K H' vs ds
  | _, _, .nil => .nil
  | _, _, .cons h t => .cons (Da.ext s h) (DaKv.ext s t)
end
theorem SqL.ext {a : Addr} {xs : List V} (s : ExtN H H') (h : SqL K H a xs) : SqL K H' a xs := by
  rcases h with (e | ⟨o, e⟩) | e
  · exact .inl (.inl (s _ _ e nofun))
  · exact .inl (.inr ⟨o, s _ _ e nofun⟩)
  · exact .inr e
theorem PotA.ext {p : Addr} {n : Nat} (h : PotA p n H) (s : ExtN H H') : PotA p n H' := by
  obtain ⟨xs, e, q⟩ := h
  exact ⟨xs, s _ _ e nofun, q⟩
theorem Scr.seq {a : Addr} {xs : List V} (h : Scr K H a xs) : SqL K H a xs := by
  rcases h with ⟨o, e⟩ | h
  · exact .inl (.inr ⟨o, e⟩)
  · exact h H
theorem Scr.kj {a : Addr} {xs : List V} (h : Scr K H a xs) (k : Kj H H') : Scr K H' a xs := by
  rcases h with ⟨o, e⟩ | h
  · exact .inl ⟨o, k _ _ e nofun nofun⟩
  · exact .inr h
theorem Scr.ext {a : Addr} {xs : List V} (h : Scr K H a xs) (s : ExtN H H') : Scr K H' a xs := by
  rcases h with ⟨o, e⟩ | h
  · exact .inl ⟨o, s _ _ e nofun⟩
  · exact .inr h
end
end Ev

/-! ## Data of tuples, to be compared -/
namespace Ev
open PySem PySem.Spec PyProof.Rows L2
mutual
theorem da_dp2 {K : PySem.W.Frag} {H : Hp} : ∀ {v : V} {d : PyData}, tupD d = true → Da K H v d → Dp K H v d
  | _, .none, _, h => by
    cases h
    exact .non
  | _, .bool b, _, h => by
    cases h
    exact .bl b
  | _, .int i, _, h => by
    cases h
    exact .int i
  | _, .str x, _, h => by
    cases h
    exact .str x
  | _, .list ds, t, _ => by
    rw [tupD] at t
    cases t
  | _, .tuple ds, t, h => by
    rw [tupD] at t
    cases h with
    | tup hs ha => exact .tup hs (daAll_dp2 t ha)
  | _, .dict _, t, _ => by
    rw [tupD] at t
    cases t
theorem daAll_dp2 {K : PySem.W.Frag} {H : Hp} : ∀ {vs : List V} {ds : List PyData}, tupDs ds = true → DaAll K H vs ds → DpAll K H vs ds
  | _, [], _, h => by
    cases h
    exact .nil
  | _, d :: ds, t, h => by
    rw [tupDs, Bool.and_eq_true] at t
    cases h with
    | cons h1 h2 => exact .cons (da_dp2 t.1 h1) (daAll_dp2 t.2 h2)
end
end Ev

/-! ## The law's own text of a program -/
namespace Ev
open PySem PySem.Spec PyProof.Rows L2
def spTxL (K : PySem.W.Frag) (dep : Nat) : Sp := fun vs H Q _ => ∃ (x : V) (is : List It), vs = [x] ∧ Da K H x (.tuple (is.map It.d)) ∧ (∀ i ∈ is, Vt dep i) ∧ Its.ni is ≤ 1000 ∧ ∀ H', Same H H' → Q (.str (mkS (Its.tx is))) H'
theorem scTxL : FnScope ["_law_items_here", "_law_found", "_law_item", "_law_inner"] ["_law_items_here"] (defScope (topS 25)) := ⟨rfl, rfl, rfl, by decide +kernel, rfl, by decide +kernel, by decide +kernel⟩
section
variable {P : Program} {w : World} {K : PySem.W.Frag} {mg : Str → Option Value} {base : Heap}
theorem txL_step {k dep : Nat} {spR : Sp} (D : Def K mg "_law_text" (topS 25) ["_law_items_here"]) (C__law_text : Cal P w K mg base k "_law_text" ["_law_items_here"] spR) (hR : dep = 0 ∨ ∃ d, dep = d + 1 ∧ spR = spTxL K d) (nb : NB mg) : Cal P w K mg base (k + 1) "_law_text" ["_law_items_here"] (spTxL K dep) := by
  refine D.ok scTxL (fun vs H Q E h => ?_) (fun fa cdv A outer sh H vs Q E hr gd h => ?_)
  · obtain ⟨x, is, rfl, _⟩ := h
    rfl
  · obtain ⟨x, is, rfl, hx, hg, hn, q⟩ := h
    refine ⟨_, (pss_cons (ps_set (i := 1) scTxL.nd rfl (.inl rfl) (pe_lst pa_nil))
      (pss_cons (ps_for PassesOwn.never rfl (pi_tup (pv 0)) (pg_name (i := 2) scTxL.nd rfl (Or.inl rfl))
        (pss_cons (ps_set (i := 3) scTxL.nd rfl (.inl rfl) (pe_ifExp (pt_cmpR op_eq (pe_ix ix_tup (pv 2) pe_int (fun _ _ => rfl)) pe_str (nomark _)) (pe_op op_add_str (pe_op op_add_str (pe_ix ix_tup (pv 2) pe_int (fun _ _ => rfl)) pe_str) (pe_callTy call_str_int (by rfl) nb.at (by decide +kernel) (pa_cons (pe_ix ix_tup (pv 2) pe_int (fun _ _ => rfl)) pa_nil))) (pe_op op_add_str (pe_op op_add_str (pe_op op_add_str (pe_callTy call_str_int (by rfl) nb.at (by decide +kernel) (pa_cons (pe_ix ix_tup (pv 2) pe_int (fun _ _ => rfl)) pa_nil)) pe_str) (pcall C__law_text (hr.mono (by omega)) gd (by rfl) (pa_cons (pe_ix ix_tup (pv 2) pe_int (fun _ _ => rfl)) pa_nil))) pe_str)))
        (pss_one (ps_expr (pe_bm PySem.F.plainAttrs_list PySem.F.slot_list_append PySem.F.type_list_append mt_append (pv 1) (pa_cons (pv 3) pa_nil))))))
      (pss_one (ps_ret (pe_join pe_str (pv 1)))))), ?_⟩
    have sl := sizeLine_eq
    obtain ⟨a, xs, rfl, hs, ha⟩ := da_prog hx
    have hl := daAll_len ha
    rw [List.length_map] at hl
    have hnl := ni_len0 is
    refine ⟨Nat.zero_le _, fun l nl => ?_⟩
    have hnlH := nl
    refine ⟨_, rfl, a, rfl, ⟨xs, seqT_mono (same_put nl) hs⟩, ?_⟩
    refine for_it walk_tup (fun i σ' H' => ∃ y2 y3 : Option V, σ' = [some (.ref a), some (.ref l), y2, y3] ∧ Same H H' ∧ H' l = some (.lst ((is.take i).map fun i => V.str (mkS (It.tx i)))))
      ⟨_, _, rfl, same_put nl, upd_same⟩ (fun i σ' H' _ ⟨_, _, _, s', _⟩ => seqT_mono s' hs) ?_ ?_
    · rintro i x σ' H1 H2 hi ⟨y2, y3, rfl, s1, hl1⟩ ⟨rfl, hxi⟩
      obtain ⟨d, hdk, hdv⟩ := daAll_at (ha.mono s1) hxi
      rw [List.getElem?_map] at hdk
      obtain ⟨it, hit, rfl⟩ := Option.map_eq_some_iff.mp hdk
      have hm := List.mem_of_getElem? hit
      have hv := hg it hm
      have hin := Nat.le_trans (ni_mem0 hm) hn
      have fin : ∀ (D : Ends), (∀ σ' H', (∃ y2 y3 : Option V, σ' = [some (.ref a), some (.ref l), y2, y3] ∧ Same H H' ∧ H' l = some (.lst ((is.take (i + 1)).map fun i => V.str (mkS (It.tx i))))) → D.nx σ' H') → ∀ H3, Same H2 H3 → tDrop (tBM K "list" rAppend (tVar 1) (tCons (tVar 3) tNil)) D [some (.ref a), some (.ref l), some x, some (.str (mkS (It.tx it)))] H3 := fun D hD H3 s3 => by
        have hl3 := s3 _ _ hl1
        refine ⟨_, rfl, .inl ⟨rfl, _, .inl (.inl hl3)⟩, _, rfl, l, _, _, rfl, rfl, hl3, by rw [List.length_map, List.length_take]; omega, ?_⟩
        refine hD _ _ ⟨_, _, rfl, fun b o e => ?_, ?_⟩
        · rw [upd_ne (ne_of_none e nl)]
          exact s3 _ _ (s1 _ _ e)
        · rw [upd_same, List.take_add_one, hit, List.map_append]
          rfl
      cases it with
      | line z t =>
        obtain ⟨hz, t1, t2⟩ := vt_line.mp hv
        obtain ⟨b, rfl, hb⟩ := da_line hdv
        obtain ⟨n, rfl⟩ := Int.eq_ofNat_of_zero_le (show 0 ≤ t by omega)
        have hln := TL.numL_len (n := n) (k := 13) (by decide) (by omega)
        rw [← TL.tl_num, ← TL.len_tl] at hln
        have hz8 : z.length ≤ 8 := hz.2.1
        have h1 : (Str.ofString ":").length = 1 := by decide +kernel
        have h2 : (z ++ Str.ofString ":").length ≤ 9 := by
          rw [TL.len_tl, TL.tl_append, List.length_append, ← TL.len_tl, ← TL.len_tl]
          omega
        have hlog : ((n : Nat) : Int).natAbs.log2 < 1920 := Nat.lt_of_lt_of_le (PySem.Flt.log2_lt_of (k := 640) (by decide) (Nat.lt_trans (show ((n : Nat) : Int).natAbs < 2 ^ 64 from by show n < _; omega) (by decide +kernel))) (by decide)
        refine ⟨_, rfl, b, _, 0, _, rfl, rfl, hb, rfl, rfl, _, rfl, iteT ⟨_, rfl, b, _, 1, _, rfl, rfl, hb, rfl, _, _, rfl, rfl, by omega, _, rfl, b, _, 2, _, rfl, rfl, hb, rfl, _, rfl, hlog, _, _, rfl, rfl, by omega, ?_⟩⟩
        have e : z ++ Str.ofString ":" ++ Str.ofString (toString ((n : Nat) : Int)) = mkS (It.tx (.line z (n : Nat))) := by
          refine TL.ext_tl ?_
          rw [TL.tl_append, TL.tl_append, tl_mkS, TL.tl_num, It.tx, Int.toNat_natCast, show TL.tl (Str.ofString ":") = [58] from by decide +kernel, List.append_assoc]
          rfl
        rw [e]
        exact fin _ (fun _ _ h => h) _ Same.rfl'
      | loop r js =>
        obtain ⟨d, rfl, hsp⟩ : ∃ d, dep = d + 1 ∧ spR = spTxL K d := by
          rcases hR with h | h
          · subst h
            exact hv.elim
          · exact h
        subst hsp
        obtain ⟨r1, r2, l1, l2, hgj⟩ : 1 ≤ r ∧ r ≤ 1000000000000000000 ∧ 1 ≤ js.length ∧ js.length ≤ 20 ∧ ∀ i ∈ js, Vt d i := hv
        obtain ⟨b, v, rfl, hb, hw⟩ := da_loop hdv
        obtain ⟨n, rfl⟩ := Int.eq_ofNat_of_zero_le (show 0 ≤ r by omega)
        rw [It.ni] at hin
        have hln := TL.numL_len (n := n) (k := 19) (by decide) (by omega)
        rw [← TL.tl_num, ← TL.len_tl] at hln
        have htj := Its.tx_len d js hgj
        have h1 : (Str.ofString "*(").length = 2 := by decide +kernel
        have h1' : (Str.ofString ")").length = 1 := by decide +kernel
        have h2 : (Str.ofString (toString ((n : Nat) : Int)) ++ Str.ofString "*(").length ≤ 21 := by
          rw [TL.len_tl, TL.tl_append, List.length_append, ← TL.len_tl, ← TL.len_tl]
          omega
        have h3 : (mkS (Its.tx js)).length ≤ 41000 := by
          rw [TL.len_tl, tl_mkS]
          omega
        have h4 : (Str.ofString (toString ((n : Nat) : Int)) ++ Str.ofString "*(" ++ mkS (Its.tx js)).length ≤ 41021 := by
          rw [TL.len_tl, TL.tl_append, List.length_append, ← TL.len_tl, ← TL.len_tl]
          omega
        have hlog : ((n : Nat) : Int).natAbs.log2 < 1920 := Nat.lt_of_lt_of_le (PySem.Flt.log2_lt_of (k := 640) (by decide) (Nat.lt_trans (show ((n : Nat) : Int).natAbs < 2 ^ 64 from by show n < _; omega) (by decide +kernel))) (by decide)
        refine ⟨_, rfl, b, _, 0, _, rfl, rfl, hb, rfl, rfl, _, rfl, ?_⟩
        rw [show decide (V.str "loop" = V.str "line") = false from decide_eq_false fun h => absurd (V.str.inj h) (by decide)]
        refine iteF ⟨_, rfl, b, _, 1, _, rfl, rfl, hb, rfl, _, rfl, hlog, _, _, rfl, rfl, by omega, _, rfl, b, _, 2, _, rfl, rfl, hb, rfl, v, js, rfl, hw, hgj, by omega, fun H3 s3 => ⟨_, _, rfl, rfl, by omega, _, _, rfl, rfl, by omega, ?_⟩⟩
        have e : Str.ofString (toString ((n : Nat) : Int)) ++ Str.ofString "*(" ++ mkS (Its.tx js) ++ Str.ofString ")" = mkS (It.tx (.loop (n : Nat) js)) := by
          refine TL.ext_tl ?_
          simp only [TL.tl_append, tl_mkS, TL.tl_num]
          rw [It.tx, Int.toNat_natCast, show TL.tl (Str.ofString "*(") = [42, 40] from by decide +kernel, show TL.tl (Str.ofString ")") = [41] from by decide +kernel]
          simp
        rw [e]
        exact fin _ (fun _ _ h => h) _ s3
    · rintro σ' H1 ⟨y2, y3, rfl, s1, hl1⟩
      rw [hl, List.take_of_length_le (Nat.le_refl _)] at hl1
      have hsum := sum_tx is hg
      refine ⟨⟨_, rfl⟩, _, rfl, _, l, is.map fun i => mkS (It.tx i), rfl, rfl, .inl (.inl (.inl (by rw [hl1, List.map_map]; rfl))), ?_, ?_⟩
      · rw [List.length_map, show (Str.ofString " ").length = 1 from by decide +kernel]
        omega
      · rw [txt_join]
        exact q H1 s1
theorem ok_txL (D : Def K mg "_law_text" (topS 25) ["_law_items_here"]) (nb : NB mg) : ∀ dep : Nat, Cal P w K mg base (dep + 1) "_law_text" ["_law_items_here"] (spTxL K dep)
  | 0 => txL_step D (no_cal D) (.inl rfl) nb
  | d + 1 => txL_step D (ok_txL D nb d) (.inr ⟨d, rfl, rfl⟩) nb
end
end Ev

/-! ## is_whole, is_integer_within -/
namespace Ev
open PySem PySem.Spec PyProof.Rows L2
section
variable {P : Program} {w : World} {K : PySem.W.Frag} {mg : Str → Option Value} {base : Heap} {f fW : Addr} {fd fdW : FuncData}
end
end Ev

/-! ## is_name, room_behind, room_behind_items, is_program -/
namespace Ev
open PySem PySem.Spec PyProof.Rows L2
/-! ## Which values are programs -/
section
variable {X : Cx} {x y : Str} {i : Nat} {p1 p2 q1 q2 : Pos}
end
section
variable {K : PySem.W.Frag} {H0 : Hp} {σ : L2.St} {i : Nat} {x : V} {d : PyData} {T : String} {b c : Bool} {tt uu : TT} {t rest : TS} {D : Ends}
end
def nameD : PyData → Bool
  | .str x => decide (1 ≤ x.length) && (decide (x.length ≤ 8) && x.cps.toList.all fun c => decide (97 ≤ c) && decide (c ≤ 122))
  | _ => false
mutual
/-- its texts are not long -/
def okS : PyData → Bool
  | .str x => decide (x.length ≤ 1000)
  | .list xs | .tuple xs => okSs xs
  | .dict kvs => okSk kvs
  | _ => true
def okSs : List PyData → Bool
  | [] => true
  | x :: xs => okS x && okSs xs
def okSk : List (PyData × PyData) → Bool
  | [] => true
  | (k, v) :: r => okS k && (okS v && okSk r)
end
theorem okSs_mem : ∀ {ds : List PyData}, okSs ds = true → ∀ d ∈ ds, okS d = true
  | [], _, _, h => nomatch h
  | x :: xs, h, d, hd => by
    rw [okSs, Bool.and_eq_true] at h
    rcases List.mem_cons.mp hd with rfl | hd
    · exact h.1
    · exact okSs_mem h.2 d hd
def spName (K : PySem.W.Frag) : Sp := fun vs H Q _ => ∃ (x : V) (d : PyData), vs = [x] ∧ Da K H x d ∧ okS d = true ∧ ∀ H', Same H H' → Q (.bl (nameD d)) H'
section
variable {P : Program} {w : World} {K : PySem.W.Frag} {mg : Str → Option Value} {base : Heap} {f fW : Addr} {fd fdW : FuncData}
/-! ### names -/
abbrev rLeS : R2 := fun x y H Q => ∃ i j, x = .str i ∧ y = .str j ∧ Q (.bl (!decide (j.cps.toList < i.cps.toList))) H
abbrev rLenS : List V → Hp → VK → Prop := fun xs H Q => ∃ z, xs = [.str z] ∧ z.length ≤ sizeLine ∧ Q (.int z.length) H
theorem t_chainI {H0 : Hp} {σ : L2.St} {tb : TE} {a b c : Int} (h : Gives H0 tb (gEq (.int b)) σ) :
    GivesT H0 (tTest (tChain rLeI rLeI (tC (.int a)) tb (tC (.int c)))) (decide (a ≤ b) && decide (b ≤ c)) σ := fun H Q s q =>
  h H _ s fun H1 u s1 e => by
    have e : u = .int b := e
    subst e
    refine ⟨_, _, rfl, rfl, _, rfl, ite2 (fun z => ?_) (fun z => ?_)⟩
    · refine ⟨_, _, rfl, rfl, _, rfl, ?_⟩
      have qq := q H1 s1
      rw [z, Bool.true_and] at qq
      exact qq
    · refine ⟨_, rfl, ?_⟩
      have qq := q H1 s1
      rw [Bool.eq_false_iff.mpr z, Bool.false_and] at qq
      exact qq
theorem g_lenS {H0 : Hp} {σ : L2.St} {i : Nat} {x : Str} (h : σ[i]? = some (some (.str x))) (hx : x.length ≤ 1000) : Gives H0 (tCB rLenS (tCons (tVar i) tNil)) (gEq (.int x.length)) σ := fun H Q s q => by
  have y := sizeLine_eq
  exact ⟨_, h, x, rfl, by omega, q H _ Same.rfl' rfl⟩
theorem lt_one (a b : Nat) : decide (([a] : List Nat) < [b]) = decide (a < b) := by
  rw [decide_eq_decide]
  constructor
  · intro h
    cases h with
    | rel h => exact h
    | cons h => cases h
  · intro h
    exact List.Lex.rel h
theorem g_lcS {H0 : Hp} {σ : L2.St} {te : TE} {x : Str} {ys : List V} {i : Nat} {g : TG} {vs : List Nat} (hi : σ[i]? = some (some (.str x))) (hz : x.cps.size ≤ 1000) (hl : ys.length = x.cps.size)
    (he : ∀ (j c : Nat) (y : V), x.cps[j]? = some c → ys[j]? = some y → ∀ (H : Hp) (R : VK), Same H0 H → R y H →
      g (.str ⟨#[c]⟩) (wipe σ vs) H fun σ2 H2 => wipe σ2 vs = wipe σ vs ∧ te σ2 H2 R) :
    Gives H0 (tLc (iStr (tVar i)) g tYes te vs) (gLst (ys.map gEq)) σ := fun H Q s q => by
  have y := sizeLine_eq
  refine ⟨_, hi, x, rfl, fun D nD => ⟨fun k m H' => m = x.cps.size - k ∧ k ≤ x.cps.size ∧ Same H H' ∧ H' D = some (.lst (ys.take k)), ⟨_, rfl, Nat.zero_le _, same_put nD, upd_same⟩, ?_⟩⟩
  rintro k m H' ⟨rfl, hk, s', eD⟩
  by_cases hlt : k < x.cps.size
  · have hky : k < ys.length := by omega
    have hy := List.getElem?_eq_getElem hky
    refine .inr ⟨hlt, fun H'' => Same H H'' ∧ H'' D = some (.lst (ys.take (k + 1))), fun H'' p' => ⟨x.cps.size - (k + 1), by omega, rfl, hlt, p'.1, p'.2⟩, ?_⟩
    rintro v H'' ⟨rfl, c, hc, rfl⟩
    refine cast ?_ (he k c ys[k] hc hy H'' (fun y H4 => ∃ acc, H4 D = some (.lst acc) ∧ acc.length < sizeLine ∧ Same H (upd H4 D (.lst (acc ++ [y]))) ∧ upd H4 D (.lst (acc ++ [y])) D = some (.lst (ys.take (k + 1)))) (s.trans s') ⟨_, eD, ?_, ?_, ?_⟩)
    · rfl
    · rw [List.length_take]
      omega
    · intro b o e
      rw [upd_ne (ne_of_none e nD)]
      exact s' _ _ e
    · rw [upd_same, List.take_add_one, hy]
      rfl
  · refine .inl ⟨by show x.cps.size ≤ k; omega, ?_⟩
    have hk' : k = ys.length := by omega
    rw [hk', List.take_length] at eD
    exact q H' _ s' ⟨D, ys, rfl, eD, allEq⟩
end
/-! ## room_behind, room_behind_items, is_program -/
section
variable {K : PySem.W.Frag} {H0 : Hp} {σ : L2.St} {te tf : TE} {i : Nat} {x : V} {d : PyData} {b c : Bool}
theorem g_lenT {a : Addr} {ds : List PyData} (h : σ[i]? = some (some (.ref a))) (hd : Da K H0 (.ref a) (.tuple ds)) : Gives H0 (tCB (rLenK K) (tCons (tVar i) tNil)) (gEq (.int (ds.length : Nat))) σ := fun H Q s q => by
  cases hd.mono s with
  | @tup _ xs _ hs ha =>
    have hl : xs.length = ds.length := daAll_len ha
    refine ⟨_, h, a, xs, rfl, .inr hs, ?_⟩
    rw [hl]
    exact q H _ Same.rfl' rfl
theorem t_eqS {t : Str} (h : σ[i]? = some (some x)) (hd : Da K H0 x d) : GivesT H0 (tTest (tOp (rEqS K) (tVar i) (tC (.str t)))) (isStrD t d) σ := fun H Q s q =>
  ⟨_, h, d, t, hd.mono s, rfl, _, rfl, q H Same.rfl'⟩
theorem t_neSt {t : Str} (h : σ[i]? = some (some x)) (hd : Da K H0 x d) : GivesT H0 (tTest (tOp (rNeS K) (tVar i) (tC (.str t)))) (!isStrD t d) σ := fun H Q s q =>
  ⟨_, h, d, t, hd.mono s, rfl, _, rfl, q H Same.rfl'⟩
theorem g_in {lo hi : Int} (h : σ[i]? = some (some x)) (hd : Da K H0 x d) : Gives H0 (tCall (spIn K) [] E0 (tCons (tVar i) (tCons (tC (.int lo)) (tCons (tC (.int hi)) tNil)))) (gEq (.bl (intD lo hi d))) σ := fun H Q s q =>
  ⟨_, h, x, d, lo, hi, rfl, hd.mono s, fun H' s' => q H' _ s' rfl⟩
theorem g_name (h : σ[i]? = some (some x)) (hd : Da K H0 x d) (ho : okS d = true) : Gives H0 (tCall (spName K) [] E0 (tCons (tVar i) tNil)) (gEq (.bl (nameD d))) σ := fun H Q s q =>
  ⟨_, h, x, d, rfl, hd.mono s, ho, fun H' s' => q H' _ s' rfl⟩
end
/-! ### the mirror -/
def foldR (f : PyData → Int → Option Int) : List PyData → Int → Option Int
  | [], r => some r
  | d :: ds, r => (f d r).bind (foldR f ds)
def itemR (rec : PyData → Int → Option Int) (dep : Nat) (d : PyData) (room : Int) : Option Int :=
  if room = 0 then none else match d with
  | .tuple [k, a, b] =>
    if isStrD "line" k = true then (if (nameD a && intD 1 1000000000000 b) = true then some (room - 1) else none)
    else if (!isStrD "loop" k || (decide (dep = 0) || !intD 1 1000000000000000000 a)) = true then none else rec b (room - 1)
  | _ => none
def itemsW (rec : PyData → Int → Option Int) (dep : Nat) (d : PyData) (room : Int) : Option Int := match d with
  | .tuple ds => if (decide ((1 : Int) ≤ (ds.length : Nat)) && decide (((ds.length : Nat) : Int) ≤ 20)) = true then foldR (itemR rec dep) ds room else none
  | _ => none
def itemsR : Nat → PyData → Int → Option Int
  | 0 => itemsW (fun _ _ => none) 0
  | n + 1 => itemsW (itemsR n) (n + 1)
def recR : Nat → PyData → Int → Option Int
  | 0 => fun _ _ => none
  | n + 1 => itemsR n
theorem itemsR_eq (dep : Nat) : itemsR dep = itemsW (recR dep) dep := by
  cases dep <;> rfl
def optV : Option Int → V
  | none => .non
  | some r => .int r
theorem itemR_bound {rec : PyData → Int → Option Int} {dep : Nat} (hrec : ∀ d r r', 0 ≤ r → rec d r = some r' → 0 ≤ r' ∧ r' ≤ r) {d : PyData} {r r' : Int} (h0 : 0 ≤ r) (h : itemR rec dep d r = some r') : 0 ≤ r' ∧ r' ≤ r := by
  unfold itemR at h
  by_cases hr : r = 0
  · rw [if_pos hr] at h
    cases h
  · rw [if_neg hr] at h
    split at h
    · split at h
      · split at h
        · cases h
          omega
        · cases h
      · split at h
        · cases h
        · have z := hrec _ _ _ (by omega) h
          omega
    · cases h
theorem foldR_bound {f : PyData → Int → Option Int} (hf : ∀ d r r', 0 ≤ r → f d r = some r' → 0 ≤ r' ∧ r' ≤ r) : ∀ {ds : List PyData} {r r' : Int}, 0 ≤ r → foldR f ds r = some r' → 0 ≤ r' ∧ r' ≤ r
  | [], r, r', h0, h => by
    cases h
    omega
  | d :: ds, r, r', h0, h => by
    unfold foldR at h
    cases e : f d r with
    | none =>
      rw [e] at h
      cases h
    | some r1 =>
      rw [e] at h
      have z1 := hf d r r1 h0 e
      have z2 := foldR_bound hf z1.1 h
      omega
theorem itemsR_bound : ∀ (dep : Nat) (d : PyData) (r r' : Int), 0 ≤ r → itemsR dep d r = some r' → 0 ≤ r' ∧ r' ≤ r := by
  have key : ∀ (rec : PyData → Int → Option Int) (dep : Nat), (∀ d r r', 0 ≤ r → rec d r = some r' → 0 ≤ r' ∧ r' ≤ r) → ∀ d r r', 0 ≤ r → itemsW rec dep d r = some r' → 0 ≤ r' ∧ r' ≤ r := by
    intro rec dep hrec d r r' h0 h
    unfold itemsW at h
    split at h
    · split at h
      · exact foldR_bound (fun d r r' a b => itemR_bound hrec a b) h0 h
      · cases h
    · cases h
  intro dep
  induction dep with
  | zero => exact key _ 0 fun d r r' _ h => (nomatch h)
  | succ n ih => exact key _ (n + 1) ih
def spRB (K : PySem.W.Frag) (dep : Nat) : Sp := fun vs H Q _ => ∃ (x : V) (d : PyData) (room : Int), vs = [x, .int (dep : Nat), .int room] ∧ Da K H x d ∧ okS d = true ∧ 0 ≤ room ∧ room ≤ 1000 ∧
  ∀ H', Same H H' → Q (optV (itemR (recR dep) dep d room)) H'
def spRI (K : PySem.W.Frag) (dep : Nat) : Sp := fun vs H Q _ => ∃ (x : V) (d : PyData) (room : Int), vs = [x, .int (dep : Nat), .int room] ∧ Da K H x d ∧ okS d = true ∧ 0 ≤ room ∧ room ≤ 1000 ∧
  ∀ H', Same H H' → Q (optV (itemsR dep d room)) H'
section
variable {P : Program} {w : World} {K : PySem.W.Frag} {mg : Str → Option Value} {base : Heap} {f fN fW fI : Addr} {fd fdN fdW fdI : FuncData}
theorem fold_at {f : PyData → Int → Option Int} {ds : List PyData} {i : Nat} {d : PyData} {r : Int} (h : ds[i]? = some d) : foldR f (ds.drop i) r = (f d r).bind (foldR f (ds.drop (i + 1))) := by
  obtain ⟨hi, e⟩ := List.getElem?_eq_some_iff.mp h
  rw [List.drop_eq_getElem_cons hi, e]
  rfl
theorem daAll_get {H : Hp} : ∀ {vs : List V} {ds : List PyData} {i : Nat} {v : V}, DaAll K H vs ds → vs[i]? = some v → ∃ d, ds[i]? = some d ∧ Da K H v d
  | _, _, _, _, .nil, h => by simp at h
  | _, _, 0, _, .cons a _, h => by
    simp at h
    subst h
    exact ⟨_, rfl, a⟩
  | _, _, i + 1, _, .cons _ t, h => daAll_get (i := i) t (by simpa using h)
theorem recR_bound (dep : Nat) : ∀ d r r', 0 ≤ r → recR dep d r = some r' → 0 ≤ r' ∧ r' ≤ r := by
  cases dep with
  | zero => exact fun d r r' _ h => (nomatch h)
  | succ n => exact itemsR_bound n
def spProg (K : PySem.W.Frag) : Sp := fun vs H Q _ => ∃ (x : V) (d : PyData), vs = [x] ∧ Da K H x d ∧ okS d = true ∧ ∀ H', Same H H' → Q (.bl (itemsR 5 d 60).isSome) H'
end
end Ev

/-! ## Which items are valid -/
namespace Ev
open PySem PySem.Spec PyProof.Rows L2
/-- an item with loops at most n deep -/
def Vi : Nat → It → Prop
  | _, .line x t => nameD (.str x) = true ∧ 1 ≤ t ∧ t ≤ 1000000000000
  | 0, .loop _ _ => False
  | n + 1, .loop r is => 1 ≤ r ∧ r ≤ 1000000000000000000 ∧ 1 ≤ is.length ∧ is.length ≤ 20 ∧ ∀ i ∈ is, Vi n i
theorem vi_line {n : Nat} {x : Str} {t : Int} : Vi n (.line x t) ↔ nameD (.str x) = true ∧ 1 ≤ t ∧ t ≤ 1000000000000 := by
  cases n <;> exact Iff.rfl
theorem isStr_d (x y : Str) : isStrD x (.str y) = decide (y = x) := by
  first
    | rfl
    | (unfold isStrD; rfl)
    | (unfold isStrD; by_cases h : y = x <;> simp [h])
theorem ni_app : ∀ is js : List It, Its.ni (is ++ js) = Its.ni is + Its.ni js
  | [], js => by
    rw [List.nil_append, Its.ni, Nat.zero_add]
  | i :: is, js => by
    rw [List.cons_append, Its.ni, Its.ni, ni_app is js, Nat.add_assoc]
theorem fold_it {f : PyData → Int → Option Int} (hf : ∀ i room, (It.ni i : Int) ≤ room → (f (It.d i) room = some (room - It.ni i))) : ∀ (is : List It) (room : Int), (Its.ni is : Int) ≤ room → foldR f (is.map It.d) room = some (room - Its.ni is)
  | [], room, _ => by
    rw [List.map_nil, foldR, Its.ni]
    simp
  | i :: is, room, h => by
    rw [Its.ni] at h ⊢
    rw [List.map_cons, foldR, hf i room (by omega)]
    show foldR f (is.map It.d) (room - It.ni i) = _
    rw [fold_it hf is _ (by omega)]
    congr 1
    omega
theorem fold_it' {f : PyData → Int → Option Int} : ∀ (is : List It) (room : Int), (∀ i ∈ is, ∀ room, (It.ni i : Int) ≤ room → (f (It.d i) room = some (room - It.ni i))) → (Its.ni is : Int) ≤ room → foldR f (is.map It.d) room = some (room - Its.ni is)
  | [], room, _, _ => by
    rw [List.map_nil, foldR, Its.ni]
    simp
  | i :: is, room, hf, h => by
    rw [Its.ni] at h ⊢
    rw [List.map_cons, foldR, hf i (List.mem_cons_self ..) room (by omega)]
    show foldR f (is.map It.d) (room - It.ni i) = _
    rw [fold_it' is _ (fun j hj => hf j (List.mem_cons_of_mem _ hj)) (by omega)]
    congr 1
    omega
theorem itemsW_it {rec : PyData → Int → Option Int} {dep : Nat} {is : List It} {room : Int} (h1 : 1 ≤ is.length) (h2 : is.length ≤ 20) (hf : ∀ i ∈ is, ∀ room, (It.ni i : Int) ≤ room → (itemR rec dep (It.d i) room = some (room - It.ni i))) (hn : (Its.ni is : Int) ≤ room) :
    itemsW rec dep (.tuple (is.map It.d)) room = some (room - Its.ni is) := by
  unfold itemsW
  dsimp only
  rw [List.length_map, decide_eq_true (by omega), decide_eq_true (by omega), Bool.true_and, if_pos rfl]
  exact fold_it' is room hf hn
theorem itemR_line {rec : PyData → Int → Option Int} {dep : Nat} {x : Str} {t room : Int} (h : nameD (.str x) = true ∧ 1 ≤ t ∧ t ≤ 1000000000000) (hr : 1 ≤ room) : itemR rec dep (It.d (.line x t)) room = some (room - 1) := by
  unfold itemR
  rw [if_neg (by omega), It.d]
  dsimp only
  rw [isStr_d, decide_eq_true rfl, if_pos rfl, h.1]
  have e : intD 1 1000000000000 (.int t) = true := by
    show (decide ((1 : Int) ≤ t) && decide (t ≤ 1000000000000)) = true
    rw [decide_eq_true h.2.1, decide_eq_true h.2.2]
    rfl
  rw [e]
  rfl
theorem itemR_it : ∀ (n : Nat) (i : It), Vi n i → ∀ room, (It.ni i : Int) ≤ room → (itemR (recR n) n (It.d i) room = some (room - It.ni i))
  | n, .line x t, h, room, hr => by
    rw [It.ni] at hr ⊢
    exact itemR_line (vi_line.mp h) (by omega)
  | 0, .loop _ _, h, _, _ => h.elim
  | n + 1, .loop r is, h, room, hr => by
    obtain ⟨h1, h2, h3, h4, h5⟩ : 1 ≤ r ∧ r ≤ 1000000000000000000 ∧ 1 ≤ is.length ∧ is.length ≤ 20 ∧ ∀ i ∈ is, Vi n i := h
    rw [It.ni] at hr ⊢
    unfold itemR
    rw [if_neg (by omega), It.d, Its.d_map]
    dsimp only
    rw [isStr_d, isStr_d, decide_eq_false (by decide), decide_eq_true rfl, if_neg Bool.false_ne_true]
    have e : intD 1 1000000000000000000 (.int r) = true := by
      show (decide ((1 : Int) ≤ r) && decide (r ≤ 1000000000000000000)) = true
      rw [decide_eq_true h1, decide_eq_true h2]
      rfl
    rw [e, decide_eq_false (Nat.succ_ne_zero n), if_neg (by decide)]
    show itemsR n _ _ = _
    rw [itemsR_eq, itemsW_it h3 h4 (fun i hi => itemR_it n i (h5 i hi)) (by omega)]
    congr 1
    omega
/-- a program -/
structure Vp (is : List It) : Prop where
  ne : 1 ≤ is.length
  le : is.length ≤ 20
  vi : ∀ i ∈ is, Vi 5 i
  ni : Its.ni is ≤ 60
theorem Vp.isP {is : List It} (h : Vp is) : (itemsR 5 (.tuple (is.map It.d)) 60).isSome = true := by
  have z := h.ni
  rw [itemsR_eq, itemsW_it h.ne h.le (fun i hi => itemR_it 5 i (h.vi i hi)) (by omega)]
  rfl
theorem vi_ps : ∀ (n : Nat) (i : It), Vi n i → It.ps i
  | n, .line x t, h => by
    rw [It.ps]
    exact (vi_line.mp h).2.1
  | 0, .loop r is, h => h.elim
  | n + 1, .loop r is, h => by
    obtain ⟨h1, h2, h3, h4, h5⟩ : 1 ≤ r ∧ r ≤ 1000000000000000000 ∧ 1 ≤ is.length ∧ is.length ≤ 20 ∧ ∀ i ∈ is, Vi n i := h
    rw [It.ps]
    exact ⟨h1, (fun e => by rw [e] at h3; exact absurd h3 (by decide)), ps_of fun i hi => vi_ps n i (h5 i hi)⟩
theorem vi_okp : ∀ (n : Nat) (i : It), Vi n i → Okp 64 n i
  | n, .line x t, h => by
    have h := vi_line.mp h
    exact okp_line.mpr ⟨by omega, by omega⟩
  | 0, .loop r is, h => h.elim
  | n + 1, .loop r is, h => by
    obtain ⟨h1, h2, h3, h4, h5⟩ : 1 ≤ r ∧ r ≤ 1000000000000000000 ∧ 1 ≤ is.length ∧ is.length ≤ 20 ∧ ∀ i ∈ is, Vi n i := h
    exact ⟨by omega, by omega, fun i hi => vi_okp n i (h5 i hi)⟩
theorem nameD_short {x : Str} (h : nameD (.str x) = true) : x.length ≤ 8 := by
  unfold nameD at h
  rw [Bool.and_eq_true, Bool.and_eq_true] at h
  exact of_decide_eq_true h.2.1
mutual
theorem It.okS (n : Nat) : ∀ i : It, Vi n i → Ev.okS (It.d i) = true
  | .line x t, h => by
    have h1 := nameD_short (vi_line.mp h).1
    rw [It.d]
    have e1 : Ev.okS (.str x) = true := by
      rw [Ev.okS]
      exact decide_eq_true (by omega)
    have e2 : Ev.okS (.str "line") = true := by decide +kernel
    have e3 : Ev.okS (.int t) = true := by
      rw [Ev.okS]
      all_goals (intros; contradiction)
    rw [Ev.okS, okSs, okSs, okSs, okSs, e1, e2, e3]
    rfl
  | .loop r is, h => by
    cases n with
    | zero => exact h.elim
    | succ n =>
      obtain ⟨h1, h2, h3, h4, h5⟩ : 1 ≤ r ∧ r ≤ 1000000000000000000 ∧ 1 ≤ is.length ∧ is.length ≤ 20 ∧ ∀ i ∈ is, Vi n i := h
      have e := Its.okS n is h5
      rw [It.d]
      have e2 : Ev.okS (.str "loop") = true := by decide +kernel
      have e3 : Ev.okS (.int r) = true := by
        rw [Ev.okS]
        all_goals (intros; contradiction)
      have e4 : Ev.okS (.tuple (Its.d is)) = true := by
        rw [Ev.okS]
        exact e
      rw [Ev.okS, okSs, okSs, okSs, okSs, e2, e3, e4]
      rfl
theorem Its.okS (n : Nat) : ∀ is : List It, (∀ i ∈ is, Vi n i) → okSs (Its.d is) = true
  | [], _ => by rw [Its.d, okSs]
  | i :: is, h => by
    rw [Its.d, okSs, It.okS n i (h i (List.mem_cons_self ..)), Its.okS n is fun j hj => h j (List.mem_cons_of_mem _ hj)]
    rfl
end
theorem Vp.okS {is : List It} (h : Vp is) : Ev.okS (.tuple (is.map It.d)) = true := by
  rw [Ev.okS, ← Its.d_map]
  exact Its.okS 5 is h.vi
end Ev

/-! ## What is_program takes is a program -/
namespace Ev
open PySem PySem.Spec PyProof.Rows L2
theorem intD_int {lo hi : Int} {d : PyData} (h : intD lo hi d = true) : ∃ i : Int, d = .int i ∧ lo ≤ i ∧ i ≤ hi := by
  cases d with
  | int i =>
    have h : (decide (lo ≤ i) && decide (i ≤ hi)) = true := h
    rw [Bool.and_eq_true, decide_eq_true_eq, decide_eq_true_eq] at h
    exact ⟨i, rfl, h⟩
  | _ => cases h
theorem intD_nat {hi : Int} {d : PyData} {lo : Nat} (h : intD (lo : Nat) hi d = true) : ∃ a : Nat, d = .int (a : Nat) ∧ lo ≤ a ∧ (a : Int) ≤ hi := by
  obtain ⟨i, rfl, h1, h2⟩ := intD_int h
  refine ⟨i.toNat, ?_, by omega, by omega⟩
  rw [Int.toNat_of_nonneg (by omega)]
theorem isStrD_eq {x : Str} {d : PyData} (h : isStrD x d = true) : d = .str x := by
  cases d with
  | str y =>
    rw [isStr_d] at h
    rw [of_decide_eq_true h]
  | _ =>
    first
      | (cases h; done)
      | (unfold isStrD at h; cases h; done)
      | (simp [isStrD] at h)
theorem parse_fold {f : PyData → Int → Option Int} {G : It → Prop} (hf : ∀ d r r', f d r = some r' → ∃ i, d = It.d i ∧ G i ∧ r = r' + It.ni i) : ∀ (ds : List PyData) (r r' : Int), foldR f ds r = some r' → ∃ is : List It, ds = is.map It.d ∧ (∀ i ∈ is, G i) ∧ r = r' + Its.ni is
  | [], r, r', h => by
    rw [foldR] at h
    cases h
    refine ⟨[], rfl, nofun, ?_⟩
    rw [Its.ni]
    simp
  | d :: ds, r, r', h => by
    rw [foldR] at h
    cases e : f d r with
    | none =>
      rw [e] at h
      cases h
    | some m =>
      rw [e] at h
      obtain ⟨i, rfl, hi, e1⟩ := hf d r m e
      obtain ⟨is, rfl, his, e2⟩ := parse_fold hf ds m r' h
      refine ⟨i :: is, rfl, fun j hj => ?_, ?_⟩
      · rcases List.mem_cons.mp hj with rfl | hj
        · exact hi
        · exact his j hj
      · rw [Its.ni, Int.natCast_add]
        omega
theorem parse_w {rec : PyData → Int → Option Int} {dep : Nat} {G : It → Prop} {d : PyData} {r r' : Int} (hf : ∀ d r r', itemR rec dep d r = some r' → ∃ i, d = It.d i ∧ G i ∧ r = r' + It.ni i) (h : itemsW rec dep d r = some r') :
    ∃ is : List It, d = .tuple (is.map It.d) ∧ 1 ≤ is.length ∧ is.length ≤ 20 ∧ (∀ i ∈ is, G i) ∧ r = r' + Its.ni is := by
  cases d with
  | tuple ds =>
    have h : (if (decide ((1 : Int) ≤ (ds.length : Nat)) && decide (((ds.length : Nat) : Int) ≤ 20)) = true then foldR (itemR rec dep) ds r else none) = some r' := h
    by_cases c : (decide ((1 : Int) ≤ (ds.length : Nat)) && decide (((ds.length : Nat) : Int) ≤ 20)) = true
    · rw [if_pos c] at h
      rw [Bool.and_eq_true, decide_eq_true_eq, decide_eq_true_eq] at c
      obtain ⟨is, rfl, his, e⟩ := parse_fold hf ds r r' h
      rw [List.length_map] at c
      exact ⟨is, rfl, by omega, by omega, his, e⟩
    · rw [if_neg c] at h
      cases h
  | _ => cases h
theorem parse_item : ∀ (n : Nat) (d : PyData) (r r' : Int), itemR (recR n) n d r = some r' → ∃ i, d = It.d i ∧ Vi n i ∧ r = r' + It.ni i := by
  intro n
  induction n with
  | zero =>
    intro d r r' h
    unfold itemR at h
    by_cases hr : r = 0
    · rw [if_pos hr] at h
      cases h
    · rw [if_neg hr] at h
      split at h
      · rename_i k a b
        by_cases c : isStrD "line" k = true
        · rw [if_pos c] at h
          by_cases c2 : (nameD a && intD 1 1000000000000 b) = true
          · rw [if_pos c2] at h
            rw [Bool.and_eq_true] at c2
            obtain ⟨t, rfl, t1, t2⟩ := intD_int c2.2
            cases h
            cases a with
            | str x =>
              refine ⟨.line x t, by rw [isStrD_eq c, It.d], vi_line.mpr ⟨c2.1, t1, t2⟩, ?_⟩
              rw [It.ni]
              omega
            | _ => cases c2.1
          · rw [if_neg c2] at h
            cases h
        · rw [if_neg c] at h
          rw [show (!isStrD "loop" k || (decide ((0 : Nat) = 0) || !intD 1 1000000000000000000 a)) = true from by simp, if_pos rfl] at h
          cases h
      · cases h
  | succ n ih =>
    intro d r r' h
    unfold itemR at h
    by_cases hr : r = 0
    · rw [if_pos hr] at h
      cases h
    · rw [if_neg hr] at h
      split at h
      · rename_i k a b
        by_cases c : isStrD "line" k = true
        · rw [if_pos c] at h
          by_cases c2 : (nameD a && intD 1 1000000000000 b) = true
          · rw [if_pos c2] at h
            rw [Bool.and_eq_true] at c2
            obtain ⟨t, rfl, t1, t2⟩ := intD_int c2.2
            cases h
            cases a with
            | str x =>
              refine ⟨.line x t, by rw [isStrD_eq c, It.d], vi_line.mpr ⟨c2.1, t1, t2⟩, ?_⟩
              rw [It.ni]
              omega
            | _ => cases c2.1
          · rw [if_neg c2] at h
            cases h
        · rw [if_neg c] at h
          by_cases c2 : (!isStrD "loop" k || (decide (n + 1 = 0) || !intD 1 1000000000000000000 a)) = true
          · rw [if_pos c2] at h
            cases h
          · rw [if_neg c2] at h
            simp only [Bool.or_eq_true, Bool.not_eq_true', decide_eq_true_eq, not_or, Bool.not_eq_false] at c2
            obtain ⟨c3, _, c4⟩ := c2
            obtain ⟨k2, rfl, k3, k4⟩ := intD_int c4
            have h : itemsR n b (r - 1) = some r' := h
            rw [itemsR_eq] at h
            obtain ⟨is, rfl, l1, l2, g, e⟩ := parse_w ih h
            refine ⟨.loop k2 is, by rw [isStrD_eq c3, It.d, Its.d_map], ⟨k3, k4, l1, l2, g⟩, ?_⟩
            rw [It.ni, Int.natCast_add]
            omega
      · cases h
theorem parse_prog {d : PyData} {r' : Int} (h : itemsR 5 d 60 = some r') : ∃ is : List It, d = .tuple (is.map It.d) ∧ Vp is := by
  have b := itemsR_bound 5 d 60 r' (by decide) h
  rw [itemsR_eq] at h
  obtain ⟨is, rfl, l1, l2, g, e⟩ := parse_w (parse_item 5) h
  exact ⟨is, rfl, l1, l2, g, by omega⟩
/-- is_program's word -/
theorem prog_cases (d : PyData) : (∃ is : List It, d = .tuple (is.map It.d) ∧ Vp is ∧ (itemsR 5 d 60).isSome = true) ∨ (itemsR 5 d 60).isSome = false := by
  cases e : itemsR 5 d 60 with
  | none => exact .inr rfl
  | some r =>
    obtain ⟨is, rfl, v⟩ := parse_prog e
    exact .inl ⟨is, rfl, v, rfl⟩
mutual
theorem It.d_inj : ∀ {i j : It}, It.d i = It.d j → i = j
  | .line x t, .line y u, h => by
    rw [It.d, It.d] at h
    injection h with h
    injection h with _ h
    injection h with h1 h
    injection h with h2 _
    injection h1 with h1
    injection h2 with h2
    rw [h1, h2]
  | .line x t, .loop r is, h => by
    rw [It.d, It.d] at h
    injection h with h
    injection h with h _
    injection h with h
    exact absurd h (by decide)
  | .loop r is, .line x t, h => by
    rw [It.d, It.d] at h
    injection h with h
    injection h with h _
    injection h with h
    exact absurd h (by decide)
  | .loop r is, .loop k js, h => by
    rw [It.d, It.d] at h
    injection h with h
    injection h with _ h
    injection h with h1 h
    injection h with h2 _
    injection h1 with h1
    injection h2 with h2
    rw [h1, Its.d_inj h2]
theorem Its.d_inj : ∀ {is js : List It}, Its.d is = Its.d js → is = js
  | [], [], _ => rfl
  | [], j :: js, h => by
    rw [Its.d, Its.d] at h
    cases h
  | i :: is, [], h => by
    rw [Its.d, Its.d] at h
    cases h
  | i :: is, j :: js, h => by
    rw [Its.d, Its.d] at h
    injection h with h1 h2
    rw [It.d_inj h1, Its.d_inj h2]
end
theorem prog_inj {is js : List It} (h : PyData.tuple (is.map It.d) = .tuple (js.map It.d)) : is = js := by
  injection h with h
  rw [← Its.d_map, ← Its.d_map] at h
  exact Its.d_inj h
end Ev

/-! ## How many items a valid program has, as the law counts them -/
namespace Ev
open PySem PySem.Spec PyProof.Rows L2
def spSzV (K : PySem.W.Frag) (dep : Nat) : Sp := fun vs H Q _ => ∃ (x : V) (is : List It), vs = [x] ∧ Da K H x (.tuple (is.map It.d)) ∧ is.length ≤ 20 ∧ (∀ i ∈ is, Vi dep i) ∧ ∀ H', Same H H' → Q (.int (Its.ni is : Nat)) H'
theorem ni_sumV : ∀ is : List It, (is.map fun i => ((It.ni i : Nat) : Int)).sum = ((Its.ni is : Nat) : Int)
  | [] => by
    rw [Its.ni]
    rfl
  | i :: is => by
    rw [Its.ni, List.map_cons, List.sum_cons, ni_sumV is]
    omega
theorem scSzV : FnScope ["_law_items_here", "_law_item"] ["_law_items_here"] (defScope (topS 27)) := ⟨rfl, rfl, rfl, by decide +kernel, rfl, by decide +kernel, by decide +kernel⟩
section
variable {P : Program} {w : World} {K : PySem.W.Frag} {mg : Str → Option Value} {base : Heap}
theorem sizeV_step {k dep : Nat} {spR : Sp} (D : Def K mg "_law_size" (topS 27) ["_law_items_here"]) (C__law_size : Cal P w K mg base k "_law_size" ["_law_items_here"] spR) (nb : NB mg)
    (hR : dep = 0 ∨ ∃ d, dep = d + 1 ∧ spR = spSzV K d) : Cal P w K mg base (k + 1) "_law_size" ["_law_items_here"] (spSzV K dep) := by
  refine D.ok scSzV (fun vs H Q E h => ?_) (fun f cdv A outer s H vs Q E hr gd h => ?_)
  · obtain ⟨x, is, rfl, _⟩ := h
    rfl
  · obtain ⟨x, is, rfl, hd, hln, hok, q⟩ := h
    refine ⟨_, (pss_one (ps_ret (pe_callB (cr_sum rfl) (by rfl) nb.at (by decide +kernel) (pa_cons (pe_lc (own := [("_law_item", 1)]) (g := (gName 1)) (tt := tYes) (te := (tOp (rI0 fun i j => .int (i + j)) (tC (.int 1)) (tIf (tTest (tOp rEq (tOp (rIxT K) (tVar 1) (tC (.int 0))) (tC (.str "loop")))) (tCall spR [] E0 (tCons (tOp (rIxT K) (tVar 1) (tC (.int 2))) tNil)) (tC (.int 0))))) rfl scSzV.nd (pi_tup (pv 0)) (blkOk_by (N := ["_law_items_here", "_law_item"]) (sc := defScope (topS 27)) (by decide +kernel)) (fun _ _ _ _ _ => (pg_name (i := 1) scSzV.nd rfl (Or.inl rfl))) (fun _ _ _ _ _ => pts_nil) (fun _ _ _ _ _ => (pe_op op_add pe_int (pe_ifExp (pt_cmpR op_eq (pe_ix ix_tup (pv 1) pe_int (fun _ _ => rfl)) pe_str (nomark _)) (pcall C__law_size (hr.mono (by omega)) gd (by rfl) (pa_cons (pe_ix ix_tup (pv 1) pe_int (fun _ _ => rfl)) pa_nil)) pe_int)))) pa_nil)))), ?_⟩
    refine s_ret (g_sum (K := K) (ns := is.map fun i => ((It.ni i : Nat) : Int)) (g_lcT1 (ds := is.map It.d) (hi_tup rfl hd) (by rw [List.length_map]; omega) (by rw [List.length_map, List.length_map, List.length_map]) fun j x' y' d hd' hy' HH R sH hx hR' => ?_)) fun H' u s' e => ?_
    · rw [List.getElem?_map] at hd'
      obtain ⟨it, hit, rfl⟩ := Option.map_eq_some_iff.mp hd'
      rw [List.getElem?_map, List.getElem?_map, hit] at hy'
      cases hy'
      have hmem := List.mem_of_getElem? hit
      cases it with
      | line z t =>
        obtain ⟨b, rfl, hb⟩ := da_line hx
        refine ⟨rfl, _, rfl, b, _, 0, _, rfl, rfl, hb, rfl, rfl, _, rfl, ?_⟩
        rw [show decide (V.str "line" = V.str "loop") = false from decide_eq_false fun h => absurd (V.str.inj h) (by decide)]
        refine iteF ⟨_, _, rfl, rfl, ?_⟩
        have z' := hR' HH Same.rfl'
        dsimp only at z'
        rw [It.ni] at z'
        exact z'
      | loop r js =>
        obtain ⟨d', rfl, hsp⟩ : ∃ d', dep = d' + 1 ∧ spR = spSzV K d' := by
          rcases hR with h | h
          · subst h
            exact (hok _ hmem).elim
          · exact h
        subst hsp
        obtain ⟨_, _, _, l20, hokj⟩ : 1 ≤ r ∧ r ≤ 1000000000000000000 ∧ 1 ≤ js.length ∧ js.length ≤ 20 ∧ ∀ i ∈ js, Vi d' i := hok _ hmem
        obtain ⟨b, v, rfl, hb, hv⟩ := da_loop hx
        refine ⟨rfl, _, rfl, b, _, 0, _, rfl, rfl, hb, rfl, rfl, _, rfl, ?_⟩
        rw [dec_str]
        refine iteT ⟨_, rfl, b, _, 2, _, rfl, rfl, hb, rfl, v, js, rfl, hv, l20, hokj, fun H3 s3 => ⟨_, _, rfl, rfl, ?_⟩⟩
        have z' := hR' H3 s3
        dsimp only at z'
        rw [It.ni] at z'
        exact z'
    · have e : u = _ := e
      subst e
      rw [ni_sumV]
      exact q H' s'
theorem ok_szV (D : Def K mg "_law_size" (topS 27) ["_law_items_here"]) (nb : NB mg) : ∀ dep : Nat, Cal P w K mg base (1 + dep) "_law_size" ["_law_items_here"] (spSzV K dep)
  | 0 => sizeV_step (k := 0) D (no_cal D) nb (.inl rfl)
  | n + 1 => sizeV_step D (ok_szV D nb n) nb (.inr ⟨n, rfl, rfl⟩)
end
end Ev

/-! ## The law's own look at programs -/
namespace Ev
open PySem PySem.Spec PyProof.Rows L2
def lItem (rec : PyData → Bool) (dep : Nat) : PyData → Bool
  | .tuple [.str s, a, b] => if s = "loop" then decide (0 < dep) && (intD 1 1000000000000000000 a && rec b) else decide (s = "line") && (nameD a && intD 1 1000000000000 b)
  | _ => false
def lItems (rec : PyData → Bool) (dep : Nat) : PyData → Bool
  | .tuple ds => decide (1 ≤ ds.length) && (decide (ds.length ≤ 20) && ds.all (lItem rec dep))
  | _ => false
def lItR : Nat → PyData → Bool
  | 0 => lItems (fun _ => false) 0
  | n + 1 => lItems (lItR n) (n + 1)
def lRec : Nat → PyData → Bool
  | 0 => fun _ => false
  | n + 1 => lItR n
theorem lItR_eq (n : Nat) : lItR n = lItems (lRec n) n := by
  cases n <;> rfl
theorem lItem_cons (rec : PyData → Bool) (dep : Nat) (s : Str) (a b : PyData) : lItem rec dep (.tuple [.str s, a, b]) = if s = "loop" then decide (0 < dep) && (intD 1 1000000000000000000 a && rec b) else decide (s = "line") && (nameD a && intD 1 1000000000000 b) := rfl
theorem all_items {f : PyData → Bool} {G : It → Prop} (hf : ∀ d, f d = true → ∃ i, d = It.d i ∧ G i) : ∀ ds : List PyData, ds.all f = true → ∃ is : List It, ds = is.map It.d ∧ ∀ i ∈ is, G i
  | [], _ => ⟨[], rfl, nofun⟩
  | d :: ds, h => by
    rw [List.all_cons, Bool.and_eq_true] at h
    obtain ⟨i, rfl, hi⟩ := hf d h.1
    obtain ⟨is, rfl, his⟩ := all_items hf ds h.2
    refine ⟨i :: is, rfl, fun j hj => ?_⟩
    rcases List.mem_cons.mp hj with rfl | hj
    · exact hi
    · exact his j hj
theorem lItems_it {rec : PyData → Bool} {dep : Nat} {G : It → Prop} {d : PyData} (hf : ∀ d, lItem rec dep d = true → ∃ i, d = It.d i ∧ G i) (h : lItems rec dep d = true) : ∃ is : List It, d = .tuple (is.map It.d) ∧ 1 ≤ is.length ∧ is.length ≤ 20 ∧ ∀ i ∈ is, G i := by
  cases d with
  | tuple ds =>
    have h : (decide (1 ≤ ds.length) && (decide (ds.length ≤ 20) && ds.all (lItem rec dep))) = true := h
    rw [Bool.and_eq_true, Bool.and_eq_true, decide_eq_true_eq, decide_eq_true_eq] at h
    obtain ⟨is, rfl, his⟩ := all_items hf ds h.2.2
    rw [List.length_map] at h
    exact ⟨is, rfl, h.1, h.2.1, his⟩
  | _ => cases h
theorem lItem_it : ∀ (n : Nat) (d : PyData), lItem (lRec n) n d = true → ∃ i, d = It.d i ∧ Vi n i := by
  intro n
  induction n with
  | zero =>
    intro d h
    unfold lItem at h
    split at h
    · rename_i s a b
      by_cases c : s = "loop"
      · rw [if_pos c, decide_eq_false (Nat.lt_irrefl 0), Bool.false_and] at h
        cases h
      · rw [if_neg c, Bool.and_eq_true, Bool.and_eq_true, decide_eq_true_eq] at h
        obtain ⟨rfl, h2, h3⟩ := h
        obtain ⟨t, rfl, t1, t2⟩ := intD_int h3
        cases a with
        | str x => exact ⟨.line x t, by rw [It.d], vi_line.mpr ⟨h2, t1, t2⟩⟩
        | _ => cases h2
    · cases h
  | succ n ih =>
    intro d h
    unfold lItem at h
    split at h
    · rename_i s a b
      by_cases c : s = "loop"
      · rw [if_pos c, Bool.and_eq_true, Bool.and_eq_true] at h
        obtain ⟨_, h2, h3⟩ := h
        obtain ⟨k, rfl, k1, k2⟩ := intD_int h2
        have h3 : lItR n b = true := h3
        rw [lItR_eq] at h3
        obtain ⟨is, rfl, l1, l2, g⟩ := lItems_it ih h3
        exact ⟨.loop k is, by rw [c, It.d, Its.d_map], k1, k2, l1, l2, g⟩
      · rw [if_neg c, Bool.and_eq_true, Bool.and_eq_true, decide_eq_true_eq] at h
        obtain ⟨rfl, h2, h3⟩ := h
        obtain ⟨t, rfl, t1, t2⟩ := intD_int h3
        cases a with
        | str x => exact ⟨.line x t, by rw [It.d], vi_line.mpr ⟨h2, t1, t2⟩⟩
        | _ => cases h2
    · cases h
theorem lItR_it {n : Nat} {d : PyData} (h : lItR n d = true) : ∃ is : List It, d = .tuple (is.map It.d) ∧ 1 ≤ is.length ∧ is.length ≤ 20 ∧ ∀ i ∈ is, Vi n i := by
  rw [lItR_eq] at h
  exact lItems_it (lItem_it n) h
theorem intD_yes {lo hi i : Int} (h1 : lo ≤ i) (h2 : i ≤ hi) : intD lo hi (.int i) = true := by
  show (decide (lo ≤ i) && decide (i ≤ hi)) = true
  rw [decide_eq_true h1, decide_eq_true h2]
  rfl
theorem it_lItem : ∀ (n : Nat) (i : It), Vi n i → lItem (lRec n) n (It.d i) = true
  | n, .line x t, h => by
    have h := vi_line.mp h
    rw [It.d]
    rw [lItem_cons, if_neg (by decide), decide_eq_true rfl, h.1, intD_yes h.2.1 h.2.2]
    rfl
  | 0, .loop r is, h => h.elim
  | n + 1, .loop r is, h => by
    obtain ⟨h1, h2, h3, h4, h5⟩ : 1 ≤ r ∧ r ≤ 1000000000000000000 ∧ 1 ≤ is.length ∧ is.length ≤ 20 ∧ ∀ i ∈ is, Vi n i := h
    rw [It.d, Its.d_map]
    rw [lItem_cons, if_pos rfl, decide_eq_true (Nat.succ_pos n), intD_yes h1 h2, lRec, lItR_eq]
    show (decide (1 ≤ (is.map It.d).length) && (decide ((is.map It.d).length ≤ 20) && (is.map It.d).all (lItem (lRec n) n))) = true
    rw [List.length_map, decide_eq_true h3, decide_eq_true h4, List.all_map, Bool.true_and, Bool.true_and]
    exact List.all_eq_true.mpr fun i hi => it_lItem n i (h5 i hi)
theorem it_lItR {n : Nat} {is : List It} (h3 : 1 ≤ is.length) (h4 : is.length ≤ 20) (h5 : ∀ i ∈ is, Vi n i) : lItR n (.tuple (is.map It.d)) = true := by
  rw [lItR_eq]
  show (decide (1 ≤ (is.map It.d).length) && (decide ((is.map It.d).length ≤ 20) && (is.map It.d).all (lItem (lRec n) n))) = true
  rw [List.length_map, decide_eq_true h3, decide_eq_true h4, List.all_map, Bool.true_and, Bool.true_and]
  exact List.all_eq_true.mpr fun i hi => it_lItem n i (h5 i hi)
def spNu (K : PySem.W.Frag) : Sp := fun vs H Q _ => ∃ (x : V) (d : PyData) (lo hi : Int), vs = [x, .int lo, .int hi] ∧ Da K H x d ∧ Q (.bl (intD lo hi d)) H
def spAr (K : PySem.W.Frag) (n : Nat) : Sp := fun vs H Q _ => ∃ (x : V) (d : PyData), vs = [x, .int (n : Nat)] ∧ Da K H x d ∧ okS d = true ∧ ∀ H', Same H H' → Q (.bl (lItR n d)) H'
def spIi (K : PySem.W.Frag) (n : Nat) : Sp := fun vs H Q _ => ∃ (x : V) (d : PyData), vs = [x, .int (n : Nat)] ∧ Da K H x d ∧ okS d = true ∧ ∀ H', Same H H' → Q (.bl (lItem (lRec n) n d)) H'
def spLip (K : PySem.W.Frag) : Sp := fun vs H Q _ => ∃ (x : V) (d : PyData), vs = [x] ∧ Da K H x d ∧ okS d = true ∧ ∀ H', Same H H' → Q (.bl (itemsR 5 d 60).isSome) H'
theorem scNu : FnScope ["_law_value", "_law_least", "_law_most"] ["_law_value", "_law_least", "_law_most"] (defScope (topS 26)) := ⟨rfl, rfl, rfl, by decide +kernel, rfl, by decide +kernel, by decide +kernel⟩
theorem scAr : FnScope ["_law_value", "_law_deep", "_law_item"] ["_law_value", "_law_deep"] (defScope (topS 28)) := ⟨rfl, rfl, rfl, by decide +kernel, rfl, by decide +kernel, by decide +kernel⟩
theorem scIi : FnScope ["_law_value", "_law_deep", "_law_is_name_own", "_law_sign"] ["_law_value", "_law_deep"] (defScope (topS 29)) := ⟨rfl, rfl, rfl, by decide +kernel, rfl, by decide +kernel, by decide +kernel⟩
theorem scIp : FnScope ["_law_value"] ["_law_value"] (defScope (topS 30)) := ⟨rfl, rfl, rfl, by decide +kernel, rfl, by decide +kernel, by decide +kernel⟩
section
variable {P : Program} {w : World} {K : PySem.W.Frag} {mg : Str → Option Value} {base : Heap}
theorem ok_nu (D : Def K mg "_law_is_number" (topS 26) ["_law_value", "_law_least", "_law_most"]) (nb : NB mg) : Cal P w K mg base 1 "_law_is_number" ["_law_value", "_law_least", "_law_most"] (spNu K) := by
  refine D.ok scNu (fun vs H Q E h => ?_) (fun fa cdv A outer sh H vs Q E hr gd h => ?_)
  · obtain ⟨x, d, lo, hi, rfl, _⟩ := h
    rfl
  · obtain ⟨x, d, lo, hi, rfl, hd, q⟩ := h
    refine ⟨_, (pss_one (ps_ret (pe_and (pe_isT (.inl rfl) nb.at (fun _ => pv 0) (fun _ => ty_of rfl nb.at (by decide +kernel))) (pe_and (pe_not (pe_isT (.inr (.inl rfl)) nb.at (fun _ => pv 0) (fun _ => ty_of rfl nb.at (by decide +kernel)))) (pe_one (pe_chain op_le op_le (pv 1) (pv 0) (pv 2))))))), ?_⟩
    cases d with
    | int i =>
      cases hd
      refine ⟨_, .int i, rfl, .int i, true, congrArg V.bl (by rw [isD_int]), iteT ⟨_, .int i, rfl, .int i, false, congrArg V.bl (by rw [isD_bool]), true, rfl, iteT ⟨_, rfl, _, rfl, _, _, rfl, rfl, _, rfl, ite2 (fun z => ⟨_, rfl, _, _, rfl, rfl, ?_⟩) (fun z => ?_)⟩⟩⟩
      · have e : intD lo hi (.int i) = decide (i ≤ hi) := by
          show (decide (lo ≤ i) && decide (i ≤ hi)) = _
          rw [z, Bool.true_and]
        rw [e] at q
        exact q
      · have e : intD lo hi (.int i) = false := by
          show (decide (lo ≤ i) && decide (i ≤ hi)) = _
          rw [Bool.eq_false_iff.mpr z, Bool.false_and]
        rw [e] at q
        exact q
    | bool b => exact ⟨_, .bool b, rfl, hd, true, congrArg V.bl (by rw [isD_int]), iteT ⟨_, .bool b, rfl, hd, true, congrArg V.bl (by rw [isD_bool]), false, rfl, iteF q⟩⟩
    | none => exact ⟨_, _, rfl, hd, false, congrArg V.bl (by rw [isD_int]), iteF q⟩
    | str _ => exact ⟨_, _, rfl, hd, false, congrArg V.bl (by rw [isD_int]), iteF q⟩
    | list _ => exact ⟨_, _, rfl, hd, false, congrArg V.bl (by rw [isD_int]), iteF q⟩
    | tuple _ => exact ⟨_, _, rfl, hd, false, congrArg V.bl (by rw [isD_int]), iteF q⟩
    | dict _ => exact ⟨_, _, rfl, hd, false, congrArg V.bl (by rw [isD_int]), iteF q⟩
theorem are_step {n k : Nat} (D : Def K mg "_law_are_items" (topS 28) ["_law_value", "_law_deep"]) (C__law_is_item : Cal P w K mg base k "_law_is_item" ["_law_value", "_law_deep"] (spIi K n)) (nb : NB mg) : Cal P w K mg base (k + 1) "_law_are_items" ["_law_value", "_law_deep"] (spAr K n) := by
  refine D.ok scAr (fun vs H Q E h => ?_) (fun fa cdv A outer sh H vs Q E hr gd h => ?_)
  · obtain ⟨x, d, rfl, _⟩ := h
    rfl
  · obtain ⟨x, d, rfl, hd, ho, q⟩ := h
    refine ⟨_, (pss_cons (ps_if (PW.pt (pw_or (pt_not (pt_val (pe_isT (.inr (.inr (.inl rfl))) nb.at (fun _ => pv 0) (fun _ => ty_of rfl nb.at (by decide +kernel))))) (pw_or1 (pt_not (pt_chain op_le op_le pe_int (pe_callB call_len_seq (by rfl) nb.at PySem.boot_len (pa_cons (pv 0) pa_nil)) pe_int)))))
        (pss_one (ps_ret pe_bl))
        pss_nil)
      (pss_one (ps_ret (pe_callB (cr_all rfl) (by rfl) nb.at (by decide +kernel) (pa_cons (pe_lc (own := [("_law_item", 2)]) (g := (gName 2)) (tt := tYes) (te := (tCall (spIi K n) [] E0 (tCons (tVar 2) (tCons (tVar 1) tNil)))) rfl scAr.nd (pi_tup (pv 0)) (blkOk_by (N := ["_law_value", "_law_deep", "_law_item"]) (sc := defScope (topS 28)) (by decide +kernel)) (fun _ _ _ _ _ => (pg_name (i := 2) scAr.nd rfl (Or.inl rfl))) (fun _ _ _ _ _ => pts_nil) (fun _ _ _ _ _ => (pcall C__law_is_item (hr.mono (by omega)) gd (by rfl) (pa_cons (pv 2) (pa_cons (pv 1) pa_nil))))) pa_nil))))), ?_⟩
    have sl := sizeLine_eq
    by_cases ht : ∃ ds, d = .tuple ds
    · obtain ⟨ds, rfl⟩ := ht
      obtain ⟨a, xs, rfl, hx, hxa⟩ := da_prog hd
      have hl := daAll_len hxa
      refine ⟨_, _, rfl, hd, true, congrArg V.bl (by rw [isD_tuple]), iteF ⟨_, rfl, a, xs, rfl, .inr hx, _, _, rfl, rfl, _, rfl, ite2 (fun z => ⟨_, _, rfl, rfl, _, rfl, ite2 (fun z2 => ?_) (fun z2 => ?_)⟩) (fun z => ⟨_, rfl, ?_⟩)⟩⟩
      · have z2 : ¬ ds.length ≤ 20 := fun h => by
          rw [decide_eq_true (by omega)] at z2
          cases z2
        have e : lItR n (.tuple ds) = false := by
          cases y : lItR n (.tuple ds) with
          | false => rfl
          | true =>
            obtain ⟨is, e, _, l2, _⟩ := lItR_it y
            injection e with e
            rw [e, List.length_map] at z2
            omega
        have q := q H Same.rfl'
        rw [e] at q
        exact q
      · have z1 : 1 ≤ ds.length := by
          have := of_decide_eq_true z
          omega
        have z2 : ds.length ≤ 20 := by
          by_cases y : ds.length ≤ 20
          · exact y
          · rw [decide_eq_false (by omega)] at z2
            exact absurd rfl z2
        dsimp only [tNext]
        refine ret_cbB (lcI_tup (ys := (ds.map fun d => lItem (lRec n) n d).map V.bl) (by rw [List.length_map, List.length_map]; omega) (fun Q hq => ⟨_, rfl, hq⟩) hx (by omega) (fun k x y hk hy H' R s' hR => ⟨rfl, ?_⟩) (fun H2 D s2 nD hD => ⟨D, _, rfl, .inl (.inl hD), ?_⟩))
        · obtain ⟨d, hdk, hdv⟩ := daAll_at hxa hk
          rw [List.getElem?_map, List.getElem?_map, hdk] at hy
          cases hy
          exact ⟨_, rfl, _, rfl, x, d, rfl, hdv.mono s', okSs_mem (by rw [okS] at ho; exact ho) d (List.mem_of_getElem? hdk), fun H'' s'' => hR H'' s''⟩
        · have e : lItR n (.tuple ds) = (ds.map fun d => lItem (lRec n) n d).all id := by
            rw [lItR_eq]
            show (decide (1 ≤ ds.length) && (decide (ds.length ≤ 20) && ds.all (lItem (lRec n) n))) = _
            rw [decide_eq_true z1, decide_eq_true z2, Bool.true_and, Bool.true_and, List.all_map]
            rfl
          have q := q H2 s2
          rw [e] at q
          exact q
      · have z1 : ¬ 1 ≤ ds.length := fun h => z (decide_eq_true (by omega))
        have e : lItR n (.tuple ds) = false := by
          cases y : lItR n (.tuple ds) with
          | false => rfl
          | true =>
            obtain ⟨is, e, l1, _, _⟩ := lItR_it y
            injection e with e
            rw [e, List.length_map] at z1
            omega
        have q := q H Same.rfl'
        rw [e] at q
        exact iteT q
    · have e : isD "tuple" d = false := by
        rw [isD_tuple]
        cases d <;> first | rfl | exact absurd ⟨_, rfl⟩ ht
      have e2 : lItR n d = false := by
        cases z : lItR n d with
        | false => rfl
        | true =>
          obtain ⟨is, rfl, _⟩ := lItR_it z
          exact absurd ⟨_, rfl⟩ ht
      have q := q H Same.rfl'
      rw [e2] at q
      exact ⟨_, _, rfl, hd, false, congrArg V.bl e, iteT q⟩
theorem lItem_no3 {rec : PyData → Bool} {dep : Nat} {ds : List PyData} (h : ds.length ≠ 3) : lItem rec dep (.tuple ds) = false := by
  rcases ds with _ | ⟨k, _ | ⟨a, _ | ⟨b, _ | ⟨c, ds⟩⟩⟩⟩
  · rfl
  · cases k <;> rfl
  · cases k <;> rfl
  · exact absurd rfl h
  · cases k <;> rfl
theorem item_step {n k : Nat} {spR : Sp} (hR : n = 0 ∨ ∃ m, n = m + 1 ∧ spR = spAr K m) (D : Def K mg "_law_is_item" (topS 29) ["_law_value", "_law_deep"]) (C__law_is_number : Cal P w K mg base 1 "_law_is_number" ["_law_value", "_law_least", "_law_most"] (spNu K)) (C__law_are_items : Cal P w K mg base (k + 1) "_law_are_items" ["_law_value", "_law_deep"] spR) (nb : NB mg) : Cal P w K mg base (k + 2) "_law_is_item" ["_law_value", "_law_deep"] (spIi K n) := by
  refine D.ok scIi (fun vs H Q E h => ?_) (fun fa cdv A outer sh H vs Q E hr gd h => ?_)
  · obtain ⟨x, d, rfl, _⟩ := h
    rfl
  · obtain ⟨x, d, rfl, hd, ho, q⟩ := h
    refine ⟨_, (pss_cons (ps_if (PW.pt (pw_or (pt_not (pt_val (pe_isT (.inr (.inr (.inl rfl))) nb.at (fun _ => pv 0) (fun _ => ty_of rfl nb.at (by decide +kernel))))) (pw_or (pt_cmpR op_ne (pe_callB call_len_seq (by rfl) nb.at PySem.boot_len (pa_cons (pv 0) pa_nil)) pe_int (nomark _)) (pw_or1 (pt_not (pt_val (pe_callB (call_isE (T := "str") (.inr (.inr (.inr rfl)))) (by rfl) nb.at (by decide +kernel) (pa_cons (pe_ix ix_tup (pv 0) pe_int (fun _ _ => rfl)) (pa_cons (ty_of (T := "str") rfl nb.at (by decide +kernel)) pa_nil)))))))))
        (pss_one (ps_ret pe_bl))
        pss_nil)
      (pss_cons (ps_if (pt_cmpR op_eq (pe_ix ix_tup (pv 0) pe_int (fun _ _ => rfl)) pe_str (nomark _))
        (pss_one (ps_ret (pe_and (pe_cmpR op_gt (pv 1) pe_int (nomark _)) (pe_and (pcall C__law_is_number (hr.mono (by omega)) gd (by rfl) (pa_cons (pe_ix ix_tup (pv 0) pe_int (fun _ _ => rfl)) (pa_cons pe_int (pa_cons (pe_op op_pow pe_int pe_int) pa_nil)))) (pe_one (pcall C__law_are_items (hr.mono (by omega)) gd (by rfl) (pa_cons (pe_ix ix_tup (pv 0) pe_int (fun _ _ => rfl)) (pa_cons (pe_op op_sub (pv 1) pe_int) pa_nil))))))))
        pss_nil)
      (pss_cons (ps_if (PW.pt (pw_or (pt_cmpR op_ne (pe_ix ix_tup (pv 0) pe_int (fun _ _ => rfl)) pe_str (nomark _)) (pw_or (pt_not (pt_val (pe_callB (call_isE (T := "str") (.inr (.inr (.inr rfl)))) (by rfl) nb.at (by decide +kernel) (pa_cons (pe_ix ix_tup (pv 0) pe_int (fun _ _ => rfl)) (pa_cons (ty_of (T := "str") rfl nb.at (by decide +kernel)) pa_nil))))) (pw_or1 (pt_not (pt_chain op_le op_le pe_int (pe_callB call_len_str (by rfl) nb.at (by decide +kernel) (pa_cons (pe_ix ix_tup (pv 0) pe_int (fun _ _ => rfl)) pa_nil)) pe_int))))))
        (pss_one (ps_ret pe_bl))
        pss_nil)
      (pss_cons (ps_set (i := 2) scIi.nd rfl (.inl rfl) (pe_callB (cr_all rfl) (by rfl) nb.at (by decide +kernel) (pa_cons (pe_lc (own := [("_law_sign", 3)]) (g := (gName 3)) (tt := tYes) (te := (tOp rInZ (tVar 3) (tC (.str "abcdefghijklmnopqrstuvwxyz")))) rfl scIi.nd (pi_str (pe_ix ix_tup (pv 0) pe_int (fun _ _ => rfl))) (blkOk_by (N := ["_law_value", "_law_deep", "_law_is_name_own", "_law_sign"]) (sc := defScope (topS 29)) (by decide +kernel)) (fun _ _ _ _ _ => (pg_name (i := 3) scIi.nd rfl (Or.inl rfl))) (fun _ _ _ _ _ => pts_nil) (fun _ _ _ _ _ => (pe_cmpR op_in_sign (pv 3) pe_str rfl))) pa_nil)))
      (pss_one (ps_ret (pe_and (pv 2) (pe_one (pcall C__law_is_number (hr.mono (by omega)) gd (by rfl) (pa_cons (pe_ix ix_tup (pv 0) pe_int (fun _ _ => rfl)) (pa_cons pe_int (pa_cons (pe_op op_pow pe_int pe_int) pa_nil)))))))))))), ?_⟩
    have sl := sizeLine_eq
    have q0 := q H Same.rfl'
    by_cases ht : ∃ ds, d = .tuple ds
    · obtain ⟨ds, rfl⟩ := ht
      obtain ⟨t, xs, rfl, hx, hxa⟩ := da_prog hd
      have hl := daAll_len hxa
      refine ⟨_, _, rfl, hd, true, congrArg V.bl (by rw [isD_tuple]), iteF ⟨_, rfl, t, xs, rfl, .inr hx, rfl, _, rfl, ?_⟩⟩
      by_cases h3 : ds.length = 3
      · rw [show (!decide (V.int ((xs.length : Nat) : Int) = V.int 3)) = false from by rw [decide_eq_true (by rw [hl, h3]; rfl)]; rfl]
        refine iteF ?_
        obtain ⟨kd, ad, bd, rfl⟩ : ∃ kd ad bd, ds = [kd, ad, bd] := by
          rcases ds with _ | ⟨a, _ | ⟨b, _ | ⟨c, _ | ⟨e, ds⟩⟩⟩⟩ <;> simp at h3
          exact ⟨a, b, c, rfl⟩
        have oo : ∀ d ∈ [kd, ad, bd], okS d = true := okSs_mem (by rw [okS] at ho; exact ho)
        obtain ⟨kv, av, bv, rfl, hk, ha, hb⟩ : ∃ kv av bv, xs = [kv, av, bv] ∧ Da K H kv kd ∧ Da K H av ad ∧ Da K H bv bd := by
          cases hxa with
          | cons h1 h2 =>
            cases h2 with
            | cons h2 h3 =>
              cases h3 with
              | cons h3 h4 =>
                cases h4
                exact ⟨_, _, _, rfl, h1, h2, h3⟩
        refine ⟨_, rfl, t, _, 0, kv, rfl, rfl, hx, rfl, kv, kd, rfl, hk, isD "str" kd, rfl, ?_⟩
        by_cases hs : ∃ z, kd = .str z
        · obtain ⟨z, rfl⟩ := hs
          cases hk
          rw [show isD "str" (.str z) = true by rw [isD_str]]
          rw [lItem_cons] at q0 q
          refine iteF ⟨_, rfl, t, _, 0, _, rfl, rfl, hx, rfl, rfl, _, rfl, ?_⟩
          by_cases hlo : z = "loop"
          · subst hlo
            rw [if_pos rfl] at q0 q
            refine iteT ⟨_, rfl, _, _, rfl, rfl, _, rfl, ?_⟩
            rcases hR with rfl | ⟨m, rfl, rfl⟩
            · exact iteF q0
            · rw [show decide ((0 : Int) < ((m + 1 : Nat) : Int)) = true from decide_eq_true (by omega)]
              rw [decide_eq_true (Nat.succ_pos m), Bool.true_and] at q0 q
              refine iteT ⟨_, rfl, t, _, 1, av, rfl, rfl, hx, rfl, 10, 18, rfl, rfl, ⟨by decide, by decide, by decide⟩, av, ad, 1, _, rfl, ha, _, rfl, ?_⟩
              rw [show (10 : Int) ^ (18 : Int).toNat = 1000000000000000000 by decide +kernel]
              cases e : intD 1 1000000000000000000 ad with
              | false =>
                rw [e, Bool.false_and] at q0
                exact iteF q0
              | true =>
                rw [e, Bool.true_and] at q0 q
                exact iteT ⟨_, rfl, t, _, 2, bv, rfl, rfl, hx, rfl, _, rfl, _, _, rfl, rfl, bv, bd, by show [bv, V.int (((m + 1 : Nat) : Int) - 1)] = _; rw [show ((m + 1 : Nat) : Int) - 1 = (m : Nat) by omega], hb, oo bd (by simp), fun H' s' => q H' s'⟩
          · rw [if_neg hlo] at q0 q
            rw [show decide (V.str z = V.str "loop") = false from decide_eq_false fun y => hlo (by injection y)]
            refine iteF ⟨_, rfl, t, _, 0, _, rfl, rfl, hx, rfl, rfl, _, rfl, ?_⟩
            by_cases hli : z = "line"
            · subst hli
              rw [decide_eq_true rfl, Bool.true_and] at q0 q
              refine iteF ⟨_, rfl, t, _, 1, av, rfl, rfl, hx, rfl, av, ad, rfl, ha, isD "str" ad, rfl, ?_⟩
              by_cases hs2 : ∃ y, ad = .str y
              · obtain ⟨y, rfl⟩ := hs2
                cases ha
                have hy : y.length ≤ 1000 := by
                  have := oo (.str y) (by simp)
                  rw [okS] at this
                  exact of_decide_eq_true this
                rw [show isD "str" (.str y) = true by rw [isD_str]]
                have nmE : nameD (.str y) = (decide (1 ≤ y.length) && (decide (y.length ≤ 8) && y.cps.toList.all fun c => decide (97 ≤ c) && decide (c ≤ 122))) := rfl
                refine iteF ⟨_, rfl, t, _, 1, _, rfl, rfl, hx, rfl, ?_⟩
                refine ⟨y, rfl, by omega, _, _, rfl, rfl, _, rfl, ite2 (fun z1 => ⟨_, _, rfl, rfl, _, rfl, ite2 (fun z2 => ?_) (fun z2 => ?_)⟩) (fun z1 => ⟨_, rfl, ?_⟩)⟩
                · have z2 : ¬ y.length ≤ 8 := fun h => by
                    rw [decide_eq_true (by omega)] at z2
                    cases z2
                  rw [nmE, decide_eq_false z2, Bool.false_and, Bool.and_false, Bool.false_and] at q0
                  exact q0
                · have z1 : 1 ≤ y.length := by
                    have := of_decide_eq_true z1
                    omega
                  have z2 : y.length ≤ 8 := by
                    by_cases w : y.length ≤ 8
                    · exact w
                    · rw [decide_eq_false (by omega)] at z2
                      exact absurd rfl z2
                  rw [nmE, decide_eq_true z1, decide_eq_true z2, Bool.true_and, Bool.true_and] at q
                  dsimp only [tNext]
                  refine s_asg (cb_lcB (lcI_str (x := y) (ys := (y.cps.toList.map fun c => decide (97 ≤ c) && decide (c ≤ 122)).map V.bl) (by rw [List.length_map, List.length_map, Array.length_toList]) (by rw [List.length_map, List.length_map, Array.length_toList]; exact Nat.le_trans z2 (by decide)) (fun Q hq => ⟨_, rfl, t, _, 1, _, rfl, rfl, hx, rfl, hq⟩) (fun k c v hk hv H' R s' hR => ⟨rfl, ?_⟩) (fun H2 D s2 nD hD => ⟨D, _, rfl, .inl (.inl hD), ?_⟩)))
                  · rw [List.getElem?_map, List.getElem?_map, Array.getElem?_toList, hk] at hv
                    cases hv
                    refine ⟨_, rfl, c, _, rfl, rfl, ?_⟩
                    rw [az]
                    exact hR _ Same.rfl'
                  · rw [List.all_map]
                    refine ⟨_, rfl, (y.cps.toList.all fun c => decide (97 ≤ c) && decide (c ≤ 122)), rfl, ?_⟩
                    have q := q H2 s2
                    cases e : (y.cps.toList.all fun c => decide (97 ≤ c) && decide (c ≤ 122)) with
                    | false =>
                      rw [e, Bool.false_and] at q
                      exact iteF q
                    | true =>
                      rw [e, Bool.true_and] at q
                      refine iteT ⟨_, rfl, t, _, 2, bv, rfl, rfl, seqT_mono s2 hx, rfl, 10, 12, rfl, rfl, ⟨by decide, by decide, by decide⟩, bv, bd, 1, _, rfl, hb.mono s2, ?_⟩
                      rw [show (10 : Int) ^ (12 : Int).toNat = 1000000000000 by decide +kernel]
                      exact q
                · have z1 : ¬ 1 ≤ y.length := fun h => z1 (decide_eq_true (by omega))
                  rw [nmE, decide_eq_false z1, Bool.false_and, Bool.false_and] at q0
                  exact q0
              · rw [show isD "str" ad = false by rw [isD_str]; cases ad <;> first | rfl | exact absurd ⟨_, rfl⟩ hs2]
                rw [show nameD ad = false by cases ad <;> first | rfl | exact absurd ⟨_, rfl⟩ hs2, Bool.false_and] at q0
                exact iteT (iteT q0)
            · rw [show (!decide (V.str z = V.str "line")) = true from by rw [decide_eq_false fun y => hli (by injection y)]; rfl]
              rw [decide_eq_false hli, Bool.false_and] at q0
              exact iteT (iteT q0)
        · rw [show isD "str" kd = false by rw [isD_str]; cases kd <;> first | rfl | exact absurd ⟨_, rfl⟩ hs]
          rw [show lItem (lRec n) n (.tuple [kd, ad, bd]) = false by cases kd <;> first | rfl | exact absurd ⟨_, rfl⟩ hs] at q0
          exact iteT q0
      · rw [show (!decide (V.int ((xs.length : Nat) : Int) = V.int 3)) = true from by rw [decide_eq_false (fun z => h3 (by have := V.int.inj z; omega))]; rfl]
        rw [lItem_no3 h3] at q0
        exact iteT (iteT q0)
    · have e : isD "tuple" d = false := by
        rw [isD_tuple]
        cases d <;> first | rfl | exact absurd ⟨_, rfl⟩ ht
      have e2 : lItem (lRec n) n d = false := by
        cases d <;> first | rfl | exact absurd ⟨_, rfl⟩ ht
      rw [e2] at q0
      exact ⟨_, _, rfl, hd, false, congrArg V.bl e, iteT (iteT q0)⟩
theorem ok_lar (DI : Def K mg "_law_is_item" (topS 29) ["_law_value", "_law_deep"]) (DA : Def K mg "_law_are_items" (topS 28) ["_law_value", "_law_deep"]) (CN : Cal P w K mg base 1 "_law_is_number" ["_law_value", "_law_least", "_law_most"] (spNu K)) (nb : NB mg) : ∀ n : Nat, Cal P w K mg base (2 * n + 3) "_law_are_items" ["_law_value", "_law_deep"] (spAr K n)
  | 0 => are_step DA (item_step (n := 0) (k := 0) (.inl rfl) DI CN (no_cal DA) nb) nb
  | n + 1 => are_step DA (item_step (n := n + 1) (k := 2 * n + 2) (.inr ⟨n, rfl, rfl⟩) DI CN (ok_lar DI DA CN nb n) nb) nb
theorem ok_lip (D : Def K mg "_law_is_program" (topS 30) ["_law_value"]) (C__law_are_items : Cal P w K mg base 13 "_law_are_items" ["_law_value", "_law_deep"] (spAr K 5)) (C__law_size : Cal P w K mg base 6 "_law_size" ["_law_items_here"] (spSzV K 5)) (nb : NB mg) : Cal P w K mg base 14 "_law_is_program" ["_law_value"] (spLip K) := by
  refine D.ok scIp (fun vs H Q E h => ?_) (fun fa cdv A outer sh H vs Q E hr gd h => ?_)
  · obtain ⟨x, d, rfl, _⟩ := h
    rfl
  · obtain ⟨x, d, rfl, hd, ho, q⟩ := h
    refine ⟨_, (pss_one (ps_ret (pe_and (pcall C__law_are_items (hr.mono (by omega)) gd (by rfl) (pa_cons (pv 0) (pa_cons pe_int pa_nil))) (pe_one (pe_cmpR op_le (pcall C__law_size (hr.mono (by omega)) gd (by rfl) (pa_cons (pv 0) pa_nil)) pe_int (nomark _)))))), ?_⟩
    refine ⟨_, rfl, x, d, rfl, hd, ho, fun H1 s1 => ⟨_, rfl, ?_⟩⟩
    cases e : lItR 5 d with
    | false =>
      have e2 : (itemsR 5 d 60).isSome = false := by
        rcases prog_cases d with ⟨is, rfl, hv, _⟩ | z
        · rw [it_lItR hv.ne hv.le hv.vi] at e
          cases e
        · exact z
      have q := q H1 s1
      rw [e2] at q
      exact iteF q
    | true =>
      obtain ⟨is, rfl, l1, l2, g⟩ := lItR_it e
      refine iteT ⟨_, rfl, x, is, rfl, hd.mono s1, l2, g, fun H2 s2 => ⟨_, _, rfl, rfl, ?_⟩⟩
      · have e2 : (itemsR 5 (.tuple (is.map It.d)) 60).isSome = decide (((Its.ni is : Nat) : Int) ≤ 60) := by
          by_cases h : Its.ni is ≤ 60
          · rw [decide_eq_true (by omega)]
            exact (Vp.mk l1 l2 g h).isP
          · rw [decide_eq_false (by omega)]
            rcases prog_cases (.tuple (is.map It.d)) with ⟨js, ej, hv, _⟩ | z
            · rw [prog_inj ej] at h
              exact absurd hv.ni h
            · exact z
        have q := q H2 (s1.trans s2)
        rw [e2] at q
        exact q
end
end Ev

/-! ## How long a text of data is, element by element -/
namespace Ev
open PySem PySem.Spec PyProof.Rows L2
structure SzL (e w : Nat) (ds : List PyData) : Prop where
  sh : PyData.showableAll ds = true
  ls : PyData.leavesShortAll 1000 ds = true
  dp : PyData.depthAll ds ≤ e
  wt : PyData.weightAll ds ≤ w
theorem szl_nil {e w : Nat} : SzL e w [] := ⟨by rw [PyData.showableAll], by rw [PyData.leavesShortAll], by rw [PyData.depthAll]; exact Nat.zero_le _, by rw [PyData.weightAll]; exact Nat.zero_le _⟩
theorem szl_cons {e w v : Nat} {d : PyData} {ds : List PyData} (h : Sz e v d) (t : SzL e w ds) : SzL e (v + 1 + w) (d :: ds) := by
  refine ⟨by rw [PyData.showableAll, h.sh, t.sh]; rfl, by rw [PyData.leavesShortAll, h.ls, t.ls]; rfl, ?_, ?_⟩
  · rw [PyData.depthAll]
    exact Nat.max_le.mpr ⟨h.dp, t.dp⟩
  · rw [PyData.weightAll]
    have := h.wt
    have := t.wt
    omega
theorem SzL.up {e w e' w' : Nat} {ds : List PyData} (h : SzL e w ds) (he : e ≤ e') (hw : w ≤ w') : SzL e' w' ds := ⟨h.sh, h.ls, Nat.le_trans h.dp he, Nat.le_trans h.wt hw⟩
theorem SzL.tup {e w : Nat} {ds : List PyData} (h : SzL e w ds) : Sz (e + 1) w (.tuple ds) := by
  refine ⟨by rw [PyData.showable]; exact h.sh, by rw [PyData.leavesShort]; exact h.ls, ?_, by rw [PyData.weight]; exact h.wt⟩
  rw [PyData.depth]
  have := h.dp
  omega
theorem SzL.lst {e w : Nat} {ds : List PyData} (h : SzL e w ds) : Sz (e + 1) w (.list ds) := by
  refine ⟨by rw [PyData.showable]; exact h.sh, by rw [PyData.leavesShort]; exact h.ls, ?_, by rw [PyData.weight]; exact h.wt⟩
  rw [PyData.depth]
  have := h.dp
  omega
theorem sz_nat {e w n : Nat} (h : n < 2 ^ 64) (hw : 64 ≤ w) : Sz e w (.int (n : Nat)) := (sz_int (k := 64) (by omega) (by decide) (by decide)).up (Nat.zero_le _) hw
theorem sz_i64 {e w : Nat} {i : Int} (h : i.natAbs < 2 ^ 64) (hw : 64 ≤ w) : Sz e w (.int i) := (sz_int (k := 64) h (by decide) (by decide)).up (Nat.zero_le _) hw
theorem sz_non {e w : Nat} : Sz e w .none := ⟨by rw [PyData.showable], by rw [PyData.leavesShort], by rw [PyData.depth]; exact Nat.zero_le _, by rw [PyData.weight]; exact Nat.zero_le _⟩
theorem sz_bl {e w : Nat} {b : Bool} : Sz e w (.bool b) := ⟨by rw [PyData.showable], by rw [PyData.leavesShort], by rw [PyData.depth]; exact Nat.zero_le _, by rw [PyData.weight]; exact Nat.zero_le _⟩
theorem sz_s8 {e w : Nat} {x : Str} (h : nmB x = true) (hw : 8 ≤ w) : Sz e w (.str x) := (nm_sz h).up (Nat.zero_le _) hw
theorem szl_its {n B : Nat} {is : List It} (h : ∀ i ∈ is, Okp B n i) (hm : Its.nm is) : SzL (2 * n + 1) (165 * Its.ni is) (is.map It.d) := by
  obtain ⟨h1, h2, h3, h4⟩ := Its.szd n B is h hm
  exact ⟨h1, h2, h3, h4⟩
end Ev

/-! ## How long the text of a program is -/
namespace Ev
open PySem PySem.Spec PyProof.Rows L2
theorem nameD_nm {x : Str} (h : nameD (.str x) = true) : nmB x = true := by
  have h : (decide (1 ≤ x.length) && (decide (x.length ≤ 8) && x.cps.toList.all fun c => decide (97 ≤ c) && decide (c ≤ 122))) = true := h
  rw [Bool.and_eq_true, Bool.and_eq_true, decide_eq_true_eq, decide_eq_true_eq, List.all_eq_true] at h
  obtain ⟨_, h2, h3⟩ := h
  have h4 : ∀ c ∈ x.cps.toList, c ≤ 122 := fun c hc => by
    have := h3 c hc
    rw [Bool.and_eq_true, decide_eq_true_eq, decide_eq_true_eq] at this
    exact this.2
  unfold nmB
  rw [Bool.and_eq_true, Bool.and_eq_true]
  refine ⟨⟨decide_eq_true h2, List.all_eq_true.mpr fun c hc => decide_eq_true ?_⟩, ?_⟩
  · have := h4 c hc
    have e : (16 : Nat) ^ 8 = 4294967296 := by decide
    omega
  · unfold PyData.strOk
    rw [← Array.all_toList]
    exact List.all_eq_true.mpr fun c hc => decide_eq_true (by have := h4 c hc; omega)
mutual
theorem vi_nm : ∀ (n : Nat) (i : It), Vi n i → It.nm i
  | n, .line x t, h => by
    have h := vi_line.mp h
    rw [It.nm]
    have e : (2 : Nat) ^ 128 = 340282366920938463463374607431768211456 := by decide +kernel
    exact ⟨nameD_nm h.1, by omega⟩
  | 0, .loop r is, h => h.elim
  | n + 1, .loop r is, h => by
    obtain ⟨h1, h2, _, _, h5⟩ : 1 ≤ r ∧ r ≤ 1000000000000000000 ∧ 1 ≤ is.length ∧ is.length ≤ 20 ∧ ∀ i ∈ is, Vi n i := h
    rw [It.nm]
    have e : (2 : Nat) ^ 128 = 340282366920938463463374607431768211456 := by decide +kernel
    exact ⟨by omega, vis_nm n is h5⟩
theorem vis_nm : ∀ (n : Nat) (is : List It), (∀ i ∈ is, Vi n i) → Its.nm is
  | _, [], _ => by
    rw [Its.nm]
    trivial
  | n, i :: is, h => by
    rw [Its.nm]
    exact ⟨vi_nm n i (h i (List.mem_cons_self ..)), vis_nm n is fun j hj => h j (List.mem_cons_of_mem _ hj)⟩
end
theorem ni_sub_take (is : List It) (k : Nat) : Its.ni (is.take k) ≤ Its.ni is := by
  have z := congrArg Its.ni (List.take_append_drop k is)
  rw [ni_app] at z
  omega
theorem ni_sub_drop (is : List It) (k : Nat) : Its.ni (is.drop k) ≤ Its.ni is := by
  have z := congrArg Its.ni (List.take_append_drop k is)
  rw [ni_app] at z
  omega
theorem Vp.szl {is : List It} (h : Vp is) : SzL 11 9900 (is.map It.d) := (szl_its (n := 5) (fun i hi => vi_okp 5 i (h.vi i hi)) (vis_nm 5 is h.vi)).up (by decide) (by have := h.ni; omega)
theorem Vp.sz {is : List It} (h : Vp is) : Sz 12 9900 (.tuple (is.map It.d)) := h.szl.tup
theorem Vp.szl_part {is : List It} (h : Vp is) (a b : Nat) : SzL 11 9900 (((is.map It.d).drop a).take b) := by
  rw [← List.map_drop, ← List.map_take]
  have hm : ∀ i ∈ (is.drop a).take b, i ∈ is := fun i hi => List.mem_of_mem_drop (List.mem_of_mem_take hi)
  refine (szl_its (n := 5) (fun i hi => vi_okp 5 i (h.vi i (hm i hi))) (vis_nm 5 _ fun i hi => h.vi i (hm i hi))).up (by decide) ?_
  have := h.ni
  have := ni_sub_take (is.drop a) b
  have := ni_sub_drop is a
  omega
end Ev
namespace Ev
open PySem PySem.Spec PyProof.Rows L2
mutual
theorem It.lay0 : ∀ i : It, It.nm i → PyData.canLay0 (It.d i) = true
  | .line x t, h => by
    rw [It.nm] at h
    rw [It.d, PyData.canLay0, PyData.canLayAll0, PyData.canLayAll0, PyData.canLayAll0, PyData.canLayAll0, PyData.canLay0, PyData.canLay0, PyData.canLay0, nm_ok h.1]
    decide +kernel
  | .loop r is, h => by
    rw [It.nm] at h
    rw [It.d, PyData.canLay0, PyData.canLayAll0, PyData.canLayAll0, PyData.canLayAll0, PyData.canLayAll0, PyData.canLay0, PyData.canLay0, PyData.canLay0, Its.lay0 is h.2]
    decide +kernel
theorem Its.lay0 : ∀ is : List It, Its.nm is → PyData.canLayAll0 (Its.d is) = true
  | [], _ => by rw [Its.d, PyData.canLayAll0]
  | i :: is, h => by
    rw [Its.nm] at h
    rw [Its.d, PyData.canLayAll0, It.lay0 i h.1, Its.lay0 is h.2]
    rfl
end
theorem Vp.shaped {is : List It} (h : Vp is) : SeqAt.shaped (.tuple (is.map It.d)) = true := by
  have z := Its.lay0 is (vis_nm 5 is h.vi)
  have d := h.szl.dp
  unfold SeqAt.shaped
  rw [PyData.canLay0, ← Its.d_map, z, PyData.depth, Its.d_map, Bool.true_and]
  exact decide_eq_true (by omega)
end Ev

/-! ## The text of data may be compared: all its signs are signs -/
namespace Ev
open PySem PySem.Spec PyProof.Rows L2
def cpOk (x : Str) : Prop := ∀ c ∈ x.cps.toList, c < 1114112
theorem cpOk.so {x : Str} (h : cpOk x) : PyData.strOk x = true := by
  unfold PyData.strOk
  rw [← Array.all_toList]
  exact List.all_eq_true.mpr fun c hc => decide_eq_true (h c hc)
theorem cpOk.of {x : Str} (h : PyData.strOk x = true) : cpOk x := by
  unfold PyData.strOk at h
  rw [← Array.all_toList] at h
  exact fun c hc => of_decide_eq_true (List.all_eq_true.mp h c hc)
theorem cpOk.app {x y : Str} (h : cpOk x) (k : cpOk y) : cpOk (x ++ y) := fun c hc => by
  rw [PySem.Str.cps_append, Array.toList_append] at hc
  rcases List.mem_append.mp hc with hc | hc
  · exact h c hc
  · exact k c hc
theorem chr_lt (c : Char) : c.toNat < 1114112 := by
  have h := c.valid
  unfold UInt32.isValidChar Nat.isValidChar at h
  have e : c.toNat = c.val.toNat := rfl
  omega
theorem cpOk.os (s : String) : cpOk (Str.ofString s) := fun c hc => by
  rw [Str.ofString_eq_toList] at hc
  obtain ⟨d, _, rfl⟩ := List.mem_map.mp hc
  exact chr_lt d
theorem cpOk.join : ∀ {ts : List Str}, (∀ t ∈ ts, cpOk t) → cpOk (Str.join ", " ts)
  | [], _ => fun c hc => by
    have : c ∈ ([] : List Nat) := hc
    cases this
  | [t], h => h t (List.mem_cons_self ..)
  | t :: u :: r, h => ((h t (List.mem_cons_self ..)).app (.os _)).app (cpOk.join fun x hx => h x (List.mem_cons_of_mem _ hx))
theorem cpOk.tup {ts : List Str} (h : ∀ t ∈ ts, cpOk t) : cpOk (tupleText ts) := by
  unfold tupleText
  refine ((cpOk.os _).app (.join h)).app ?_
  split <;> exact cpOk.os _
theorem rchr_lt {q c : Nat} (hc : c < 1114112) : ∀ x ∈ Builtin.Str.reprChar q c, x < 1114112 := by
  have hd : ∀ w : Nat, ∀ y ∈ List.replicate (w - ((Nat.toDigits 16 c).map Char.toNat).length) 48 ++ (Nat.toDigits 16 c).map Char.toNat, y < 1114112 := fun w y hy => by
    rcases List.mem_append.mp hy with hy | hy
    · rw [List.eq_of_mem_replicate hy]
      decide
    · obtain ⟨d, _, rfl⟩ := List.mem_map.mp hy
      exact chr_lt d
  intro x hx
  unfold Builtin.Str.reprChar at hx
  have two : ∀ a b : Nat, a < 1114112 → b < 1114112 → x ∈ [a, b] → x < 1114112 := fun a b ha hb h => by
    simp only [List.mem_cons, List.not_mem_nil, or_false] at h
    rcases h with rfl | rfl
    · exact ha
    · exact hb
  dsimp only at hx
  split at hx
  · exact two _ _ (by decide) hc hx
  split at hx
  · exact two _ _ (by decide) (by decide) hx
  split at hx
  · exact two _ _ (by decide) (by decide) hx
  split at hx
  · exact two _ _ (by decide) (by decide) hx
  split at hx
  · rw [List.mem_singleton.mp hx]
    exact hc
  split at hx
  · rcases List.mem_append.mp hx with hx | hx
    · exact two _ _ (by decide) (by decide) hx
    · exact hd 2 x hx
  split at hx
  · rcases List.mem_append.mp hx with hx | hx
    · exact two _ _ (by decide) (by decide) hx
    · exact hd 4 x hx
  · rcases List.mem_append.mp hx with hx | hx
    · exact two _ _ (by decide) (by decide) hx
    · exact hd 8 x hx
theorem cpOk.rt {x : Str} (h : cpOk x) : cpOk (reprText x) := by
  have hq : reprQuote x < 1114112 := by
    unfold reprQuote
    split <;> decide
  have go : ∀ (l : List Nat) (acc : Array Nat), (∀ c ∈ acc.toList, c < 1114112) → (∀ c ∈ l, c < 1114112) → ∀ c ∈ (l.foldl (fun out c => out ++ (Builtin.Str.reprChar (reprQuote x) c).toArray) acc).toList, c < 1114112 := fun l => by
    induction l with
    | nil => exact fun acc ha _ => ha
    | cons d l ih =>
      intro acc ha hl
      rw [List.foldl_cons]
      refine ih _ (fun c hc => ?_) fun c hc => hl c (List.mem_cons_of_mem _ hc)
      rw [Array.toList_append] at hc
      rcases List.mem_append.mp hc with hc | hc
      · exact ha c hc
      · exact rchr_lt (hl d (List.mem_cons_self ..)) c hc
  intro c hc
  unfold reprText at hc
  dsimp only at hc
  rw [Array.toList_push, ← Array.foldl_toList] at hc
  rcases List.mem_append.mp hc with hc | hc
  · refine go x.cps.toList #[reprQuote x] (fun d hd => ?_) h c hc
    have hd : d ∈ [reprQuote x] := hd
    rw [List.mem_singleton.mp hd]
    exact hq
  · rw [List.mem_singleton.mp hc]
    exact hq
/-! the signs of data of tuples, numbers and texts -/
mutual
def leafOk : PyData → Bool
  | .none => true
  | .bool _ => true
  | .int _ => true
  | .str x => PyData.strOk x
  | .tuple ds => leafOks ds
  | .list _ => false
  | .dict _ => false
def leafOks : List PyData → Bool
  | [] => true
  | d :: ds => leafOk d && leafOks ds
end
mutual
theorem shown_ok : ∀ d : PyData, leafOk d = true → cpOk d.shown
  | .none, _ => .os _
  | .bool b, _ => by
    rw [PyData.shown]
    split <;> exact cpOk.os _
  | .int i, _ => .os _
  | .str x, h => by
    rw [leafOk] at h
    rw [PyData.shown]
    exact (cpOk.of h).rt
  | .tuple ds, h => by
    rw [leafOk] at h
    rw [PyData.shown]
    exact cpOk.tup (showns_ok ds h)
  | .list _, h => by
    rw [leafOk] at h
    cases h
  | .dict _, h => by
    rw [leafOk] at h
    cases h
theorem showns_ok : ∀ ds : List PyData, leafOks ds = true → ∀ t ∈ PyData.shownAll ds, cpOk t
  | [], _ => fun t ht => by
    rw [PyData.shownAll] at ht
    cases ht
  | d :: ds, h => fun t ht => by
    rw [leafOks, Bool.and_eq_true] at h
    rw [PyData.shownAll] at ht
    rcases List.mem_cons.mp ht with rfl | ht
    · exact shown_ok d h.1
    · exact showns_ok ds h.2 t ht
end
mutual
theorem It.leaf : ∀ i : It, PyData.canLay0 (It.d i) = true → leafOk (It.d i) = true
  | .line x t, h => by
    rw [It.d, PyData.canLay0, PyData.canLayAll0, PyData.canLayAll0, PyData.canLayAll0, PyData.canLayAll0, PyData.canLay0, PyData.canLay0, PyData.canLay0] at h
    rw [It.d, leafOk, leafOks, leafOks, leafOks, leafOks, leafOk, leafOk, leafOk]
    exact h
  | .loop r is, h => by
    rw [It.d, PyData.canLay0, PyData.canLayAll0, PyData.canLayAll0, PyData.canLayAll0, PyData.canLayAll0, PyData.canLay0, PyData.canLay0, PyData.canLay0] at h
    rw [It.d, leafOk, leafOks, leafOks, leafOks, leafOks, leafOk, leafOk, leafOk]
    rw [Bool.and_eq_true, Bool.and_eq_true, Bool.and_eq_true] at h ⊢
    exact ⟨h.1, h.2.1, Its.leaf is h.2.2.1, rfl⟩
theorem Its.leaf : ∀ is : List It, PyData.canLayAll0 (Its.d is) = true → leafOks (Its.d is) = true
  | [], _ => by rw [Its.d, leafOks]
  | i :: is, h => by
    rw [Its.d, PyData.canLayAll0, Bool.and_eq_true] at h
    rw [Its.d, leafOks, Bool.and_eq_true]
    exact ⟨It.leaf i h.1, Its.leaf is h.2⟩
end
end Ev

/-! ## k60: a page is right -/
namespace Ev
open PySem PySem.Spec PyProof.Rows L2
open LamX (CodeO TabS Tabs ExtN TabB tLam)
abbrev qRi : Str := (envOfC "_law_right" (defScope (topS 35)) 0 0 .none).qual ++ "<lambda>"
def spRi60 (K : PySem.W.Frag) (Pt : Addr) : Sp := fun vs H Q _ => ∃ (v : V) (dd : PyData), vs = [v] ∧ Da K H v dd ∧ (∀ z, dd = .str z → z.length ≤ 100000 ∧ Lim (TL.tl z)) ∧ TabS H Pt qRi ∧ ∀ H', ExtN H H' → TabS H' Pt qRi → Q (.bl true) H'
theorem wr_le : ∀ (l : List Nat) (s : Sg) (op a e : Nat), goG s op l a = some e → e ≤ a + l.length
  | [], s, op, a, e, h => by
    rw [goG] at h
    by_cases z : op = 0 ∧ s.fin = true
    · rw [if_pos z] at h
      cases h
    · rw [if_neg z] at h
      cases h
      exact Nat.le_refl _
  | c :: cs, s, op, a, e, h => by
    rw [goG] at h
    cases hx : nxG s op c with
    | none =>
      rw [hx] at h
      cases h
      exact Nat.le_add_right ..
    | some x =>
      rw [hx] at h
      have := wr_le cs _ _ _ _ h
      rw [List.length_cons]
      omega
theorem okS_int6 (t : Int) : okS (.int t) = true := by
  rw [okS]
  all_goals (intros; contradiction)
theorem okS_str6 (x : Str) (h : x.length ≤ 1000) : okS (.str x) = true := by
  rw [okS]
  exact decide_eq_true h
theorem okSs_of6 : ∀ {is : List It}, (∀ i ∈ is, okS (It.d i) = true) → okSs (Its.d is) = true
  | [], _ => by rw [Its.d, okSs]
  | i :: is, h => by
    rw [Its.d, okSs, h i (List.mem_cons_self ..), okSs_of6 fun j hj => h j (List.mem_cons_of_mem _ hj)]
    rfl
theorem vt_okS : ∀ (n : Nat) (i : It), Vt n i → okS (It.d i) = true
  | n, .line x t, h => by
    obtain ⟨h1, _, _⟩ := vt_line.mp h
    have e2 : okS (.str "line") = true := by decide +kernel
    rw [It.d, okS, okSs, okSs, okSs, okSs, e2, okS_str6 x (Nat.le_trans h1.2.1 (by decide)), okS_int6]
    rfl
  | 0, .loop r is, h => h.elim
  | n + 1, .loop r is, h => by
    obtain ⟨_, _, _, _, hg⟩ := h
    have e2 : okS (.str "loop") = true := by decide +kernel
    have e4 : okS (.tuple (Its.d is)) = true := by
      rw [okS]
      exact okSs_of6 fun i hi => vt_okS n i (hg i hi)
    rw [It.d, okS, okSs, okSs, okSs, okSs, e2, okS_int6, e4]
    rfl
theorem vt_vi : ∀ (n : Nat) (i : It), Vt n i → Vi n i
  | n, .line x t, h => by
    obtain ⟨h1, h2⟩ := vt_line.mp h
    refine vi_line.mpr ⟨?_, h2⟩
    show (decide (1 ≤ x.length) && (decide (x.length ≤ 8) && x.cps.toList.all fun c => decide (97 ≤ c) && decide (c ≤ 122))) = true
    rw [Bool.and_eq_true, Bool.and_eq_true, decide_eq_true_eq, decide_eq_true_eq, List.all_eq_true]
    exact ⟨h1.1, h1.2.1, h1.2.2⟩
  | 0, .loop r is, h => h.elim
  | n + 1, .loop r is, h => ⟨h.1, h.2.1, h.2.2.1, h.2.2.2.1, fun i hi => vt_vi n i (h.2.2.2.2 i hi)⟩
theorem vt_isP {is : List It} (h1 : 1 ≤ is.length) (h2 : is.length ≤ 20) (h3 : ∀ i ∈ is, Vt 5 i) (h4 : Its.ni is ≤ 60) : (itemsR 5 (.tuple (is.map It.d)) 60).isSome = true :=
  Vp.isP ⟨h1, h2, fun i hi => vt_vi 5 i (h3 i hi), h4⟩
theorem sz_tx {n : Nat} (h : n < 2 ^ 64) : Sz 1 130 (.tuple [.str "text", .int (n : Nat)]) :=
  sz_tup (e := 0) (w := 64) (ds := [.str "text", .int (n : Nat)]) fun d hd => by
    simp only [List.mem_cons, List.not_mem_nil, or_false] at hd
    rcases hd with rfl | rfl
    · exact (sz_str (n := 4) (by decide +kernel) (by decide +kernel)).up (Nat.le_refl _) (by decide)
    · exact sz_nat h (Nat.le_refl _)
theorem isD_nos {dd : PyData} (no : ∀ z, dd ≠ .str z) : isD "str" dd = false := by
  rw [isD_str]
  cases dd <;> first | rfl | exact absurd rfl (no _)
theorem scRi6 : FnScope ["_law_page", "_law_due", "_law_told"] ["_law_page"] (defScope (topS 35)) := ⟨rfl, rfl, rfl, by decide +kernel, rfl, by decide +kernel, by decide +kernel⟩
section
variable {P : Program} {w : World} {K : PySem.W.Frag} {mg : Str → Option Value} {base : Heap} {c Pt cS cB cP cC : Addr}
theorem ok_ri60 (hm : ∃ mm, base.Ns sysModules mm) (TB : TabB base mg c Pt) (Z : TxC K mg cS cB cP cC) (D : DefC K mg "_law_right" (topS 35) ["_law_page"] c) (D__law_text_caught : Def K mg "_law_text_caught" (topS 31) ["_law_call"]) (X_read_program : CalN (L2.CX P w) P w K mg base 16 "read_program" ["text"] (spRp K cB))
    (C__law_wrong_at : Cal P w K mg base 2 "_law_wrong_at" ["_law_page"] (spWr60 K)) (C__law_is_program : Cal P w K mg base 15 "_law_is_program" ["_law_value"] (spLip K)) (C__law_text : Cal P w K mg base 6 "_law_text" ["_law_items_here"] (spTxL K 5)) (nb : NB mg) :
    Cal P w K mg base 19 "_law_right" ["_law_page"] (spRi60 K Pt) := by
  refine D.ok scRi6 (fun vs H Q E h => ?_) (fun f A outer s H vs Q E hr gd h => ?_)
  · obtain ⟨v, dd, rfl, _⟩ := h
    rfl
  · obtain ⟨v, dd, rfl, hd, hz, hT, q⟩ := h
    refine ⟨_, (pss_cons (ps_set (i := 1) scRi6.nd rfl (.inl rfl) (pe_ifExp (pt_val (pe_isT (.inr (.inr (.inr rfl))) nb.at (fun _ => pv 0) (fun _ => ty_of rfl nb.at (by decide +kernel)))) (pcall C__law_wrong_at (hr.mono (by omega)) gd (by rfl) (pa_cons (pv 0) pa_nil)) pe_int))
      (pss_cons (ps_set (i := 2) scRi6.nd rfl (.inl rfl) (pe_lamD (k := 16) D__law_text_caught (by rfl) scCx rfl (.inl rfl) (text_gives Z nb) TB rfl (hr.mono (by omega)) (LamX.lamS_by (sc := defScope (topS 35)) (by decide +kernel)) rfl rfl (fun _ _ _ _ _ => rfl) (fun A1 outer1 s1 H1 E1 f1 c1 hr1 => (pcallN X_read_program (hr1.mono (by omega)) (by rfl) (takes_of rfl rfl rfl rfl) (fun _ _ _ _ h => h) (pa_cons (pv 0) pa_nil)))))
      (pss_cons (ps_if (pt_cmp (pc_notN (pv 1)) rfl)
        (pss_one (ps_ret (pe_cmpR op_eq (pe_callB (call_reprA hm gd (hu70 hr)) (by rfl) nb.at (by decide +kernel) (pa_cons (pv 2) pa_nil)) (pe_callB (call_reprA hm gd (hu70 hr)) (by rfl) nb.at (by decide +kernel) (pa_cons (pe_tup (pa_cons pe_str (pa_cons (pv 1) pa_nil))) pa_nil)) (nomark _))))
        pss_nil)
      (pss_one (ps_ret (pe_and (pe_cmpR op_eq (pe_ix ix_tup (pv 2) pe_int (fun _ _ => rfl)) pe_str (nomark _)) (pe_and (pcall C__law_is_program (hr.mono (by omega)) gd (by rfl) (pa_cons (pe_ix ix_tup (pv 2) pe_int (fun _ _ => rfl)) pa_nil)) (pe_one (pe_cmpR op_eq (pcall C__law_text (hr.mono (by omega)) gd (by rfl) (pa_cons (pe_ix ix_tup (pv 2) pe_int (fun _ _ => rfl)) pa_nil)) (pv 0) (nomark _)))))))))), ?_⟩
    have y := sizeLine_eq
    have fin : ∀ (H2 : Hp) (n : Nat) (t : Addr), ExtN H H2 → TabS H2 Pt qRi → n < 2 ^ 64 → H2 t = some (.tup [.str "text", .int (n : Nat)]) → ∀ (rest : TS) (D : Ends), D.rt = Q → tSeq (tIfS (tB (tNotN (tVar 1))) (tRet (tOp rEq (tCB (rReprA K) (tCons (tVar 2) tNil)) (tCB (rReprA K) (tCons (tTup (tCons (tC (V.str "text")) (tCons (tVar 1) tNil))) tNil)))) tNext) rest D [some v, some (.int (n : Nat)), some (.ref t)] H2 := by
      intro H2 n t x2 T2 hn ht rest D hD
      obtain ⟨z1, z2, z3⟩ := (sz_tx hn).fits (by decide) (by decide)
      have hdt : Da K H2 (.ref t) (.tuple [.str "text", .int (n : Nat)]) := .tup (.inl (.inl ht)) (.cons (.str _) (.cons (.int _) .nil))
      refine ⟨_, rfl, true, congrArg V.bl (by rw [decide_eq_false nofun]; rfl), iteT ?_⟩
      refine ⟨_, rfl, _, _, rfl, hdt, z1, z2, z3, _, rfl, (by show 2 ≤ sizeLine; decide), fun t2 nt2 => ?_⟩
      have s2 := same_put (o := .tup [.str "text", .int (n : Nat)]) nt2
      refine ⟨_, _, rfl, .tup (.inl (.inl upd_same)) (.cons (.str _) (.cons (.int _) .nil)), z1, z2, z3, rfl, ?_⟩
      show D.rt _ _
      rw [hD, decide_eq_true rfl]
      exact q _ (x2.trans (.of s2)) (T2.ext s2)
    have e264 : 100000 < 2 ^ 64 := by decide +kernel
    by_cases hs : ∃ z, dd = .str z
    · obtain ⟨z, rfl⟩ := hs
      cases hd
      obtain ⟨hzl, W, hW, hL⟩ := hz z rfl
      have hwr := rdP_go hW hL
      refine ⟨_, .str z, rfl, .str z, true, congrArg V.bl (by rw [isD_str]), iteT ⟨_, rfl, z, rfl, by omega, fun H1 s1 => ?_⟩⟩
      have T1 := hT.ext s1
      refine ⟨T1, fun H2 x2 T2 => fun H3 R s3 hR => ?_⟩
      refine ⟨_, rfl, _, .str z, rfl, .str z, fun z' e => ?_, fun no => (no _ rfl).elim⟩
      injection e with e
      subst e
      refine ⟨by omega, ?_⟩
      cases hP : rdP (TL.tl z) with
      | ok is =>
        rw [hP] at hwr
        have ew : wrV (wrongG (TL.tl z)) = V.non := by
          rw [show wrongG (TL.tl z) = none from hwr]
          rfl
        obtain ⟨r1, r2, r3, r4, r5⟩ := rdP_is hP
        intro H4 u s4 hu
        refine hR _ _ fun H5 t s5 ht => ?_
        have s35 := s3.trans (s4.trans s5)
        have hu5 := hu.mono s5
        have sq : SqT K H5 t [.str "told", u] := .inl (.inl ht)
        refine ⟨_, rfl, false, congrArg V.bl (by rw [decide_eq_true ew]; rfl), iteF ?_⟩
        refine ⟨_, rfl, t, _, 0, _, rfl, rfl, sq, rfl, rfl, true, congrArg V.bl ((decS _ _).trans (decide_eq_true rfl)), iteT ?_⟩
        refine ⟨_, rfl, t, _, 1, _, rfl, rfl, sq, rfl, u, _, rfl, hu5, ?_, fun H6 s6 => ?_⟩
        · rw [← Its.d_map, okS]
          exact okSs_of6 fun i hi => vt_okS 5 i (r4 i hi)
        refine ⟨true, congrArg V.bl (vt_isP r2 r3 r4 r5), iteT ?_⟩
        refine ⟨_, rfl, t, _, 1, _, rfl, rfl, seqT_mono s6 sq, rfl, u, is, rfl, hu5.mono s6, r4, by omega, fun H7 s7 => ?_⟩
        refine ⟨_, rfl, rfl, ?_⟩
        have ez : mkS (Its.tx is) = z := (mkS_eq r1.symm).symm
        rw [ez, decide_eq_true rfl]
        have s57 := s35.trans (s6.trans s7)
        exact q _ (((ExtN.of s1).trans x2).trans (.of s57)) (T2.ext s57)
      | error n =>
        rw [hP] at hwr
        have ew : wrV (wrongG (TL.tl z)) = V.int (n : Nat) := by
          rw [show wrongG (TL.tl z) = some n from hwr]
          rfl
        have hn := wr_le _ _ _ _ _ (show goG .start 0 (TL.tl z) 0 = some n from hwr)
        intro H4 dd s4 hdd
        refine ⟨dd, n, rfl, rfl, hdd, fun H5 t s5 ht => ?_⟩
        have s35 := s3.trans (s4.trans s5)
        rw [ew]
        exact fin H5 n t (((ExtN.of s1).trans x2).trans (.of s35)) (T2.ext s35) (by have : z.length = (TL.tl z).length := TL.len_tl ..; omega) ht _ _ rfl
    · have no : ∀ z, dd ≠ .str z := fun z e => hs ⟨z, e⟩
      refine ⟨_, dd, rfl, hd, false, congrArg V.bl (isD_nos no), iteF ?_⟩
      refine ⟨hT, fun H2 x2 T2 => fun H3 R s3 hR => ?_⟩
      refine ⟨_, rfl, _, dd, rfl, ?_, fun z' e => absurd e (no _), fun _ => ?_⟩
      · exact (hd.ext x2).mono s3
      intro H4 d4 s4 hd4
      refine ⟨d4, 0, rfl, rfl, hd4, fun H5 t s5 ht => ?_⟩
      have s35 := s3.trans (s4.trans s5)
      exact fin H5 0 t (x2.trans (.of s35)) (T2.ext s35) (by decide) ht _ _ rfl
end
end Ev

/-! ## What the script is drawn from -/
namespace Ev
open PySem PySem.Spec PyProof.Rows L2
theorem scSt : FnScope ["_law_script", "_law_k", "_law_cell", "_law_own"] ["_law_script", "_law_k"] (defScope (topS 20)) := ⟨rfl, rfl, rfl, by decide +kernel, rfl, by decide +kernel, by decide +kernel⟩
theorem scDr : FnScope ["_law_stream_here", "_law_many", "_law_digit", "_law_prime", "_law_mixed"] ["_law_stream_here", "_law_many"] (defScope (topS 21)) := ⟨rfl, rfl, rfl, by decide +kernel, rfl, by decide +kernel, by decide +kernel⟩
theorem scPk : FnScope ["_law_stream_here", "_law_some"] ["_law_stream_here", "_law_some"] (defScope (topS 22)) := ⟨rfl, rfl, rfl, by decide +kernel, rfl, by decide +kernel, by decide +kernel⟩
theorem bigS : (0 : Int) < (10 ^ (60 : Int).toNat) ^ (5 : Int).toNat := by decide +kernel
section
variable {P : Program} {w : World} {K : PySem.W.Frag} {mg : Str → Option Value} {base : Heap}
theorem ok_stream (D : Def K mg "_law_stream" (topS 20) ["_law_script", "_law_k"]) (nb : NB mg) : Cal P w K mg base 1 "_law_stream" ["_law_script", "_law_k"] (spPotS K) := by
  refine D.ok scSt (fun vs H Q E h => ?_) (fun f cdv A outer s H vs Q E hr gd h => ?_)
  · obtain ⟨a, ns, k, rfl, _⟩ := h
    rfl
  · obtain ⟨a, ns, k, rfl, hS, k0, k1, q⟩ := h
    refine ⟨_, (pss_cons (ps_set (i := 2) scSt.nd rfl (.inl rfl) (pe_ifExp (pt_cmpR op_lt (pv 1) (pe_callB call_len_seq (by rfl) nb.at PySem.boot_len (pa_cons (pv 0) pa_nil)) (nomark _)) (pe_ix ix_list (pv 0) (pv 1) (fun _ _ => rfl)) (pe_op op_add (pe_op op_mul pe_int (pv 1)) pe_int)))
      (pss_cons (ps_set (i := 3) scSt.nd rfl (.inl rfl) (pe_op op_mul (pe_op op_mod (pe_callB call_abs (by rfl) nb.at (by decide +kernel) (pa_cons (pv 2) pa_nil)) (pe_op op_powG (pe_op op_pow pe_int pe_int) pe_int)) (pe_callTy call_int1 (by rfl) nb.at (by decide +kernel) (pa_cons (pe_cmpR op_ge (pe_callB call_abs (by rfl) nb.at (by decide +kernel) (pa_cons (pv 2) pa_nil)) (pe_op op_pow pe_int pe_int) (nomark _)) pa_nil))))
      (pss_one (ps_ret (pe_lst (pa_cons (pv 3) (pa_cons (pe_op op_mod (pe_op op_add (pe_op op_add (pe_op op_mul (pe_op op_mod (pv 2) pe_int) pe_int) (pe_op op_mul (pe_op op_mul pe_int (pv 1)) (pv 1))) pe_int) pe_int) (pa_cons pe_int pa_nil)))))))), ?_⟩
    refine ⟨_, rfl, _, rfl, a, _, rfl, .inl hS, k, _, rfl, rfl, _, rfl, ite2 (fun e => ?a) (fun e => ?b)⟩
    case' a =>
      have hk : k < ((ns.map V.int).length : Int) := of_decide_eq_true e
      rw [List.length_map] at hk
      have hk' : k.toNat < ns.length := by omega
      have g : atI (ns.map V.int) k = some (.int ns[k.toNat]) := by
        have z : (ns.map V.int)[k.toNat]? = some (.int ns[k.toNat]) := by
          rw [List.getElem?_map, List.getElem?_eq_getElem hk']
          rfl
        have y := atI_nat z
        rw [Int.toNat_of_nonneg k0] at y
        exact y
      refine ⟨_, rfl, _, rfl, a, _, k, _, rfl, rfl, hS, g, ?_⟩
    case' b =>
      refine ⟨_, rfl, 13, k, rfl, rfl, .inl ⟨by decide, by decide⟩, _, _, rfl, rfl, ?_⟩
    all_goals
      refine ⟨_, rfl, _, rfl, 10, 60, rfl, rfl, ⟨by decide, by decide, by decide⟩, _, 5, rfl, rfl, ⟨by decide, by decide +kernel⟩, _, _, rfl, rfl, bigS, ?_⟩
      refine ⟨_, rfl, _, rfl, 10, 18, rfl, rfl, ⟨by decide, by decide, by decide⟩, _, _, rfl, rfl, .inr ⟨_, rfl, _, _, rfl, rfl, .inr (flag_in _), ?_⟩⟩
      refine ⟨_, rfl, _, rfl, _, _, rfl, rfl, (show (0 : Int) < 2305843009213693951 by decide), _, _, rfl, rfl, .inr ⟨by decide, by decide⟩, _, rfl, _, _, rfl, rfl, .inl ⟨by decide, by decide⟩, _, rfl, _, _, rfl, rfl, .inr ⟨by omega, by omega⟩, ?_⟩
      refine ⟨_, _, rfl, rfl, _, _, rfl, rfl, _, _, rfl, rfl, (show (0 : Int) < 2305843009213693921 by decide), (by show 3 ≤ sizeLine; decide), fun p np => q _ p np (same_put np) ⟨_, upd_same, ?_⟩⟩
      exact ⟨_, _, 0, rfl, own_nn _ _ _ bigS, Int.emod_nonneg _ (by decide), Int.emod_lt_of_pos _ (by decide), Int.le_refl 0, by decide⟩
theorem ok_draw (D : Def K mg "_law_draw" (topS 21) ["_law_stream_here", "_law_many"]) (nb : NB mg) : Cal P w K mg base 1 "_law_draw" ["_law_stream_here", "_law_many"] spDraw := by
  refine D.ok scDr (fun vs H Q E h => ?_) (fun f cdv A outer s H vs Q E hr gd h => ?_)
  · obtain ⟨p, m, n, rfl, _⟩ := h
    rfl
  · obtain ⟨p, m, n, rfl, ⟨xs, hp, x, y, c, rfl, x0, y0, y1, c0, c1⟩, hn, m0, m1, q⟩ := h
    have hL : SqL K H p [.int x, .int y, .int c] := .inl (.inl hp)
    refine ⟨_, (pss_cons (ps_if (pt_cmpR op_gt (pe_ix ix_list (pv 0) pe_int (fun _ _ => rfl)) pe_int (nomark _))
        (pss_cons (ps_set (i := 2) scDr.nd rfl (.inl rfl) (pe_op op_mod (pe_ix ix_list (pv 0) pe_int (fun _ _ => rfl)) (pv 1)))
        (pss_cons (ps_asg (pe_op op_fdivW (pe_ix ix_list (pv 0) pe_int (fun _ _ => rfl)) (pv 1)) (pg_sub (pv 0) pe_int set_list))
        (pss_one (ps_ret (pv 2)))))
        pss_nil)
      (pss_cons (ps_asg (pe_op op_add (pe_ix ix_list (pv 0) pe_int (fun _ _ => rfl)) pe_int) (pg_sub (pv 0) pe_int set_list))
      (pss_cons (ps_set (i := 3) scDr.nd rfl (.inl rfl) (pe_ix ix_list (pe_lst (pa_cons pe_int (pa_cons pe_int (pa_cons pe_int (pa_cons pe_int (pa_cons pe_int pa_nil)))))) (pe_op op_mod (pe_ix ix_list (pv 0) pe_int (fun _ _ => rfl)) pe_int) (fun _ _ => rfl)))
      (pss_cons (ps_set (i := 4) scDr.nd rfl (.inl rfl) (pe_op op_mod (pe_op op_pow (pe_op op_add (pe_op op_add (pe_ix ix_list (pv 0) pe_int (fun _ _ => rfl)) (pe_op op_mul (pe_op op_mul pe_int (pe_ix ix_list (pv 0) pe_int (fun _ _ => rfl))) (pe_ix ix_list (pv 0) pe_int (fun _ _ => rfl)))) pe_int) pe_int) (pv 3)))
      (pss_one (ps_ret (pe_op op_mod (pe_op op_fdivW (pe_op op_mod (pe_op op_mul (pv 4) (pe_op op_add (pe_op op_mod (pv 4) pe_int) (pe_op op_mul pe_int (pe_ix ix_list (pv 0) pe_int (fun _ _ => rfl))))) pe_int) pe_int) (pv 1)))))))), ?_⟩
    refine ⟨_, rfl, p, _, 0, .int x, rfl, rfl, hL, rfl, _, _, rfl, rfl, _, rfl, ite2 (fun e => ?_) (fun e => ?_)⟩
    · have hx : 0 < x := of_decide_eq_true e
      refine ⟨_, rfl, p, _, 0, .int x, rfl, rfl, hL, rfl, _, rfl, _, _, rfl, rfl, m0, ?_⟩
      refine ⟨_, rfl, p, _, 0, .int x, rfl, rfl, hL, rfl, _, rfl, _, _, rfl, rfl, ⟨m0, m1⟩, _, rfl, p, _, 0, 0, rfl, rfl, hp, rfl, _, rfl, ?_⟩
      exact q _ _ Bu.put ⟨_, upd_same, _, _, _, rfl, Int.ediv_nonneg x0 (Int.le_of_lt m0), y0, y1, c0, by omega⟩ (Int.emod_nonneg _ (by omega)) (Int.emod_lt_of_pos _ m0)
    · refine ⟨_, rfl, p, _, 2, .int c, rfl, rfl, hL, rfl, _, _, rfl, rfl, _, rfl, p, _, 2, 2, rfl, rfl, hp, rfl, ?_⟩
      have c0' : 0 ≤ c + 1 := by omega
      have c1' : c + 1 ≤ 10000001 := by omega
      refine ⟨(by show 5 ≤ sizeLine; decide), fun t nt => ?_⟩
      have npt : p ≠ t := fun z => by
        rw [← z, upd_same] at nt
        cases nt
      let H2 : Hp := upd (upd H p (.lst [.int x, .int y, .int (c + 1)])) t (.lst [.int 2147483647, .int 2147483629, .int 2147483587, .int 2147483579, .int 2147483563])
      have h2 : H2 p = some (.lst [.int x, .int y, .int (c + 1)]) := by
        show upd _ t _ p = _
        rw [upd_ne npt, upd_same]
      have hL2 : SqL K H2 p [.int x, .int y, .int (c + 1)] := .inl (.inl h2)
      have hb : Bu p H H2 := Bu.trans Bu.put (Bu.new nt)
      have hT : SqL K H2 t [.int 2147483647, .int 2147483629, .int 2147483587, .int 2147483579, .int 2147483563] := .inl (.inl upd_same)
      obtain ⟨pr, hpr, p1, p2⟩ : ∃ pr : Int, atI [V.int 2147483647, .int 2147483629, .int 2147483587, .int 2147483579, .int 2147483563] ((c + 1) % 5) = some (.int pr) ∧ 0 < pr ∧ pr < 2147483648 := by
        have r0 : 0 ≤ (c + 1) % 5 := Int.emod_nonneg _ (by decide)
        have r1 : (c + 1) % 5 < 5 := Int.emod_lt_of_pos _ (by decide)
        generalize (c + 1) % 5 = r at r0 r1
        have : r = 0 ∨ r = 1 ∨ r = 2 ∨ r = 3 ∨ r = 4 := by omega
        rcases this with rfl | rfl | rfl | rfl | rfl <;> exact ⟨_, rfl, by decide, by decide⟩
      refine ⟨_, rfl, p, _, 2, .int (c + 1), rfl, rfl, hL2, rfl, _, _, rfl, rfl, (show (0 : Int) < 5 by decide), t, _, _, _, rfl, rfl, hT, hpr, ?_⟩
      have m3 : 0 ≤ 65537 * (c + 1) := by omega
      have m4 : 65537 * (c + 1) * (c + 1) ≤ 65537 * 10000001 * 10000001 := Int.mul_le_mul (Int.mul_le_mul_of_nonneg_left c1' (by decide)) c1' c0' (by decide)
      have m5 : 0 ≤ 65537 * (c + 1) * (c + 1) := Int.mul_nonneg m3 c0'
      refine ⟨_, rfl, p, _, 1, .int y, rfl, rfl, hL2, rfl, _, rfl, p, _, 2, .int (c + 1), rfl, rfl, hL2, rfl, _, _, rfl, rfl, .inl ⟨by decide, by decide⟩, _, rfl, p, _, 2, .int (c + 1), rfl, rfl, hL2, rfl, _, _, rfl, rfl, .inr ⟨by omega, by omega⟩, ?_⟩
      have pb : CPow (y + 65537 * (c + 1) * (c + 1) + 37) 3 := ⟨by decide, by decide, by omega⟩
      refine ⟨_, _, rfl, rfl, _, _, rfl, rfl, _, _, rfl, rfl, pb, _, rfl, _, _, rfl, rfl, p1, ?_⟩
      have u0 : 0 ≤ (y + 65537 * (c + 1) * (c + 1) + 37) ^ (3 : Int).toNat % pr := Int.emod_nonneg _ (by omega)
      have u1 : (y + 65537 * (c + 1) * (c + 1) + 37) ^ (3 : Int).toNat % pr < pr := Int.emod_lt_of_pos _ p1
      have fin := fun d => q H2 d hb ⟨_, h2, x, y, c + 1, rfl, x0, y0, y1, c0', by omega⟩
      show gName 4 (V.int ((y + 65537 * (c + 1) * (c + 1) + 37) ^ (3 : Int).toNat % pr)) _ _ _
      generalize (y + 65537 * (c + 1) * (c + 1) + 37) ^ (3 : Int).toNat % pr = u at u0 u1 ⊢
      have v0 : 0 ≤ u % 10007 := Int.emod_nonneg _ (by decide)
      have v1 : u % 10007 < 10007 := Int.emod_lt_of_pos _ (by decide)
      refine ⟨_, rfl, _, rfl, _, _, rfl, rfl, (show (0 : Int) < 10007 by decide), _, rfl, p, _, 2, .int (c + 1), rfl, rfl, hL2, rfl, _, _, rfl, rfl, .inl ⟨by decide, by decide⟩, _, _, rfl, rfl, ?_⟩
      refine ⟨_, _, rfl, rfl, .inl ⟨by omega, by omega⟩, _, _, rfl, rfl, (show (0 : Int) < 2305843009213693907 by decide), _, _, rfl, rfl, ⟨by decide, by decide +kernel⟩, _, rfl, _, _, rfl, rfl, m0, ?_⟩
      exact fin _ (Int.emod_nonneg _ (by omega)) (Int.emod_lt_of_pos _ m0)
theorem ok_pick (D : Def K mg "_law_pick" (topS 22) ["_law_stream_here", "_law_some"]) (C__law_draw : Cal P w K mg base 1 "_law_draw" ["_law_stream_here", "_law_many"] spDraw) (nb : NB mg) :
    Cal P w K mg base 2 "_law_pick" ["_law_stream_here", "_law_some"] (spPick K) := by
  refine D.ok scPk (fun vs H Q E h => ?_) (fun f cdv A outer s H vs Q E hr gd h => ?_)
  · obtain ⟨p, r, zs, n, rfl, _⟩ := h
    rfl
  · obtain ⟨p, r, zs, n, rfl, hp, hn, ne, hS, z0, z1, q⟩ := h
    refine ⟨_, (pss_one (ps_ret (pe_ix ix_list (pv 1) (pcall C__law_draw (hr.mono (by omega)) gd (by rfl) (pa_cons (pv 0) (pa_cons (pe_callB call_len_seq (by rfl) nb.at PySem.boot_len (pa_cons (pv 1) pa_nil)) pa_nil))) (fun _ _ => rfl)))), ?_⟩
    have hz : 0 < zs.length := by
      cases zs with
      | nil => exact absurd rfl z0
      | cons _ _ => exact Nat.succ_pos _
    refine ⟨_, rfl, _, rfl, _, rfl, r, zs, rfl, .inl hS, p, _, n, rfl, hp, hn, by omega, log_i (k := 20) (by omega) (by omega) (by decide) (by decide), fun H' d hb hy d0 d1 => ?_⟩
    have hd : d.toNat < zs.length := by omega
    have g : atI zs d = some zs[d.toNat] := by
      have y := atI_nat (List.getElem?_eq_getElem hd)
      rw [Int.toNat_of_nonneg d0] at y
      exact y
    exact ⟨r, zs, d, _, rfl, rfl, bu_seq ne.symm hb hS, g, q H' _ hb hy (List.getElem_mem hd)⟩
end
end Ev

/-! ## Lines and items -/
namespace Ev
open PySem PySem.Spec PyProof.Rows L2
theorem scLn : FnScope ["_law_stream_here", "_law_most", "_law_name"] ["_law_stream_here", "_law_most"] (defScope (topS 23)) := ⟨rfl, rfl, rfl, by decide +kernel, rfl, by decide +kernel, by decide +kernel⟩
def pool9 : List Str := ["a", "b", "c", "b", "a", "idle", "line", "loop", "zzzzzzzz"]
def spLine (K : PySem.W.Frag) : Sp := fun vs H Q _ => ∃ (p : Addr) (T : Int) (n : Nat), vs = [.ref p, .int T] ∧ PotA p n H ∧ n + 2 ≤ 10000000 ∧ 1 ≤ T ∧ T < (2 ^ 900 : Nat) ∧
  ∀ H' u x t, Bu p H H' → PotA p (n + 2) H' → Da K H' u (It.d (.line x t)) → x ∈ pool9 → 1 ≤ t → t ≤ T → Q u H'
/-- an item as drawn, of loops of so many -/
def Wm (T R : Int) : Nat → Nat → It → Prop
  | _, _, .line x t => x ∈ pool9 ∧ 1 ≤ t ∧ t ≤ T
  | 0, _, .loop _ _ => False
  | n + 1, m, .loop r is => 1 ≤ r ∧ r ≤ R ∧ 1 ≤ is.length ∧ is.length ≤ 1 + m / 2 ∧ ∀ i ∈ is, Wm T R n (1 + m / 2) i
theorem wm_line {T R : Int} {n m : Nat} {x : Str} {t : Int} : Wm T R n m (.line x t) ↔ x ∈ pool9 ∧ 1 ≤ t ∧ t ≤ T := by
  cases n <;> exact Iff.rfl
/-- an item as drawn -/
def Wb (T R : Int) : Nat → It → Prop
  | _, .line x t => x ∈ pool9 ∧ 1 ≤ t ∧ t ≤ T
  | 0, .loop _ _ => False
  | n + 1, .loop r is => 1 ≤ r ∧ r ≤ R ∧ 1 ≤ is.length ∧ is.length ≤ 11 ∧ ∀ i ∈ is, Wb T R n i
theorem wb_line {T R : Int} {n : Nat} {x : Str} {t : Int} : Wb T R n (.line x t) ↔ x ∈ pool9 ∧ 1 ≤ t ∧ t ≤ T := by
  cases n <;> exact Iff.rfl
theorem wm_wb {T R : Int} : ∀ (n m : Nat) (i : It), m ≤ 20 → Wm T R n m i → Wb T R n i
  | n, m, .line x t, _, h => wb_line.mpr (wm_line.mp h)
  | 0, _, .loop _ _, _, h => h.elim
  | n + 1, m, .loop r is, hm, h => by
    obtain ⟨h1, h2, h3, h4, h5⟩ : 1 ≤ r ∧ r ≤ R ∧ 1 ≤ is.length ∧ is.length ≤ 1 + m / 2 ∧ ∀ i ∈ is, Wm T R n (1 + m / 2) i := h
    exact ⟨h1, h2, h3, by omega, fun i hi => wm_wb n _ i (by omega) (h5 i hi)⟩
/-- how often items draw, at most -/
def budB : Nat → Nat → Nat
  | 0, many => 1 + many * 3
  | n + 1, many => 1 + many * (3 + budB n 11)
def inB : Nat → Nat
  | 0 => 0
  | d + 1 => budB d 11
theorem budB_eq (dep many : Nat) : budB dep many = 1 + many * (3 + inB dep) := by
  cases dep <;> rfl
theorem budB_le {dep m n : Nat} (h : m ≤ n) : budB dep m ≤ budB dep n := by
  rw [budB_eq, budB_eq]
  have := Nat.mul_le_mul_right (3 + inB dep) h
  omega
def spItemsB (K : PySem.W.Frag) (dep : Nat) : Sp := fun vs H Q _ => ∃ (p : Addr) (many n : Nat) (T R : Int), vs = [.ref p, .int (many : Nat), .int (dep : Nat), .int T, .int R] ∧ PotA p n H ∧ 1 ≤ many ∧ many ≤ 20 ∧
  1 ≤ T ∧ T < (2 ^ 900 : Nat) ∧ 1 ≤ R ∧ R < (2 ^ 900 : Nat) ∧ n + budB dep many ≤ 10000000 ∧
  ∀ H' u (is : List It), Bu p H H' → PotA p (n + budB dep many) H' → Da K H' u (.tuple (is.map It.d)) → 1 ≤ is.length → is.length ≤ many → (∀ i ∈ is, Wm T R dep many i) → Q u H'
/-- at most m deep -/
def spItemsM (K : PySem.W.Frag) (m : Nat) : Sp := fun vs H Q E => ∃ dep, dep ≤ m ∧ spItemsB K dep vs H Q E
theorem scIs : FnScope ["_law_stream_here", "_law_many", "_law_deep", "_law_ticks", "_law_rounds", "_law_found", "_law_turn", "_law_inner"] ["_law_stream_here", "_law_many", "_law_deep", "_law_ticks", "_law_rounds"] (defScope (topS 24)) := ⟨rfl, rfl, rfl, by decide +kernel, rfl, by decide +kernel, by decide +kernel⟩
section
variable {P : Program} {w : World} {K : PySem.W.Frag} {mg : Str → Option Value} {base : Heap}
theorem ok_line (D : Def K mg "_law_line" (topS 23) ["_law_stream_here", "_law_most"]) (C__law_draw : Cal P w K mg base 1 "_law_draw" ["_law_stream_here", "_law_many"] spDraw)
    (C__law_pick : Cal P w K mg base 2 "_law_pick" ["_law_stream_here", "_law_some"] (spPick K)) (nb : NB mg) : Cal P w K mg base 3 "_law_line" ["_law_stream_here", "_law_most"] (spLine K) := by
  refine D.ok scLn (fun vs H Q E h => ?_) (fun f cdv A outer s H vs Q E hr gd h => ?_)
  · obtain ⟨p, T, n, rfl, _⟩ := h
    rfl
  · obtain ⟨p, T, n, rfl, hp, hn, t0, t1, q⟩ := h
    refine ⟨_, (pss_cons (ps_set (i := 2) scLn.nd rfl (.inl rfl) (pcall C__law_pick (hr.mono (by omega)) gd (by rfl) (pa_cons (pv 0) (pa_cons (pe_lst (pa_cons pe_str (pa_cons pe_str (pa_cons pe_str (pa_cons pe_str (pa_cons pe_str (pa_cons pe_str (pa_cons pe_str (pa_cons pe_str (pa_cons pe_str pa_nil)))))))))) pa_nil))))
      (pss_one (ps_ret (pe_tup (pa_cons pe_str (pa_cons (pv 2) (pa_cons (pe_op op_add pe_int (pcall C__law_draw (hr.mono (by omega)) gd (by rfl) (pa_cons (pv 0) (pa_cons (pv 1) pa_nil)))) pa_nil))))))), ?_⟩
    refine ⟨_, rfl, (by show 9 ≤ sizeLine; decide), fun l nl => ⟨p, l, pool9.map V.str, n, rfl, hp.new nl, by omega, hp.ne nl, .inl (.inl upd_same), by decide, by decide, fun H2 v hb2 hp2 hv => ?_⟩⟩
    obtain ⟨x, hx, rfl⟩ := List.mem_map.mp hv
    refine ⟨_, rfl, _, rfl, _, rfl, p, T, n + 1, rfl, hp2, by omega, by omega, log_i (k := 900) (by omega) t1 (by decide) (by decide), fun H3 d hb3 hp3 d0 d1 => ⟨_, _, rfl, rfl, (by show 3 ≤ sizeLine; decide), fun t nt => ?_⟩⟩
    refine q _ _ x (1 + d) (((Bu.new nl).trans hb2).trans (hb3.trans (Bu.new nt))) (hp3.new nt) ?_ hx (by omega) (by omega)
    rw [It.d]
    exact .tup (xs := [.str "line", .str x, .int (1 + d)]) (.inl (.inl upd_same)) (.cons (.str _) (.cons (.str _) (.cons (.int _) .nil)))
theorem itemsB_step {k m : Nat} {spR : Sp} (D : Def K mg "_law_items" (topS 24) ["_law_stream_here", "_law_many", "_law_deep", "_law_ticks", "_law_rounds"]) (C__law_draw : Cal P w K mg base 1 "_law_draw" ["_law_stream_here", "_law_many"] spDraw)
    (C__law_line : Cal P w K mg base 3 "_law_line" ["_law_stream_here", "_law_most"] (spLine K)) (C__law_items : Cal P w K mg base k "_law_items" ["_law_stream_here", "_law_many", "_law_deep", "_law_ticks", "_law_rounds"] spR) (nb : NB mg) (hk : 3 ≤ k)
    (hR : ∀ d vs H Q E, d < m → spItemsB K d vs H Q E → spR vs H Q E) : Cal P w K mg base (k + 1) "_law_items" ["_law_stream_here", "_law_many", "_law_deep", "_law_ticks", "_law_rounds"] (spItemsM K m) := by
  refine D.ok scIs (fun vs H Q E h => ?_) (fun f cdv A outer s H vs Q E hr gd h => ?_)
  · obtain ⟨dep, _, p, many, n, T, R, rfl, _⟩ := h
    rfl
  · obtain ⟨dep, hdm, p, many, n, T, R, rfl, hp, m1, m2, t0, t1, r0, r1, hb, q⟩ := h
    refine ⟨_, (pss_cons (ps_set (i := 5) scIs.nd rfl (.inl rfl) (pe_lst pa_nil))
      (pss_cons (ps_for PassesOwn.never rfl (pi_range1 rfl nb.at (pa_cons (pe_op op_add pe_int (pcall C__law_draw (hr.mono (by omega)) gd (by rfl) (pa_cons (pv 0) (pa_cons (pv 1) pa_nil)))) pa_nil)) (pg_name (i := 6) scIs.nd rfl (Or.inl rfl))
        (pss_one (ps_if (PW.pt (pw_and (pt_cmpR op_gt (pv 2) pe_int (nomark _)) (pw_and1 (pt_cmpR op_eq (pcall C__law_draw (hr.mono (by omega)) gd (by rfl) (pa_cons (pv 0) (pa_cons pe_int pa_nil))) pe_int (nomark _)))))
          (pss_cons (ps_set (i := 7) scIs.nd rfl (.inl rfl) (pcall C__law_items (hr.mono (by omega)) gd (by rfl) (pa_cons (pv 0) (pa_cons (pe_op op_add pe_int (pe_op op_fdivW (pv 1) pe_int)) (pa_cons (pe_op op_sub (pv 2) pe_int) (pa_cons (pv 3) (pa_cons (pv 4) pa_nil)))))))
          (pss_one (ps_expr (pe_bm PySem.F.plainAttrs_list PySem.F.slot_list_append PySem.F.type_list_append mt_append (pv 5) (pa_cons (pe_tup (pa_cons pe_str (pa_cons (pe_op op_add pe_int (pcall C__law_draw (hr.mono (by omega)) gd (by rfl) (pa_cons (pv 0) (pa_cons (pv 4) pa_nil)))) (pa_cons (pv 7) pa_nil)))) pa_nil)))))
          (pss_one (ps_expr (pe_bm PySem.F.plainAttrs_list PySem.F.slot_list_append PySem.F.type_list_append mt_append (pv 5) (pa_cons (pcall C__law_line (hr.mono (by omega)) gd (by rfl) (pa_cons (pv 0) (pa_cons (pv 3) pa_nil))) pa_nil)))))))
      (pss_one (ps_ret (pe_callTy call_tuple_of (by rfl) nb.at (by decide +kernel) (pa_cons (pv 5) pa_nil)))))), ?_⟩
    have y := sizeLine_eq
    rw [budB_eq] at hb q
    refine ⟨(by show 0 ≤ sizeLine; exact Nat.zero_le _), fun l nl => ?_⟩
    have npl := hp.ne nl
    refine ⟨_, rfl, _, rfl, p, (many : Nat), n, rfl, hp.new nl, by omega, by omega, log_i (k := 20) (by omega) (by omega) (by decide) (by decide), fun H2 d hb2 hp2 d0 d1 => ⟨_, _, rfl, rfl, _, rfl, by omega, by omega, for_range (lo := 0) (n := (1 + d).toNat)
      (fun i σ' H' => ∃ (y6 y7 : Option V) (is : List It) (us : List V), σ' = [some (.ref p), some (.int (many : Nat)), some (.int (dep : Nat)), some (.int T), some (.int R), some (.ref l), y6, y7] ∧
        PotA p (n + 1 + i * (3 + inB dep)) H' ∧ H' l = some (.lst us) ∧ DaAll K H' us (is.map It.d) ∧ is.length = i ∧ us.length = i ∧ (∀ x ∈ is, Wm T R dep many x) ∧ Bu p H H')
      ⟨none, none, [], [], rfl, hp2.up (by omega), hb2 _ _ npl.symm upd_same, .nil, rfl, rfl, fun x hx => (nomatch hx), (Bu.new nl).trans hb2⟩ ?_ ?_⟩⟩
    · rintro i σ' H' hi ⟨y6, y7, is, us, rfl, hp', hl', hda, hi', hu', hw, hb'⟩
      have him : (i + 1) * (3 + inB dep) ≤ many * (3 + inB dep) := Nat.mul_le_mul_right _ (by omega)
      rw [Nat.succ_mul] at him
      have line : ∀ (H3 : Hp) (m3 : Nat), Bu p H' H3 → PotA p m3 H3 → m3 ≤ n + 1 + i * (3 + inB dep) + 1 → tCall (spLine K) [] E0 (tCons (tVar 0) (tCons (tVar 3) tNil)) [some (.ref p), some (.int (many : Nat)), some (.int (dep : Nat)), some (.int T), some (.int R), some (.ref l), some (.int (0 + (i : Int))), y7] H3
          (fun v H4 => ∃ (l' : Addr) (xs : List V) (z : V), V.ref l = .ref l' ∧ [v] = [z] ∧ H4 l' = some (.lst xs) ∧ xs.length < sizeLine ∧ (∃ (z6 z7 : Option V) (is : List It) (us : List V), [some (V.ref p), some (.int (many : Nat)), some (.int (dep : Nat)), some (.int T), some (.int R), some (.ref l), some (.int (0 + (i : Int))), y7] = [some (.ref p), some (.int (many : Nat)), some (.int (dep : Nat)), some (.int T), some (.int R), some (.ref l), z6, z7] ∧
            PotA p (n + 1 + (i + 1) * (3 + inB dep)) (upd H4 l' (.lst (xs ++ [z]))) ∧ upd H4 l' (.lst (xs ++ [z])) l = some (.lst us) ∧ DaAll K (upd H4 l' (.lst (xs ++ [z]))) us (is.map It.d) ∧ is.length = i + 1 ∧ us.length = i + 1 ∧ (∀ x ∈ is, Wm T R dep many x) ∧ Bu p H (upd H4 l' (.lst (xs ++ [z]))))) := fun H3 m3 hb3 hp3 hm3 => by
        refine ⟨_, rfl, _, rfl, p, T, m3, rfl, hp3, by omega, t0, t1, fun H4 u x t hb4 hp4 hd4 hx h1 h2 => ?_⟩
        have hl4 : H4 l = some (.lst us) := hb4 _ _ npl.symm (hb3 _ _ npl.symm hl')
        refine ⟨l, us, u, rfl, rfl, hl4, by omega, _, _, is ++ [.line x t], us ++ [u], rfl, (hp4.put npl).up (by rw [Nat.succ_mul]; omega), upd_same, ?_, by rw [List.length_append, hi']; rfl, by rw [List.length_append, hu']; rfl, fun z hz => ?_, fun b o nb e => ?_⟩
        · rw [List.map_append]
          have kt : Kt H4 (upd H4 l (.lst (us ++ [u]))) := Kt.put hl4
          refine daAll_append (hd4.kt kt (It.tupd _)) (DaAll.kt (((hp'.kt hb3).trans (hp3.kt hb4)).trans kt) ?_ hda)
          rw [← Its.d_map]
          exact Its.tupd _
        · rcases List.mem_append.mp hz with h | h
          · exact hw z h
          · rw [List.mem_singleton.mp h]
            exact wm_line.mpr ⟨hx, h1, h2⟩
        · rw [upd_ne (ne_of_none e nl)]
          exact hb4 _ _ nb (hb3 _ _ nb (hb' _ _ nb e))
      refine ⟨_, rfl, _, _, rfl, rfl, _, rfl, ite2 (fun e => ?_) (fun e => ?_)⟩
      · have hdep : (0 : Int) < (dep : Nat) := of_decide_eq_true e
        refine ⟨_, rfl, p, 3, _, rfl, hp', by omega, by decide, by decide +kernel, fun H3 d3 hb3 hp3 f0 f1 => ⟨rfl, _, rfl, ite2 (fun e2 => ?_) (fun e2 => ?_)⟩⟩
        · obtain ⟨dd, rfl⟩ : ∃ dd, dep = dd + 1 := ⟨dep - 1, by omega⟩
          have hin : inB (dd + 1) = budB dd 11 := rfl
          have hmm : 1 + many / 2 ≤ 11 := by omega
          have hbl := budB_le (dep := dd) hmm
          have edep : (V.int (((dd + 1 : Nat) : Int) - 1)) = V.int (dd : Nat) := by
            congr 1
            omega
          have emany : (V.int (1 + ((many : Nat) : Int) / 2)) = V.int ((1 + many / 2 : Nat) : Int) := by
            rw [show (1 + ((many : Nat) : Int) / 2) = ((1 + many / 2 : Nat) : Int) by omega]
          refine ⟨_, rfl, _, rfl, _, _, rfl, rfl, ⟨by decide, by decide +kernel⟩, _, _, rfl, rfl, _, rfl, _, _, rfl, rfl, _, rfl, _, rfl, hR dd _ _ _ _ (by omega) ⟨p, 1 + many / 2, _, T, R, by
            show [V.ref p, V.int (1 + ((many : Nat) : Int) / 2), V.int (((dd + 1 : Nat) : Int) - 1), V.int T, V.int R] = _
            rw [edep, emany], hp3, by omega, by omega, t0, t1, r0, r1, by omega, fun H4 u js hb4 hp4 hd4 l1 l2 hwj => ?_⟩⟩
          have hl4 : H4 l = some (.lst us) := hb4 _ _ npl.symm (hb3 _ _ npl.symm hl')
          refine ⟨_, rfl, .inl ⟨rfl, _, .inl (.inl hl4)⟩, _, rfl, _, rfl, p, R, _, rfl, hp4, by omega, by omega, log_i (k := 900) (by omega) r1 (by decide) (by decide), fun H5 d5 hb5 hp5 g0 g1 => ⟨_, _, rfl, rfl, _, rfl, (by show 3 ≤ sizeLine; decide), fun t nt => ?_⟩⟩
          have hl5 : H5 l = some (.lst us) := hb5 _ _ npl.symm hl4
          have nlt : l ≠ t := ne_of_none hl5 nt
          have hl6 : upd H5 t (.tup [.str "loop", .int (1 + d5), u]) l = some (.lst us) := by
            rw [upd_ne nlt]
            exact hl5
          refine ⟨l, us, .ref t, rfl, rfl, hl6, by omega, ?_⟩
          refine ⟨_, _, is ++ [.loop (1 + d5) js], us ++ [.ref t], rfl, ((hp5.new nt).put npl).up (by rw [Nat.succ_mul]; omega), upd_same, ?_, by rw [List.length_append, hi']; rfl, by rw [List.length_append, hu']; rfl, fun z hz => ?_, fun b o nb e => ?_⟩
          · rw [List.map_append]
            have kt : Kt (upd H5 t (.tup [.str "loop", .int (1 + d5), u])) (upd (upd H5 t (.tup [.str "loop", .int (1 + d5), u])) l (.lst (us ++ [.ref t]))) := Kt.put hl6
            have kt5 := (Kt.of (same_put (o := .tup [.str "loop", .int (1 + d5), u]) nt)).trans kt
            have hd : It.d (.loop (1 + d5) js) = .tuple [.str "loop", .int (1 + d5), .tuple (js.map It.d)] := by
              rw [It.d, Its.d_map]
            show DaAll _ _ _ (_ ++ [It.d (.loop (1 + d5) js)])
            rw [hd]
            refine daAll_append (.tup (xs := [.str "loop", .int (1 + d5), u]) (.inl (.inl ?_)) (.cons (.str _) (.cons (.int _) (.cons (hd4.kt ((hp4.kt hb5).trans kt5) (prog_tup js)) .nil)))) (DaAll.kt ((((hp'.kt hb3).trans (hp3.kt hb4)).trans (hp4.kt hb5)).trans kt5) ?_ hda)
            · rw [upd_ne nlt.symm, upd_same]
            · rw [← Its.d_map]
              exact Its.tupd _
          · rcases List.mem_append.mp hz with h | h
            · exact hw z h
            · rw [List.mem_singleton.mp h]
              exact ⟨by omega, by omega, l1, l2, hwj⟩
          · have e5 := hb5 _ _ nb (hb4 _ _ nb (hb3 _ _ nb (hb' _ _ nb e)))
            rw [upd_ne (ne_of_none e nl), upd_ne (ne_of_none e5 nt)]
            exact e5
        · exact ⟨_, rfl, .inl ⟨rfl, _, .inl (.inl (hb3 _ _ npl.symm hl'))⟩, line H3 _ hb3 hp3 (by omega)⟩
      · exact ⟨_, rfl, .inl ⟨rfl, _, .inl (.inl hl')⟩, line H' _ Bu.refl hp' (by omega)⟩
    · rintro σ' H' ⟨y6, y7, is, us, rfl, hp', hl', hda, hi', hu', hw, hb'⟩
      have hmul : (1 + d).toNat * (3 + inB dep) ≤ many * (3 + inB dep) := Nat.mul_le_mul_right _ (by omega)
      refine ⟨_, rfl, l, us, rfl, .inl ⟨.inl (.inl hl'), fun t nt => ?_⟩⟩
      refine q _ _ is (hb'.trans (Bu.new nt)) ((hp'.new nt).up (by omega)) (.tup (xs := us) (.inl (.inl upd_same)) (hda.mono (same_put nt))) (by omega) (by omega) hw
theorem ok_itemsB (D : Def K mg "_law_items" (topS 24) ["_law_stream_here", "_law_many", "_law_deep", "_law_ticks", "_law_rounds"]) (C__law_draw : Cal P w K mg base 1 "_law_draw" ["_law_stream_here", "_law_many"] spDraw)
    (C__law_line : Cal P w K mg base 3 "_law_line" ["_law_stream_here", "_law_most"] (spLine K)) (nb : NB mg) : ∀ m : Nat, Cal P w K mg base (4 + m) "_law_items" ["_law_stream_here", "_law_many", "_law_deep", "_law_ticks", "_law_rounds"] (spItemsM K m)
  | 0 => itemsB_step D C__law_draw C__law_line (no_cal D) nb (Nat.le_refl 3) (fun d _ _ _ _ h => absurd h (Nat.not_lt_zero d))
  | n + 1 => itemsB_step D C__law_draw C__law_line (ok_itemsB D C__law_draw C__law_line nb n) nb (show 3 ≤ 4 + n by omega) (fun d _ _ _ _ h z => ⟨d, by omega, z⟩)
end
end Ev

/-! ## k60: one thing otherwise -/
namespace Ev
open PySem PySem.Spec PyProof.Rows L2
def spPickS : Sp := fun vs H Q _ => ∃ (p : Addr) (z : Str) (n : Nat), vs = [.ref p, .str z] ∧ PotA p n H ∧ n < 10000000 ∧ 1 ≤ z.length ∧ z.length ≤ 1000 ∧ ∀ H' c, Bu p H H' → PotA p (n + 1) H' → c ∈ z.cps.toList → Q (.str ⟨#[c]⟩) H'
def spPickU (K : PySem.W.Frag) : Sp := fun vs H Q E => spPick K vs H Q E ∨ spPickS vs H Q E
def spSp60 : Sp := fun vs H Q _ => ∃ (p : Addr) (z : Str) (n : Nat), vs = [.ref p, .str z] ∧ PotA p n H ∧ n + 10 < 10000000 ∧ z.length ≤ 20000 ∧ ∀ H' z', Bu p H H' → PotA p (n + 4) H' → Spo (TL.tl z) (TL.tl z') → z'.length ≤ z.length + z.length + 1 → Q (.str z') H'
theorem cut_to6 (z : Str) (i : Nat) : cutS z none (some (i : Nat)) = mkS ((TL.tl z).take i) := by
  unfold cutS
  rw [HT.sIx_none, HT.sIx_nat, List.drop_zero, Nat.sub_zero]
  show (⟨(z.cps.toList.take (min i z.length)).toArray⟩ : Str) = mkS (z.cps.toList.take i)
  have hl : z.cps.toList.length = z.length := by rw [Array.length_toList]; rfl
  by_cases h : i ≤ z.length
  · rw [Nat.min_eq_left h]
    rfl
  · rw [Nat.min_eq_right (by omega), List.take_of_length_le (by omega), List.take_of_length_le (by omega)]
    rfl
theorem cut_from6 (z : Str) (i : Nat) : cutS z (some (i : Nat)) none = mkS ((TL.tl z).drop i) := by
  unfold cutS
  rw [HT.sIx_none, HT.sIx_nat]
  show (⟨((z.cps.toList.drop (min i z.length)).take (z.length - min i z.length)).toArray⟩ : Str) = mkS (z.cps.toList.drop i)
  have hl : z.cps.toList.length = z.length := by rw [Array.length_toList]; rfl
  rw [List.take_of_length_le (by rw [List.length_drop]; omega)]
  by_cases h : i ≤ z.length
  · rw [Nat.min_eq_left h]
    rfl
  · rw [Nat.min_eq_right (by omega), List.drop_eq_nil_of_le (by omega), List.drop_eq_nil_of_le (by omega)]
    rfl
/-- an expression that gives a text and changes nothing -/
def PTx (te : TE) (σ : L2.St) (x : Str) : Prop := ∀ (H : Hp) (Q : VK), Q (.str x) H → te σ H Q
def PIx (te : TE) (σ : L2.St) (n : Nat) : Prop := ∀ (H : Hp) (Q : VK), Q (.int (n : Nat)) H → te σ H Q
section
variable {σ : L2.St} {z x y : Str} {i j n : Nat} {a b te : TE}
theorem pi_var (h : σ[i]? = some (some (.int (n : Nat)))) : PIx (tVar i) σ n := fun H Q q => ⟨_, h, q⟩
theorem pi_one6 (h : σ[i]? = some (some (.int (n : Nat)))) : PIx (tOp (rI0 fun i j => V.int (i + j)) (tVar i) (tC (V.int 1))) σ (n + 1) := fun H Q q => ⟨_, h, _, _, rfl, rfl, q⟩
theorem pt_var6 (h : σ[i]? = some (some (.str z))) : PTx (tVar i) σ z := fun H Q q => ⟨_, h, q⟩
theorem pt_to (h : σ[i]? = some (some (.str z))) (hz : z.length ≤ sizeLine) (hb : PIx b σ n) : PTx (tSl rSlS (tVar i) tNoPart (tPart b)) σ (mkS ((TL.tl z).take n)) := fun H Q q => ⟨_, h, hb _ _ ⟨_, rfl, z, rfl, hz, by rw [cut_to6]; exact q⟩⟩
theorem pt_from (h : σ[i]? = some (some (.str z))) (hz : z.length ≤ sizeLine) (hb : PIx b σ n) : PTx (tSl rSlS (tVar i) (tPart b) tNoPart) σ (mkS ((TL.tl z).drop n)) := fun H Q q => ⟨_, h, hb _ _ ⟨_, rfl, z, rfl, hz, by rw [cut_from6]; exact q⟩⟩
theorem pt_add6 (ha : PTx a σ x) (hb : PTx b σ y) (hl : x.length + y.length ≤ sizeLine) : PTx (tOp (fun x y H Q => ∃ i j : Str, x = V.str i ∧ y = V.str j ∧ i.length + j.length ≤ sizeLine ∧ Q (V.str (i ++ j)) H) a b) σ (x ++ y) := fun H Q q => ha _ _ (hb _ _ ⟨_, _, rfl, rfl, hl, q⟩)
end
theorem spo_rep {l : List Nat} {i c : Nat} : Spo l (l.take i ++ c :: l.drop (i + 1)) := by
  by_cases h : i < l.length
  · exact .rep _ _ l[i] c (by rw [← List.drop_eq_getElem_cons h, List.take_append_drop])
  · refine .ins _ _ c ?_
    rw [List.drop_eq_nil_of_le (by omega), List.append_nil, List.take_of_length_le (by omega)]
theorem ext_run6 {K : PySem.W.Frag} {i : Nat} {q : Addr} {us : List V} {te : TE} {D : Ends} {σ : L2.St} {H : Hp} (hv : σ[i]? = some (some (.ref q))) (hq : H q = some (.lst us)) (h : te σ H fun v H1 => rExtend (.ref q) [v] H1 fun _ H2 => D.nx σ H2) : tDrop (tBM K "list" rExtend (tVar i) (tCons te tNil)) D σ H :=
  ⟨_, hv, .inl ⟨rfl, us, .inl (.inl hq)⟩, h⟩
theorem pt_go {te : TE} {σ : L2.St} {H : Hp} {Q : VK} {x : Str} (h : PTx te σ x) (q : Q (.str x) H) : te σ H Q := h H Q q
theorem tl_mkapp (l m : List Nat) : mkS l ++ mkS m = mkS (l ++ m) := TL.ext_tl (by rw [TL.tl_append]; rfl)
theorem len_mk (l : List Nat) : (mkS l).length = l.length := by rw [TL.len_tl]; rfl
theorem scPkU : FnScope ["_law_stream_here", "_law_some"] ["_law_stream_here", "_law_some"] (defScope (topS 22)) := ⟨rfl, rfl, rfl, by decide +kernel, rfl, by decide +kernel, by decide +kernel⟩
theorem scSp6 : FnScope ["_law_stream_here", "_law_page", "_law_spot", "_law_far", "_law_low", "_law_high", "_law_sign", "_law_some"] ["_law_stream_here", "_law_page"] (defScope (topS 32)) := ⟨rfl, rfl, rfl, by decide +kernel, rfl, by decide +kernel, by decide +kernel⟩
section
variable {P : Program} {w : World} {K : PySem.W.Frag} {mg : Str → Option Value} {base : Heap}
theorem ok_pkU (D : Def K mg "_law_pick" (topS 22) ["_law_stream_here", "_law_some"]) (C__law_draw : Cal P w K mg base 1 "_law_draw" ["_law_stream_here", "_law_many"] spDraw) (nb : NB mg) : Cal P w K mg base 2 "_law_pick" ["_law_stream_here", "_law_some"] (spPickU K) := by
  refine D.ok scPkU (fun vs H Q E h => ?_) (fun fa cdv A outer sh H vs Q E hr gd h => ?_)
  · rcases h with ⟨p, q, zs, n, rfl, _⟩ | ⟨p, z, n, rfl, _⟩ <;> rfl
  · rcases h with ⟨p, qa, zs, n, rfl, hp, hn, hne, hq, h0, h1, q⟩ | ⟨p, z, n, rfl, hp, hn, h0, h1, q⟩
    · refine ⟨_, (pss_one (ps_ret (pe_ix ix_list (pv 1) (pcall C__law_draw (hr.mono (by omega)) gd (by rfl) (pa_cons (pv 0) (pa_cons (pe_callB call_len_seq (by rfl) nb.at PySem.boot_len (pa_cons (pv 1) pa_nil)) pa_nil))) (fun _ _ => rfl)))), ?_⟩
      have hz : 0 < zs.length := by
        cases zs with
        | nil => exact absurd rfl h0
        | cons _ _ => exact Nat.succ_pos _
      refine ⟨_, rfl, _, rfl, _, rfl, qa, zs, rfl, .inl hq, p, _, n, rfl, hp, hn, by omega, log_i (k := 20) (by omega) (by omega) (by decide) (by decide), fun H' d hb hy d0 d1 => ?_⟩
      have hd : d.toNat < zs.length := by omega
      have g : atI zs d = some zs[d.toNat] := by
        have y := atI_nat (List.getElem?_eq_getElem hd)
        rw [Int.toNat_of_nonneg d0] at y
        exact y
      exact ⟨qa, zs, d, _, rfl, rfl, bu_seq hne.symm hb hq, g, q H' _ hb hy (List.getElem_mem hd)⟩
    · refine ⟨_, (pss_one (ps_ret (pe_ix ix_str (pv 1) (pcall C__law_draw (hr.mono (by omega)) gd (by rfl) (pa_cons (pv 0) (pa_cons (pe_callB call_len_str (by rfl) nb.at (by decide +kernel) (pa_cons (pv 1) pa_nil)) pa_nil))) (fun _ _ => rfl)))), ?_⟩
      have sl := sizeLine_eq
      refine ⟨_, rfl, _, rfl, _, rfl, z, rfl, by omega, p, _, n, rfl, hp, hn, by omega, log_i (k := 20) (by omega) (by omega) (by decide) (by decide), fun H' d hb hy d0 d1 => ?_⟩
      have hl : z.cps.toList.length = z.length := by rw [Array.length_toList]; rfl
      have hd : d.toNat < z.cps.toList.length := by omega
      have g : atI z.cps.toList d = some z.cps.toList[d.toNat] := by
        have y := atI_nat (List.getElem?_eq_getElem hd)
        rw [Int.toNat_of_nonneg d0] at y
        exact y
      exact ⟨z, d, _, rfl, rfl, by omega, g, q H' _ hb hy (List.getElem_mem hd)⟩
theorem ok_sp60 (D : Def K mg "_law_spoilt" (topS 32) ["_law_stream_here", "_law_page"]) (C__law_draw : Cal P w K mg base 1 "_law_draw" ["_law_stream_here", "_law_many"] spDraw) (C__law_pick : Cal P w K mg base 2 "_law_pick" ["_law_stream_here", "_law_some"] (spPickU K)) (nb : NB mg) : Cal P w K mg base 3 "_law_spoilt" ["_law_stream_here", "_law_page"] spSp60 := by
  refine D.ok scSp6 (fun vs H Q E h => ?_) (fun fa cdv A outer sh H vs Q E hr gd h => ?_)
  · obtain ⟨p, z, n, rfl, _⟩ := h
    rfl
  · obtain ⟨p, z, n, rfl, hp, hn, hz, q⟩ := h
    refine ⟨_, (pss_cons (ps_par (i := 2) (j := 3) rfl scSp6.nd rfl rfl (by decide) rfl rfl (pa_cons (pcall C__law_draw (hr.mono (by omega)) gd (by rfl) (pa_cons (pv 0) (pa_cons (pe_op op_add (pe_callB call_len_str (by rfl) nb.at (by decide +kernel) (pa_cons (pv 1) pa_nil)) pe_int) pa_nil))) (pa_cons (pcall C__law_draw (hr.mono (by omega)) gd (by rfl) (pa_cons (pv 0) (pa_cons (pe_op op_add (pe_callB call_len_str (by rfl) nb.at (by decide +kernel) (pa_cons (pv 1) pa_nil)) pe_int) pa_nil))) pa_nil)) (by rfl))
      (pss_cons (ps_par3 (i := 4) (j := 5) (l := 6) rfl scSp6.nd rfl rfl rfl (by decide) (by decide) (by decide) rfl rfl rfl (pa_cons (pe_callB (call_min2 rfl) (by rfl) nb.at (by decide +kernel) (pa_cons (pv 2) (pa_cons (pv 3) pa_nil))) (pa_cons (pe_callB (call_max2 rfl) (by rfl) nb.at (by decide +kernel) (pa_cons (pv 2) (pa_cons (pv 3) pa_nil))) (pa_cons (pcall C__law_pick (hr.mono (by omega)) gd (by rfl) (pa_cons (pv 0) (pa_cons pe_str pa_nil))) pa_nil))) (by rfl))
      (pss_cons (ps_set (i := 7) scSp6.nd rfl (.inl rfl) (pe_lst (pa_cons (pe_op op_add_str (pe_op op_add_str (pe_slice sl_str (pv 1) po_none (po_some (pv 2))) (pv 6)) (pe_slice sl_str (pv 1) (po_some (pv 2)) po_none)) (pa_cons (pe_op op_add_str (pe_slice sl_str (pv 1) po_none (po_some (pv 2))) (pe_slice sl_str (pv 1) (po_some (pe_op op_add (pv 2) pe_int)) po_none)) (pa_cons (pe_op op_add_str (pe_op op_add_str (pe_slice sl_str (pv 1) po_none (po_some (pv 2))) (pv 6)) (pe_slice sl_str (pv 1) (po_some (pe_op op_add (pv 2) pe_int)) po_none)) pa_nil)))))
      (pss_cons (ps_expr (pe_bm PySem.F.plainAttrs_list PySem.F.slot_list_extend PySem.F.type_list_extend mt_extend (pv 7) (pa_cons (pe_lst (pa_cons (pe_op op_add_str (pe_slice sl_str (pv 1) po_none (po_some (pv 5))) (pe_slice sl_str (pv 1) (po_some (pv 4)) po_none)) (pa_cons (pe_op op_add_str (pe_slice sl_str (pv 1) po_none (po_some (pv 4))) (pe_slice sl_str (pv 1) (po_some (pv 5)) po_none)) (pa_cons (pe_op op_add_str (pe_slice sl_str (pv 1) po_none (po_some (pe_op op_add (pv 2) pe_int))) (pe_slice sl_str (pv 1) (po_some (pv 2)) po_none)) pa_nil)))) pa_nil)))
      (pss_one (ps_ret (pcall C__law_pick (hr.mono (by omega)) gd (by rfl) (pa_cons (pv 0) (pa_cons (pv 7) pa_nil))))))))), ?_⟩
    have sl := sizeLine_eq
    have hlz : (TL.tl z).length = z.length := by rw [TL.len_tl]
    refine ⟨_, rfl, _, rfl, z, rfl, by omega, _, _, rfl, rfl, p, _, n, rfl, hp, by omega, by omega, log_i (k := 20) (by omega) (by omega) (by decide) (by decide), fun H1 d1 hb1 hp1 a0 a1 => ?_⟩
    refine ⟨_, rfl, _, rfl, z, rfl, by omega, _, _, rfl, rfl, p, _, n + 1, rfl, hp1, by omega, by omega, log_i (k := 20) (by omega) (by omega) (by decide) (by decide), fun H2 d2 hb2 hp2 b0 b1 => ?_⟩
    obtain ⟨i, rfl⟩ := Int.eq_ofNat_of_zero_le a0
    obtain ⟨j, rfl⟩ := Int.eq_ofNat_of_zero_le b0
    refine ⟨_, _, rfl, ?_⟩
    obtain ⟨lo, hlo⟩ : ∃ l : Nat, (if ((j : Nat) : Int) < ((i : Nat) : Int) then ((j : Nat) : Int) else ((i : Nat) : Int)) = (l : Nat) := by
      split
      · exact ⟨j, rfl⟩
      · exact ⟨i, rfl⟩
    obtain ⟨hi, hhi⟩ : ∃ l : Nat, (if ((j : Nat) : Int) > ((i : Nat) : Int) then ((j : Nat) : Int) else ((i : Nat) : Int)) = (l : Nat) := by
      split
      · exact ⟨j, rfl⟩
      · exact ⟨i, rfl⟩
    refine ⟨_, rfl, _, rfl, _, _, rfl, ?_⟩
    rw [hlo]
    refine ⟨_, rfl, _, rfl, _, _, rfl, ?_⟩
    rw [hhi]
    refine ⟨_, rfl, .inr ⟨p, _, n + 2, rfl, hp2, by omega, by decide +kernel, by decide +kernel, fun H3 c hb3 hp3 hc => ⟨_, _, _, rfl, ?_⟩⟩⟩
    have L : ∀ k : Nat, ((TL.tl z).take k).length ≤ z.length := fun k => by rw [List.length_take]; omega
    have M : ∀ k : Nat, ((TL.tl z).drop k).length ≤ z.length := fun k => by rw [List.length_drop]; omega
    have S : ∀ a b : List Nat, a.length ≤ 40001 → b.length ≤ 40001 → (mkS a).length + (mkS b).length ≤ sizeLine := fun a b h1 h2 => by
      rw [len_mk, len_mk]
      omega
    have hs0 : z.length ≤ sizeLine := by omega
    have hc1 : (⟨#[c]⟩ : Str) = mkS [c] := rfl
    dsimp only [tSeq, tAsg, tLst, tCons, tNil]
    refine pt_go (pt_add6 (x := mkS ((TL.tl z).take i ++ [c])) (y := mkS ((TL.tl z).drop i)) ?_ (pt_from (n := i) rfl hs0 (pi_var rfl)) (S _ _ (by have := L i; rw [List.length_append]; show _ + 1 ≤ _; omega) (by have := M i; omega))) ?_
    · rw [← tl_mkapp]
      exact pt_add6 (pt_to (n := i) rfl hs0 (pi_var rfl)) (pt_var6 rfl) (S _ [c] (by have := L i; omega) (by show 1 ≤ _; omega))
    refine pt_go (pt_add6 (pt_to (n := i) rfl hs0 (pi_var rfl)) (pt_from (n := i + 1) rfl hs0 (pi_one6 rfl)) (S _ _ (by have := L i; omega) (by have := M (i + 1); omega))) ?_
    refine pt_go (pt_add6 (x := mkS ((TL.tl z).take i ++ [c])) (y := mkS ((TL.tl z).drop (i + 1))) ?_ (pt_from (n := i + 1) rfl hs0 (pi_one6 rfl)) (S _ _ (by have := L i; rw [List.length_append]; show _ + 1 ≤ _; omega) (by have := M (i + 1); omega))) ?_
    · rw [← tl_mkapp]
      exact pt_add6 (pt_to (n := i) rfl hs0 (pi_var rfl)) (pt_var6 rfl) (S _ [c] (by have := L i; omega) (by show 1 ≤ _; omega))
    refine ⟨(by show 3 ≤ sizeLine; decide), fun q1 nq1 => ?_⟩
    refine ext_run6 rfl upd_same ?_
    dsimp only [tLst, tCons, tNil]
    refine pt_go (pt_add6 (pt_to (n := hi) rfl hs0 (pi_var rfl)) (pt_from (n := lo) rfl hs0 (pi_var rfl)) (S _ _ (by have := L hi; omega) (by have := M lo; omega))) ?_
    refine pt_go (pt_add6 (pt_to (n := lo) rfl hs0 (pi_var rfl)) (pt_from (n := hi) rfl hs0 (pi_var rfl)) (S _ _ (by have := L lo; omega) (by have := M hi; omega))) ?_
    refine pt_go (pt_add6 (pt_to (n := i + 1) rfl hs0 (pi_one6 rfl)) (pt_from (n := i) rfl hs0 (pi_var rfl)) (S _ _ (by have := L (i + 1); omega) (by have := M i; omega))) ?_
    refine ⟨(by show 3 ≤ sizeLine; decide), fun q2 nq2 => ?_⟩
    have n12 : q1 ≠ q2 := fun e => by
      rw [e, upd_same] at nq2
      cases nq2
    refine ⟨q1, q2, _, _, rfl, rfl, (upd_ne n12).trans upd_same, upd_same, (by show 3 + 3 ≤ sizeLine; decide), ?_⟩
    have bA : Bu p H H3 := (hb1.trans hb2).trans hb3
    have pq1 : p ≠ q1 := hp3.ne nq1
    have pq2 : p ≠ q2 := (hp3.new nq1).ne nq2
    have sA0 := (same_put (o := .lst [.str (mkS ((TL.tl z).take i ++ [c]) ++ mkS ((TL.tl z).drop i)), .str (mkS ((TL.tl z).take i) ++ mkS ((TL.tl z).drop (i + 1))), .str (mkS ((TL.tl z).take i ++ [c]) ++ mkS ((TL.tl z).drop (i + 1)))]) nq1)
    refine ⟨_, rfl, _, rfl, .inl ⟨p, q1, _, n + 3, rfl, ?_, by omega, pq1, .inl (.inl upd_same), by simp, by show 6 ≤ 1000000; decide, fun H4 v hb4 hp4 hv => ?_⟩⟩
    · exact ((hp3.new nq1).new nq2).put pq1
    have bB : Bu p H H4 := fun b o nb e => by
      have e3 := bA b o nb e
      have n1 := ne_of_none e3 nq1
      refine hb4 b o nb ?_
      rw [upd_ne n1]
      refine (same_put nq2) b o ?_
      exact (same_put nq1) b o e3
    have fin : ∀ z' : Str, v = .str z' → ∀ l' : List Nat, TL.tl z' = l' → Spo (TL.tl z) l' → l'.length ≤ z.length + z.length + 1 → Q v H4 := fun z' ev l' el hs hn => by
      subst ev
      subst el
      exact q H4 z' bB hp4 hs (by rw [TL.len_tl]; exact hn)
    have ta : ∀ a b : List Nat, TL.tl (mkS a ++ mkS b) = a ++ b := fun a b => by
      rw [TL.tl_append]
      rfl
    have LL : ∀ a b : List Nat, a.length ≤ z.length → b.length ≤ z.length → (a ++ b).length ≤ z.length + z.length + 1 := fun a b h1 h2 => by
      rw [List.length_append]
      omega
    simp only [List.cons_append, List.nil_append, List.mem_cons, List.not_mem_nil, or_false] at hv
    rcases hv with ev | ev | ev | ev | ev | ev
    · refine fin _ ev _ (ta _ _) ?_ ?_
      · rw [List.append_assoc]
        exact .ins _ _ c (List.take_append_drop i _).symm
      · have e1 : ((TL.tl z).take i).length + ((TL.tl z).drop i).length = (TL.tl z).length := by rw [← List.length_append, List.take_append_drop]
        simp only [List.length_append, List.length_cons, List.length_nil]
        omega
    · exact fin _ ev _ (ta _ _) (.splice _ _ _ _ (List.take_append_drop i _).symm (List.take_append_drop (i + 1) _).symm) (LL _ _ (L _) (M _))
    · refine fin _ ev _ (ta _ _) ?_ ?_
      · rw [List.append_assoc]
        exact spo_rep
      · have e1 := L i
        have e2 := M (i + 1)
        simp only [List.length_append, List.length_cons, List.length_nil]
        omega
    · exact fin _ ev _ (ta _ _) (.splice _ _ _ _ (List.take_append_drop hi _).symm (List.take_append_drop lo _).symm) (LL _ _ (L _) (M _))
    · exact fin _ ev _ (ta _ _) (.splice _ _ _ _ (List.take_append_drop lo _).symm (List.take_append_drop hi _).symm) (LL _ _ (L _) (M _))
    · exact fin _ ev _ (ta _ _) (.splice _ _ _ _ (List.take_append_drop (i + 1) _).symm (List.take_append_drop i _).symm) (LL _ _ (L _) (M _))
end
end Ev

/-! ## name = {..: .. for ..}, the name a local of the def -/
namespace Ev
open PySem PySem.Spec PyProof.Rows L2
theorem swd_true {kx vx : Expr} {gs : List Comprehension} {sc : Scope} {p0 p1 : Pos} {nm : Str} {ln : Nat} {en : Env} (h1 : en.scope.kind = .function) (h2 : en.scope.names.lookup nm = some .local)
    (h3 : (p1.line == p0.line) = true) (h4 : (sc.names.any fun (n, k) => n == nm && (k == .local || k == .cell)) = false) : swapsWith (.DictComp kx vx gs sc p0) (some (.Name nm p1)) ln en = pure true := by
  have e1 : en.kindOf nm = some .local := h2
  have e2 : en.blockKind = .function := by
    unfold Env.blockKind
    rw [h1]
    rfl
  unfold swapsWith
  simp only [e2, e1, h4, Expr.pos, h3]
  rfl
theorem ps_setDc {X : Cx} {n : Nat} {nm : Str} {p0 p1 p2 : Pos} {kx vx tg it : Expr} {cs : List Expr} {sc : Scope} {own : List (Str × Nat)} {wi : TI} {g : TG} {tt : TT} {tk tv : TE} (hc : X.calm = true) (hN : X.N.Nodup) (h1 : X.N[n]? = some nm)
    (h2 : X.env.scope.names.lookup nm = some .local) (h3 : swapsWith (.DictComp kx vx [⟨tg, it, cs, 0⟩] sc p0) (some (.Name nm p1)) p2.line X.env = pure true) (hi : PI X tg it wi) (ok : BlkOk X.N X.env.scope sc own)
    (hg : ∀ (s : Shared) (H : Hp) (c : Addr) (l : List (Str × Addr)) (fp : List Addr), PG (X.blk s H sc (compEnvC sc l c X.env) fp) tg g) (ht : ∀ (s : Shared) (H : Hp) (c : Addr) (l : List (Str × Addr)) (fp : List Addr), PTs (X.blk s H sc (compEnvC sc l c X.env) fp) cs tt)
    (hk : ∀ (s : Shared) (H : Hp) (c : Addr) (l : List (Str × Addr)) (fp : List Addr), PE (X.blk s H sc (compEnvC sc l c X.env) fp) kx tk) (he : ∀ (s : Shared) (H : Hp) (c : Addr) (l : List (Str × Addr)) (fp : List Addr), PE (X.blk s H sc (compEnvC sc l c X.env) fp) vx tv)
    (hs : ∀ x, foldedSetIterable it X.env x = pure x := by intro _; rfl) : PS X (.Assign [.Name nm p1] (.DictComp kx vx [⟨tg, it, cs, 0⟩] sc p0) p2) (tAsg (tDc wi g tt tk tv (own.map (·.2))) (gName n)) := by
  constructor
  intro pins s σ H D I h
  have e0 := exec_Assign_Name_used (env := X.env) _ _ _ _ h3
  rw [e0]
  have h : tDc wi g tt tk tv (own.map (·.2)) σ H (fun x H1 => gName n x σ H1 D.nx) := h
  refine wpAny_bind (wpAny_standAt (wpAny_bind ?go))
  case go =>
    change wpAny _ X.A (do let _ ← comprehension (.DictComp kx vx [⟨tg, it, cs, 0⟩] sc p0) sc X.env (firstIterPos [⟨tg, it, cs, 0⟩] p0) newDict false (eval it X.env) (some (assign (.Name nm p1) X.env))) _ _ s
    refine wpAny_bind (thn (dc_core (Qf := fun _ z => SP X pins D .next z) hc hN I hi ok hg ht hk he hs h fun dd C s1 mm H1 I1 q hn fp => ?_) fun _ z hq => wpAny_pure (wpAny_pure hq))
    change wpAny _ _ (assign (.Name nm p1) X.env (.ref dd)) _ _ _
    refine wpAny_assign_Name (store_ok2 (v := V.ref dd) I1 hN h1 (.inl h2) rfl (fun s2 I2 ⟨aa, sb, ha⟩ => ?_) (.inr h2))
    obtain ⟨g0, g1, g2, g3, g4, g5⟩ := fp
    have ne : C ≠ aa := by
      rcases ha with z | z
      · rw [z]
        exact g1
      · exact fun e => g4 nm aa z e.symm
    exact ⟨mm, hn.sameBut sb ne, fun h' sb' => ⟨_, H1, I2.turned (t' := s2.toks) (fun b o hb e => (sb'.2 b hb).trans e) g0 g1 g3 g4 g5, q⟩⟩
/-! ### dicts by names -/
def mapD (names : List Str) (v : Str → V) : List (Key × V) := names.map fun n => ((.inr n : Key), v n)
section
variable {names : List Str} {v : Str → V} {x : Str} {u : V}
theorem mapD_len : (mapD names v).length = names.length := by
  unfold mapD
  rw [List.length_map]
theorem mapD_val (h : x ∈ names) : valV (mapD names v) (.inr x) = some (v x) := by
  induction names with
  | nil => cases h
  | cons n names ih =>
    by_cases e : n = x
    · subst e
      exact valV_pos rfl
    · rw [show mapD (n :: names) v = ((.inr n, v n) : Key × V) :: mapD names v from rfl, valV_neg (fun z => e (Sum.inr.inj z))]
      exact ih ((List.mem_cons.mp h).resolve_left fun z => e z.symm)
theorem mapD_any : ((mapD names v).any fun p => decide (p.1 = (.inr x : Key))) = decide (x ∈ names) := by
  induction names with
  | nil => rfl
  | cons n names ih =>
    rw [show mapD (n :: names) v = ((.inr n, v n) : Key × V) :: mapD names v from rfl, List.any_cons, ih]
    by_cases e : n = x
    · subst e
      simp
    · have h1 : decide ((Sum.inr n : Key) = Sum.inr x) = false := decide_eq_false fun z => e (Sum.inr.inj z)
      have h2 : ¬ x = n := fun z => e z.symm
      show (decide ((Sum.inr n : Key) = Sum.inr x) || decide (x ∈ names)) = _
      rw [h1, Bool.false_or]
      exact decide_eq_decide.mpr ⟨fun z => List.mem_cons_of_mem _ z, fun z => (List.mem_cons.mp z).resolve_left h2⟩
theorem mapD_put (h : x ∈ names) : putK (mapD names v) (.inr x) u = mapD names fun n => if n = x then u else v n := by
  unfold putK
  rw [mapD_any, decide_eq_true h, if_pos rfl]
  unfold mapD
  rw [List.map_map]
  refine List.map_congr_left fun n _ => ?_
  show (if (Sum.inr n : Key) = Sum.inr x then _ else _) = ((.inr n, if n = x then u else v n) : Key × V)
  by_cases e : n = x
  · subst e
    rw [if_pos rfl]
    simp
  · rw [if_neg fun z => e (Sum.inr.inj z), if_neg e]
theorem mapD_new (h : x ∉ names) : putK (mapD names v) (.inr x) u = mapD names v ++ [(.inr x, u)] := by
  unfold putK
  rw [mapD_any, decide_eq_false h, if_neg Bool.false_ne_true]
theorem mapD_snoc (h : x ∉ names) : mapD names v ++ [(.inr x, u)] = mapD (names ++ [x]) fun n => if n = x then u else v n := by
  unfold mapD
  rw [List.map_append]
  congr 1
  · refine List.map_congr_left fun n hn => ?_
    have ne : ¬ n = x := fun z => by
      rw [z] at hn
      exact h hn
    show _ = ((.inr n, if n = x then u else v n) : Key × V)
    rw [if_neg ne]
  · simp
end
theorem but_bu {H H' : Hp} {p : Addr} (b : Bu p H H') : Same (but H p) (but H' p) := fun x o e => by
  by_cases h : x = p
  · rw [h] at e
    have z : but H p p = none := if_pos rfl
    rw [z] at e
    cases e
  · rw [but_ne h] at e ⊢
    exact b x o h e
theorem but_in {H : Hp} {p : Addr} : Same (but H p) H := fun x o e => by
  by_cases h : x = p
  · rw [h] at e
    have z : but H p p = none := if_pos rfl
    rw [z] at e
    cases e
  · rw [but_ne h] at e
    exact e
theorem newer_but {H H' : Hp} {p : Addr} {o : HO} (hp : H p = some o) : Same (newer H H') (but H' p) := fun x u e => by
  by_cases hb : H x = none
  · rw [newer_at hb] at e
    have n : x ≠ p := fun z => by
      rw [z, hp] at hb
      cases hb
    rw [but_ne n]
    exact e
  · have z : newer H H' x = none := if_neg hb
    rw [z] at e
    cases e
theorem newer_in {H H' : Hp} : Same (newer H H') H' := fun b o e => by
  by_cases hb : H b = none
  · rw [newer_at hb] at e
    exact e
  · have z : newer H H' b = none := if_neg hb
    rw [z] at e
    cases e
/-! ### columns as data -/
def intsD (m : Nat) (f : Nat → Int) : List PyData := (List.range m).map fun c => .int (f c)
def colD (m : Nat) (p : Str × (Nat → Int)) : PyData := .tuple [.str p.1, .list (intsD m p.2)]
theorem da_LI {K : PySem.W.Frag} {H : Hp} {m : Nat} {f : Nat → Int} : DaAll K H (LI m f) (intsD m f) := by
  unfold LI intsD
  generalize List.range m = l
  induction l with
  | nil => exact .nil
  | cons c l ih => exact .cons (.int _) ih
theorem da_ints {K : PySem.W.Frag} {H : Hp} : ∀ {ns : List Int} {vs : List V}, DaAll K H vs (ns.map PyData.int) → vs = ns.map V.int
  | [], _, .nil => rfl
  | n :: ns, _, .cons h t => by
    cases h
    rw [da_ints t]
    rfl
theorem da_col {K : PySem.W.Frag} {H : Hp} {m : Nat} {v : V} {p : Str × (Nat → Int)} (h : Da K H v (colD m p)) : ∃ t q, v = .ref t ∧ SqT K H t [.str p.1, .ref q] ∧ SqL K H q (LI m p.2) := by
  unfold colD at h
  cases h with
  | @tup t xs _ hs ha =>
  cases ha with
  | cons h1 ha =>
  cases ha with
  | cons h2 ha =>
  cases ha
  cases h1
  cases h2 with
  | @lst q ys _ hq hb =>
  have e : intsD m p.2 = ((List.range m).map p.2).map PyData.int := by
    unfold intsD
    rw [List.map_map]
    rfl
  rw [e] at hb
  have e2 := da_ints hb
  rw [← LI_ints] at e2
  subst e2
  exact ⟨t, q, rfl, hs, hq⟩
/-! ### starts behind items -/
def Its.st (m : Nat) : List It → (Nat → Int) → (Nat → Int)
  | [], f => f
  | i :: is, f => Its.st m is (mvF m (It.w i).length f)
theorem cols_app (m : Nat) : ∀ (is js : List It) (f : Nat → Int), Its.cols m (is ++ js) f = Its.cols m is f ++ Its.cols m js (Its.st m is f)
  | [], js, f => by
    rw [List.nil_append, Its.cols, Its.st, List.nil_append]
  | i :: is, js, f => by
    rw [List.cons_append, Its.cols, Its.cols, cols_app m is js, Its.st, List.append_assoc]
theorem st_app (m : Nat) : ∀ (is js : List It) (f : Nat → Int), Its.st m (is ++ js) f = Its.st m js (Its.st m is f)
  | [], js, f => by
    rw [List.nil_append, Its.st]
  | i :: is, js, f => by
    rw [List.cons_append, Its.st, Its.st, st_app m is js]
theorem cols_take {m : Nat} {is : List It} {i : Nat} {it : It} {f : Nat → Int} (h : is[i]? = some it) : Its.cols m (is.take (i + 1)) f = Its.cols m (is.take i) f ++ It.cols m it (Its.st m (is.take i) f) := by
  rw [List.take_add_one, h, cols_app]
  show _ ++ Its.cols m [it] _ = _
  rw [Its.cols, Its.cols, List.append_nil]
theorem st_take {m : Nat} {is : List It} {i : Nat} {it : It} {f : Nat → Int} (h : is[i]? = some it) : Its.st m (is.take (i + 1)) f = mvF m (It.w it).length (Its.st m (is.take i) f) := by
  rw [List.take_add_one, h, st_app]
  rfl
theorem st_bd {R m : Nat} (hm : 0 < m) : ∀ (is : List It) {f : Nat → Int}, Bd R m f → Bd R m (Its.st m is f)
  | [], _, h => h
  | i :: is, _, h => st_bd hm is (bd_mv hm h)
mutual
theorem It.cols_len (m : Nat) : ∀ (i : It) (f : Nat → Int), (It.cols m i f).length = It.nl i
  | .line _ _, _ => by
    rw [It.cols, It.nl]
    rfl
  | .loop _ js, _ => by
    rw [It.cols, It.nl, Its.cols_len m js]
theorem Its.cols_len (m : Nat) : ∀ (is : List It) (f : Nat → Int), (Its.cols m is f).length = Its.nl is
  | [], _ => by
    rw [Its.cols, Its.nl]
    rfl
  | i :: is, _ => by
    rw [Its.cols, Its.nl, List.length_append, It.cols_len m i, Its.cols_len m is]
end
mutual
theorem It.cols_nm (m : Nat) (r : Int) : ∀ (i : It) (f : Nat → Int), (It.cols m i f).map (·.1) = (It.sp r i).map (·.1)
  | .line _ _, _ => by
    rw [It.cols, It.sp]
    rfl
  | .loop k js, _ => by
    rw [It.cols, It.sp, Its.cols_nm m (r * k) js]
theorem Its.cols_nm (m : Nat) (r : Int) : ∀ (is : List It) (f : Nat → Int), (Its.cols m is f).map (·.1) = (Its.sp r is).map (·.1)
  | [], _ => by
    rw [Its.cols, Its.sp]
    rfl
  | i :: is, _ => by
    rw [Its.cols, Its.sp, List.map_append, List.map_append, It.cols_nm m r i, Its.cols_nm m r is]
end
mutual
theorem It.w_bd {B : Nat} : ∀ (n : Nat) (i : It), Okp B n i → (It.w i).length ≤ It.nl i * 2 ^ ((n + 1) * B)
  | n, .line x t, h => by
    have h := okp_line.mp h
    rw [It.w, It.nl, List.length_replicate, Nat.one_mul]
    have : 2 ^ B ≤ 2 ^ ((n + 1) * B) := Nat.pow_le_pow_right (by decide) (Nat.le_mul_of_pos_left _ (Nat.succ_pos _))
    omega
  | 0, .loop _ _, h => h.elim
  | n + 1, .loop r js, h => by
    obtain ⟨h1, h2, h3⟩ : 0 ≤ r ∧ r < (2 ^ B : Nat) ∧ ∀ i ∈ js, Okp B n i := h
    rw [It.w, It.nl, flat_len]
    have a := Its.w_bd n js h3
    have b : r.toNat * (Its.w js).length ≤ 2 ^ B * (Its.nl js * 2 ^ ((n + 1) * B)) := Nat.mul_le_mul (by omega) a
    have e : 2 ^ B * (Its.nl js * 2 ^ ((n + 1) * B)) = Its.nl js * 2 ^ ((n + 1 + 1) * B) := by
      rw [← Nat.mul_assoc, Nat.mul_comm (2 ^ B), Nat.mul_assoc, ← Nat.pow_add, Nat.succ_mul (n + 1) B, Nat.add_comm B]
    omega
theorem Its.w_bd {B : Nat} : ∀ (n : Nat) (is : List It), (∀ i ∈ is, Okp B n i) → (Its.w is).length ≤ Its.nl is * 2 ^ ((n + 1) * B)
  | n, [], _ => by
    rw [Its.w]
    exact Nat.zero_le _
  | n, i :: is, h => by
    rw [Its.w, Its.nl, List.length_append, Nat.add_mul]
    exact Nat.add_le_add (It.w_bd n i (h i (List.mem_cons_self ..))) (Its.w_bd n is fun j hj => h j (List.mem_cons_of_mem _ hj))
end
theorem w_bits {B n : Nat} {is : List It} (h : ∀ i ∈ is, Okp B n i) (hn : Its.nl is ≤ 100000) : (Its.w is).length < 2 ^ (17 + (n + 1) * B) := by
  have a := Its.w_bd n is h
  rw [Nat.pow_add]
  have p : 0 < 2 ^ ((n + 1) * B) := Nat.pos_of_ne_zero (by simp)
  have b : Its.nl is * 2 ^ ((n + 1) * B) < 2 ^ 17 * 2 ^ ((n + 1) * B) := Nat.mul_lt_mul_of_pos_right (by omega) p
  omega
theorem _root_.L2.SqL.mono' {K : PySem.W.Frag} {H H' : Hp} {a : Addr} {xs : List V} (h : SqL K H a xs) (s : Same H H') : SqL K H' a xs := s.seq h
theorem okp_up1 {B : Nat} : ∀ {n : Nat} {i : It}, Okp B n i → Okp B (n + 1) i
  | n, .line x t, h => okp_line.mpr (okp_line.mp h)
  | 0, .loop r is, h => h.elim
  | n + 1, .loop r is, h => ⟨h.1, h.2.1, fun i hi => okp_up1 (h.2.2 i hi)⟩
theorem room_dn {B d M : Nat} (h : Room2 B M) (hd : d ≤ M) : Room2 B d := ⟨h.1, by
  have a := h.2
  have b : (d + 1) * B ≤ (M + 1) * B := Nat.mul_le_mul_right B (Nat.succ_le_succ hd)
  omega⟩
end Ev

/-! ## a comprehension over range() whose elements are new lists -/
namespace Ev
open PySem PySem.Spec PyProof.Rows L2
theorem lc_rngLL {σ : L2.St} {H : Hp} {Q : VK} {te : TE} {rows : Nat → List V} {ta : TA} {n : Nat} {g : TG} {vs : List Nat} (hta : ∀ (Q : List V → Hp → Prop), Q [.int (n : Nat)] H → ta σ H Q) (hz : n ≤ 1000000)
    (he : ∀ j : Nat, j < n → ∀ (H' : Hp) (R : VK), Same H H' → (∀ H'' l, Same H' H'' → H' l = none → H'' l = some (.lst (rows j)) → R (.ref l) H'') → g (.int (0 + j)) (wipe σ vs) H' fun σ2 H2 => wipe σ2 vs = wipe σ vs ∧ te σ2 H2 R)
    (q : ∀ H' D (qa : Nat → Addr), Same H H' → H D = none → H' D = some (.lst ((List.range n).map fun j => .ref (qa j))) → (∀ j, j < n → H (qa j) = none ∧ H' (qa j) = some (.lst (rows j))) → Q (.ref D) H') : tLc (iRng1 ta) g tYes te vs σ H Q := by
  refine hta _ ⟨(n : Nat), rfl, by omega, by omega, fun D nD => ?_⟩
  have y := sizeLine_eq
  rw [Int.toNat_natCast]
  refine lc_range (lo := 0) (n := n) (fun k H' => Same H H' ∧ ∃ qa : Nat → Addr, H' D = some (.lst ((List.range k).map fun j => .ref (qa j))) ∧ ∀ j, j < k → H (qa j) = none ∧ qa j ≠ D ∧ H' (qa j) = some (.lst (rows j)))
    ⟨same_put nD, fun _ => D, upd_same, fun j hj => absurd hj (Nat.not_lt_zero j)⟩ ?_ ?_
  · rintro k H' hk ⟨s', qa, eD, hq⟩
    refine cast ?_ (he k hk H' (fun y H4 => ∃ acc, H4 D = some (.lst acc) ∧ acc.length < sizeLine ∧ Same H (upd H4 D (.lst (acc ++ [y]))) ∧ ∃ qa : Nat → Addr, upd H4 D (.lst (acc ++ [y])) D = some (.lst ((List.range (k + 1)).map fun j => .ref (qa j))) ∧ ∀ j, j < k + 1 → H (qa j) = none ∧ qa j ≠ D ∧ upd H4 D (.lst (acc ++ [y])) (qa j) = some (.lst (rows j))) s' fun H4 l s4 nl h4 => ⟨_, s4 _ _ eD, ?_, ?_, fun j => if j = k then l else qa j, ?_, fun j hj => ?_⟩)
    · rfl
    · rw [List.length_map, List.length_range]
      omega
    · intro b o e
      rw [upd_ne (ne_of_none e nD)]
      exact s4 _ _ (s' _ _ e)
    · dsimp only
      rw [upd_same, List.range_succ, List.map_append, List.map_cons, List.map_nil, if_pos rfl]
      congr 3
      refine List.map_congr_left fun j hj => ?_
      rw [if_neg (by have := List.mem_range.mp hj; omega)]
    · have nlD : l ≠ D := fun e => by
        rw [e, eD] at nl
        cases nl
      by_cases e : j = k
      · dsimp only
        rw [if_pos e]
        refine ⟨none_of s' nl, nlD, ?_⟩
        rw [upd_ne nlD, e]
        exact h4
      · dsimp only
        rw [if_neg e]
        obtain ⟨g1, g2, g3⟩ := hq j (by omega)
        refine ⟨g1, g2, ?_⟩
        rw [upd_ne g2]
        exact s4 _ _ g3
  · rintro H' ⟨s', qa, eD, hq⟩
    exact q H' D qa s' nD eD fun j hj => ⟨(hq j hj).1, (hq j hj).2.2⟩
end Ev

/-! ## == and != where an own class has its own __eq__ -/
namespace Ev
open PySem PySem.Spec PyProof.Rows PySem.SeqAt L2
section
variable {prog : Program} {w : World} {A : Around} {E : Value → Shared → Prop} {s : Shared} {K : PySem.W.Frag} {x dx C l : Addr}
/-- a tuple is not equal to what is no tuple -/
theorem tup_declines {o : Obj} (X : K.In s.heap) (hx : s.heap.get? x = some (PySem.W.instObj C dx)) (ho : s.heap.get? l = some o) (hc : o.cls = .type "tuple") (hn : PySem.W.subIn K (.ref C) (.type "tuple") = some false) :
    wpAny (model prog w) A (tryCompare (.ref l) "__eq__" (.ref x)) (fun r s' => r = none ∧ s' = s) E s := by
  refine wpAny_tryCompare_declines (T := "tuple") ⟨o, ho, hc⟩ F.slot_tuple_eq (wpAny_call_entry F.slot_tuple_eq ⟨o, ho, hc⟩ F.entry_tuple_eq ?_ (F.args_tuple_eq_2 _ _))
  have sub : ∀ {A : Around} {Q : Bool → Shared → Prop} {E : Value → Shared → Prop}, Q false s → wpAny (model prog w) A (isSubtype (.ref C) (.type "tuple")) Q E s := fun q => (PySem.W.looks_subIn X hn).here q
  obtain ⟨pc, pdi, pda, psl⟩ := o
  dsimp only at hc
  subst hc
  unfold PySem.W.instObj at hx
  wp_walk using wpAny_loadPart' hx, wpAny_loadPart' ho, sub
  exact ⟨_, rfl, rfl, rfl, rfl⟩
theorem str_declines (z : Str) (tk : Tok) (hx : s.heap.get? x = some (PySem.W.instObj C dx)) :
    wpAny (model prog w) A (tryCompare (.str z tk) "__eq__" (.ref x)) (fun r s' => r = none ∧ s' = s) E s := by
  refine wpAny_tryCompare_declines (T := "str") (show s.TypeIs (.str z tk) "str" from rfl) F.slot_str_eq (wpAny_call_entry F.slot_str_eq (show s.TypeIs (.str z tk) "str" from rfl) F.entry_str_eq ?_ (F.args_str_eq_2 _ _))
  unfold PySem.W.instObj at hx
  wp_walk using wpAny_loadPart' hx
  exact ⟨_, rfl, rfl, rfl, rfl⟩
theorem int_declines (z : Int) (tk : Tok) (hx : s.heap.get? x = some (PySem.W.instObj C dx)) :
    wpAny (model prog w) A (tryCompare (.int z tk) "__eq__" (.ref x)) (fun r s' => r = none ∧ s' = s) E s := by
  refine wpAny_tryCompare_declines (T := "int") (typeIs_int s z tk) slot_int_eq (wpAny_call_entry slot_int_eq (typeIs_int s z tk) entry_int_eq ?_ (F.args_int_eq_2 _ _))
  unfold PySem.W.instObj at hx
  wp_walk using wpAny_loadPart' hx
  exact ⟨_, rfl, rfl, rfl, rfl⟩
theorem non_declines : wpAny (model prog w) A (tryCompare .none "__eq__" (.ref x)) (fun r s' => r = none ∧ s' = s) E s :=
  wpAny_tryCompare_declines (show s.TypeIs .none "NoneType" from rfl) F.slot_NoneType_eq_refl (call_gives F.slot_NoneType_eq_refl rfl F.entry_NoneType_eq (F.args_NoneType_eq_2 _ _) (NoneType___eq___none_ref_0 x) ⟨rfl, rfl, rfl⟩)
/-- what another thing declines, the own __eq__ answers -/
theorem rc_refl {b : Value} {T : String} {ox : Obj} {od : Option Obj} {f : Addr} {Q : Value → Shared → Prop} (hu : A.units < cLine) (X : K.In s.heap) (I : PySem.W.InstAt s.heap x ox C od) (hone : oneThing? .Eq b (.ref x) = none) (hb : PySem.W.Looks (model prog w) s.heap (typeOf b) (.type T))
    (hn : PySem.W.subIn K (.ref C) (.type T) = some false) (hd : wpAny (model prog w) A (tryCompare b "__eq__" (.ref x)) (fun r s' => r = none ∧ s' = s) E s) (hs : PySem.W.findIn K (.ref C) "__eq__" = some (some (.ref f))) (hf : PySem.W.isFn K (.ref f) = true)
    (h : wpAny (model prog w) A (call (.ref f) [.ref x, b]) (PySem.W.CmpBack Q) E s) : wpAny (model prog w) A (richCompare .Eq b (.ref x)) Q E s := by
  have own : wpAny (model prog w) A (tryCompare (.ref x) "__eq__" b) (fun r s' => ∃ v, r = some v ∧ Q v s') E s := by
    unfold tryCompare
    refine wpAny_bind (PySem.W.ifBound_K X I hs hf (wpAny_mono h (fun v _ hv => ?_) fun _ _ z => z))
    cases v
    all_goals first | exact False.elim hv | exact wpAny_pure ⟨_, rfl, hv⟩
  simp only [richCompare, cmpInfo_Eq, hone]
  refine wpAny_holding (wpAny_bind (wpAny_cRoomFor hu (wpAny_bind (hb.here (wpAny_bind (I.type.here ?_))))))
  rw [show (Value.type T != Value.ref C) = true from by simp]
  simp only [if_true]
  refine wpAny_bind ((PySem.W.looks_subIn X hn).here ?_)
  simp only [Bool.false_eq_true, if_false, Bool.not_false, if_true]
  refine wpAny_bind (wpAny_mono hd (fun r s1 ⟨z1, z2⟩ => ?_) fun _ _ z => z)
  subst z1 z2
  refine wpAny_bind (wpAny_mono own (fun r s1 ⟨v, z1, z2⟩ => ?_) fun _ _ z => z)
  subst z1
  exact wpAny_pure z2
/-- != is the opposite of the own __eq__ -/
theorem rc_ne {y f : Addr} {ox : Obj} {od : Option Obj} {Q : Value → Shared → Prop} (hu : A.units + 8 < cLine) (X : K.In s.heap) (I : PySem.W.InstAt s.heap x ox C od) (hb : PySem.W.Looks (model prog w) s.heap (typeOf (.ref y)) (.ref C)) (hm : PySem.W.mroIn K C (.type "object") = some true)
    (hne : PySem.W.findIn K (.ref C) "__ne__" = some (some (.builtin "object.__ne__"))) (hs : PySem.W.findIn K (.ref C) "__eq__" = some (some (.ref f))) (hf : PySem.W.isFn K (.ref f) = true)
    (h : wpAny (model prog w) A.in1 (call (.ref f) [.ref x, .ref y]) (fun v s' => ∃ c, v = .bool c ∧ Q (.bool (!c)) s') E s) : wpAny (model prog w) A (richCompare .NotEq (.ref x) (.ref y)) Q E s := by
  have inn : wpAny (model prog w) A.in1 (Builtin.«object.__ne__» ⟨[.ref x, .ref y], []⟩) (fun r s' => ∃ c, r = Fin.done (.ret (.bool (!c))) ∧ Q (.bool (!c)) s') E s := by
    have eqc : ∀ {Q' : Option Value → Shared → Prop}, (∀ c s', Q (.bool (!c)) s' → Q' (some (.bool c)) s') → wpAny (model prog w) A.in1 (callSpecialIfBound? (.ref x) "__eq__" [.ref y]) Q' E s := fun k =>
      PySem.W.ifBound_K X I hs hf (wpAny_mono h (fun v s' ⟨c, e, q⟩ => by subst e; exact k c s' q) fun _ _ z => z)
    have hu1 : A.in1.units < cLine := by show A.units + 1 < cLine; omega
    unfold Builtin.«object.__ne__»
    wp_walk using eqc, wpAny_cRoomFor hu1
    intro c s' q
    wp_walk
    exact ⟨c, rfl, q⟩
  have ty := I.type (M := model prog w)
  simp only [richCompare, cmpInfo_NotEq, oneThing_ref]
  refine wpAny_holding (wpAny_bind (wpAny_cRoomFor (by omega) (wpAny_bind (ty.here (wpAny_bind (hb.here ?_))))))
  rw [show (Value.ref C != Value.ref C) = false from by simp]
  simp only [Bool.false_eq_true, if_false]
  refine wpAny_bind (wpAny_pure ?_)
  simp only [Bool.false_eq_true, if_false]
  have one : wpAny (model prog w) A (tryCompare (.ref x) "__ne__" (.ref y)) (fun r s' => ∃ c, r = some (.bool (!c)) ∧ Q (.bool (!c)) s') E s := by
    have tyh : ∀ {A : Around} {Q : Value → Shared → Prop} {E : Value → Shared → Prop}, Q (.ref C) s → wpAny (model prog w) A (typeOf (.ref x)) Q E s := fun q => ty.here q
    have fnh : ∀ {A : Around} {Q : Option Value → Shared → Prop} {E : Value → Shared → Prop}, Q (some (.builtin "object.__ne__")) s → wpAny (model prog w) A (typeLookup (.ref C) "__ne__") Q E s := fun q => (PySem.W.looks_findIn X hne).here q
    have cal : ∀ {Q' : Value → Shared → Prop}, (∀ c s', Q (.bool (!c)) s' → Q' (.bool (!c)) s') → wpAny (model prog w) A (call (.builtin "object.__ne__") [.ref x, .ref y]) Q' E s := fun k =>
      wpAny_call (codeAny_call_builtin F.cmp_object.ne.plain F.cmpEntry_ne (PySem.W.check_slot F.cmpKind_ne F.cmpSplit_ne (ty.andThen (PySem.W.looks_mroIn X hm)) (F.cmpArgs_ne _ _) (wpAny_mono inn (fun r s' ⟨c, e, q⟩ => by subst e; exact k c s' q) fun _ _ z => z)))
    unfold tryCompare callSpecialIfBound? bindSpecialIfBound?
    wp_walk using tyh, fnh, cal
    simp only [F.cmp_object.ne.bind]
    refine wpAny_askSetting ?_
    refine wpAny_ite_split (fun _ => ?_) (fun _ => ?_)
    · refine wpAny_bind (wpAny_pure (wpAny_pure (wpAny_bind (cal fun c s' q => wpAny_pure (wpAny_pure ⟨c, rfl, q⟩)))))
    · refine wpAny_tryCatch (wpAny_bind (wpAny_pure (wpAny_pure (wpAny_bind (cal fun c s' q => wpAny_pure (wpAny_pure ⟨c, rfl, q⟩))))))
  refine wpAny_bind (wpAny_mono one (fun r s1 ⟨v, z1, z2⟩ => ?_) fun _ _ z => z)
  subst z1
  exact wpAny_pure z2
end
end Ev

/-! ## k60: the law -/
namespace Ev
open PySem PySem.Spec PyProof.Rows L2
open LamX (CodeO TabS Tabs ExtN TabB)
def spLaw (K : PySem.W.Frag) (ps : List Addr) : Sp := fun vs H Q _ => ∃ (a : Addr) (ns : List Int), vs = [.ref a] ∧ (∀ P ∈ ps, H P = some (.tbl #[])) ∧ Scr K H a (ns.map V.int) ∧ ∀ H', Q (.bl true) H'
theorem pool9_ok : pool9.all (fun x => decide (1 ≤ x.cps.size) && (decide (x.cps.size ≤ 8) && x.cps.toList.all letB)) = true := by decide +kernel
theorem pool9_okN {x : Str} (h : x ∈ pool9) : okN x := by
  have z := List.all_eq_true.mp pool9_ok x h
  rw [Bool.and_eq_true, Bool.and_eq_true, decide_eq_true_eq, decide_eq_true_eq, List.all_eq_true] at z
  exact ⟨z.1, z.2.1, z.2.2⟩
theorem wm_vt6 {T R : Int} (hT : T ≤ 1000000000000) (hR : R ≤ 1000000000000000000) : ∀ (n m : Nat) (i : It), m ≤ 20 → Wm T R n m i → Vt n i
  | n, m, .line x t, _, h => by
    have h := wm_line.mp h
    exact vt_line.mpr ⟨pool9_okN h.1, h.2.1, by omega⟩
  | 0, _, .loop r is, _, h => h.elim
  | n + 1, m, .loop r is, hm, h => by
    obtain ⟨h1, h2, h3, h4, h5⟩ : 1 ≤ r ∧ r ≤ R ∧ 1 ≤ is.length ∧ is.length ≤ 1 + m / 2 ∧ ∀ i ∈ is, Wm T R n (1 + m / 2) i := h
    exact ⟨h1, by omega, h3, by omega, fun i hi => wm_vt6 hT hR n _ i (by omega) (h5 i hi)⟩
theorem vt_up6 : ∀ (n k : Nat) (i : It), n ≤ k → Vt n i → Vt k i
  | n, k, .line x t, _, h => vt_line.mpr (vt_line.mp h)
  | 0, _, .loop r is, _, h => h.elim
  | n + 1, 0, .loop r is, hk, _ => absurd hk (Nat.not_succ_le_zero n)
  | n + 1, k + 1, .loop r is, hk, h => by
    obtain ⟨h1, h2, h3, h4, h5⟩ : 1 ≤ r ∧ r ≤ 1000000000000000000 ∧ 1 ≤ is.length ∧ is.length ≤ 20 ∧ ∀ i ∈ is, Vt n i := h
    exact ⟨h1, h2, h3, h4, fun i hi => vt_up6 n k i (by omega) (h5 i hi)⟩
theorem wm_pgi {T R : Int} (hT : T ≤ 1000000000000) (hR : R ≤ 1000000000000000000) {i : It} (h : Wm T R 1 3 i) : Pgi i ∧ It.ni i ≤ 3 := by
  have hv := wm_vt6 hT hR 1 3 i (by decide) h
  cases i with
  | line x t => exact ⟨vt_line.mpr (vt_line.mp hv), by rw [It.ni]; decide⟩
  | loop r is =>
    obtain ⟨h1, h2, h3, h4, h5⟩ : 1 ≤ r ∧ r ≤ R ∧ 1 ≤ is.length ∧ is.length ≤ 1 + 3 / 2 ∧ ∀ i ∈ is, Wm T R 0 (1 + 3 / 2) i := h
    refine ⟨⟨hv, h4⟩, ?_⟩
    have go : ∀ js : List It, (∀ j ∈ js, Wm T R 0 (1 + 3 / 2) j) → Its.ni js = js.length := fun js => by
      induction js with
      | nil => intro _; rw [Its.ni]; rfl
      | cons j js ih =>
        intro hj
        have hj0 := hj j (List.mem_cons_self ..)
        cases j with
        | line x t => rw [Its.ni, It.ni, ih fun k hk => hj k (List.mem_cons_of_mem _ hk), List.length_cons, Nat.add_comm]
        | loop _ _ => exact hj0.elim
    rw [It.ni, go is h5]
    have : is.length ≤ 2 := h4
    omega
theorem ni_sum6 {b : Nat} : ∀ {is : List It}, (∀ i ∈ is, It.ni i ≤ b) → Its.ni is ≤ is.length * b
  | [], _ => by
    rw [Its.ni]
    exact Nat.zero_le _
  | i :: is, h => by
    rw [Its.ni, List.length_cons, Nat.succ_mul]
    have a := h i (List.mem_cons_self ..)
    have c := ni_sum6 fun j hj => h j (List.mem_cons_of_mem _ hj)
    omega
def Th (t1 t2 t3 : Addr) (v : V) : Prop := (∃ z, v = .str z ∧ z.length ≤ 100000 ∧ Lim (TL.tl z)) ∨ v = .non ∨ v = .int 7 ∨ v = .ref t1 ∨ v = .ref t2 ∨ v = .ref t3
theorem mm3 (n : Int) : -(2 ^ 62) ≤ (if (if n < 3 then n else 3) > 1 then (if n < 3 then n else 3) else 1) ∧ (if (if n < 3 then n else 3) > 1 then (if n < 3 then n else 3) else 1) < 2 ^ 62 ∧ (if (if n < 3 then n else 3) > 1 then (if n < 3 then n else 3) else 1).toNat ≤ 3 := by
  split <;> split <;> omega
theorem hand_th {t1 t2 t3 : Addr} {zs : List Str} (h : zs.all (fun z => decide (z.length ≤ 100000) && decide (totL (TL.tl z) ≤ 4)) = true) : ∀ x ∈ zs.map V.str, Th t1 t2 t3 x := fun x hx => by
  obtain ⟨z, hz, rfl⟩ := List.mem_map.mp hx
  have k := List.all_eq_true.mp h z hz
  rw [Bool.and_eq_true, decide_eq_true_eq, decide_eq_true_eq] at k
  exact .inl ⟨z, rfl, k.1, lim_hand k.2⟩
structure S60 (K : PySem.W.Frag) (a Pt p l t1 t2 t3 : Addr) (n : Nat) (ns : List Int) (xs : List V) (H : Hp) : Prop where
  scr : Scr K H a (ns.map V.int)
  tab : TabS H Pt qRi
  pot : PotA p n H
  ls : H l = some (.lst xs)
  e1 : H t1 = some (.tup [.str "a:1"])
  e2 : H t2 = some (.lst [.str "a:1"])
  e3 : H t3 = some (.dK [])
  pl : p ≠ l
  p1 : p ≠ t1
  p2 : p ≠ t2
  p3 : p ≠ t3
  l1 : l ≠ t1
  l2 : l ≠ t2
  l3 : l ≠ t3
  th : ∀ x ∈ xs, Th t1 t2 t3 x
section
variable {K : PySem.W.Frag} {a Pt p l t1 t2 t3 D : Addr} {n m : Nat} {ns : List Int} {xs ys : List V} {H H' : Hp}
theorem S60.bu (h : S60 K a Pt p l t1 t2 t3 n ns xs H) (b : Bu p H H') (q : PotA p m H') : S60 K a Pt p l t1 t2 t3 m ns xs H' :=
  ⟨h.scr.kj (.kt (h.pot.kt b)), Ev.TabS.kj h.tab (.kt (h.pot.kt b)), q, b _ _ h.pl.symm h.ls, b _ _ h.p1.symm h.e1, b _ _ h.p2.symm h.e2, b _ _ h.p3.symm h.e3, h.pl, h.p1, h.p2, h.p3, h.l1, h.l2, h.l3, h.th⟩
theorem S60.ext (h : S60 K a Pt p l t1 t2 t3 n ns xs H) (b : ExtN H H') (q : TabS H' Pt qRi) : S60 K a Pt p l t1 t2 t3 n ns xs H' := by
  obtain ⟨zs, e, z⟩ := h.pot
  exact ⟨h.scr.ext b, q, ⟨zs, b _ _ e nofun, z⟩, b _ _ h.ls nofun, b _ _ h.e1 nofun, b _ _ h.e2 nofun, b _ _ h.e3 nofun, h.pl, h.p1, h.p2, h.p3, h.l1, h.l2, h.l3, h.th⟩
theorem S60.same (h : S60 K a Pt p l t1 t2 t3 n ns xs H) (b : Same H H') : S60 K a Pt p l t1 t2 t3 n ns xs H' := h.ext (.of b) (h.tab.ext b)
theorem kj_put (hD : ∃ acc, H D = some (.lst acc)) : Kj H (upd H D (.lst ys)) := fun b o e n1 n2 => by
  by_cases z : b = D
  · subst z
    obtain ⟨acc, ha⟩ := hD
    rw [ha] at e
    exact absurd (Option.some.inj e).symm (n1 acc)
  · rw [upd_ne z]
    exact e
theorem S60.put (h : S60 K a Pt p l t1 t2 t3 n ns xs H) (hD : ∃ acc, H D = some (.lst acc)) (d1 : p ≠ D) (d2 : l ≠ D) (d3 : t1 ≠ D) (d4 : t2 ≠ D) (d5 : t3 ≠ D) : S60 K a Pt p l t1 t2 t3 n ns xs (upd H D (.lst ys)) :=
  ⟨h.scr.kj (kj_put hD), Ev.TabS.kj h.tab (kj_put hD), h.pot.put d1, (upd_ne d2).trans h.ls, (upd_ne d3).trans h.e1, (upd_ne d4).trans h.e2, (upd_ne d5).trans h.e3, h.pl, h.p1, h.p2, h.p3, h.l1, h.l2, h.l3, h.th⟩
theorem S60.more (h : S60 K a Pt p l t1 t2 t3 n ns xs H) (hy : ∀ x ∈ ys, Th t1 t2 t3 x) : S60 K a Pt p l t1 t2 t3 n ns (xs ++ ys) (upd H l (.lst (xs ++ ys))) :=
  ⟨h.scr.kj (kj_put ⟨_, h.ls⟩), Ev.TabS.kj h.tab (kj_put ⟨_, h.ls⟩), h.pot.put h.pl, upd_same, (upd_ne h.l1.symm).trans h.e1, (upd_ne h.l2.symm).trans h.e2, (upd_ne h.l3.symm).trans h.e3, h.pl, h.p1, h.p2, h.p3, h.l1, h.l2, h.l3, fun x hx => by
    rcases List.mem_append.mp hx with hx | hx
    · exact h.th x hx
    · exact hy x hx⟩
theorem s60_init {HB H6 : Hp} (nl : HB l = none) (ss : Same H6 HB) (hS : Scr K H6 a (ns.map V.int)) (hT : TabS H6 Pt qRi) (hp : PotA p n H6) (e1 : HB t1 = some (.tup [.str "a:1"])) (e2 : HB t2 = some (.lst [.str "a:1"])) (e3 : HB t3 = some (.dK [])) (p2 : p ≠ t2) (th : ∀ x ∈ xs, Th t1 t2 t3 x) : S60 K a Pt p l t1 t2 t3 n ns xs (upd HB l (.lst xs)) := by
  have s1 : Same H6 (upd HB l (.lst xs)) := fun b o e => same_put nl b o (ss b o e)
  obtain ⟨zs, ep, z⟩ := id hp
  have eq := ss _ _ ep
  refine ⟨hS.ext (.of s1), hT.ext s1, hp.same s1, upd_same, same_put nl _ _ e1, same_put nl _ _ e2, same_put nl _ _ e3, ne_of_none eq nl, fun h => ?_, p2, fun h => ?_, (ne_of_none e1 nl).symm, (ne_of_none e2 nl).symm, (ne_of_none e3 nl).symm, th⟩
  · rw [h, e1] at eq
    cases eq
  · rw [h, e3] at eq
    cases eq
theorem S60.da (h : S60 K a Pt p l t1 t2 t3 n ns xs H) {x : V} (hx : Th t1 t2 t3 x) : ∃ dd, Da K H x dd ∧ ∀ z, dd = .str z → z.length ≤ 100000 ∧ Lim (TL.tl z) := by
  rcases hx with ⟨z, rfl, h1, h2⟩ | rfl | rfl | rfl | rfl | rfl
  · refine ⟨.str z, .str z, fun z' e => ?_⟩
    injection e with e
    subst e
    exact ⟨h1, h2⟩
  · exact ⟨_, .non, fun z e => nomatch e⟩
  · exact ⟨_, .int 7, fun z e => nomatch e⟩
  · exact ⟨_, .tup (.inl (.inl h.e1)) (.cons (.str _) .nil), fun z e => nomatch e⟩
  · exact ⟨_, .lst (.inl (.inl h.e2)) (.cons (.str _) .nil), fun z e => nomatch e⟩
  · exact ⟨_, .dic h.e3 .nil, fun z e => nomatch e⟩
end
theorem scLaw : FnScope ["_law_script", "_law_k", "_law_stream_here", "_law_page", "_law_some", "_law_turn", "_law_bent", "_law_thing"] ["_law_script"] (defScope (topS 36)) := ⟨rfl, rfl, rfl, by decide +kernel, rfl, by decide +kernel, by decide +kernel⟩
section
variable {P : Program} {w : World} {K : PySem.W.Frag} {mg : Str → Option Value} {base : Heap} {Pt : Addr}
theorem ok_law (hm : ∃ mm, base.Ns sysModules mm) {f : Addr} {fd : FuncData} (F : Fun K "law" "law" (topS 36) f fd) (C__law_stream : Cal P w K mg base 1 "_law_stream" ["_law_script", "_law_k"] (spPotS K)) (C__law_pick : Cal P w K mg base 2 "_law_pick" ["_law_stream_here", "_law_some"] (spPickU K))
    (C__law_items : Cal P w K mg base 5 "_law_items" ["_law_stream_here", "_law_many", "_law_deep", "_law_ticks", "_law_rounds"] (spItemsM K 1)) (C__law_text : Cal P w K mg base 6 "_law_text" ["_law_items_here"] (spTxL K 5)) (C__law_spoilt : Cal P w K mg base 3 "_law_spoilt" ["_law_stream_here", "_law_page"] spSp60) (C__law_right : Cal P w K mg base 19 "_law_right" ["_law_page"] (spRi60 K Pt)) (nb : NB mg) :
    FnG P w K mg base CX0 20 f fd ["_law_script"] (spLaw K [Pt]) := by
  refine okG F scLaw (fun vs H Q E h => ?_) (fun cdv A outer s H vs Q E hr gd h => ?_)
  · obtain ⟨a, ns, rfl, _⟩ := h
    rfl
  · obtain ⟨a, ns, rfl, hT, hS, q⟩ := h
    refine ⟨_, (pss_cons (ps_for PassesOwn.never rfl (pi_range1 rfl nb.at (pa_cons (pe_callB (call_max2 rfl) (by rfl) nb.at (by decide +kernel) (pa_cons pe_int (pa_cons (pe_callB (call_min2 rfl) (by rfl) nb.at (by decide +kernel) (pa_cons pe_int (pa_cons (pe_callB call_len_seq (by rfl) nb.at PySem.boot_len (pa_cons (pv 0) pa_nil)) pa_nil))) pa_nil))) pa_nil)) (pg_name (i := 1) scLaw.nd rfl (Or.inl rfl))
        (pss_cons (ps_set (i := 2) scLaw.nd rfl (.inl rfl) (pcall C__law_stream (hr.mono (by omega)) gd (by rfl) (pa_cons (pv 0) (pa_cons (pv 1) pa_nil))))
        (pss_cons (ps_set (i := 3) scLaw.nd rfl (.inl rfl) (pcall C__law_text (hr.mono (by omega)) gd (by rfl) (pa_cons (pcall C__law_items (hr.mono (by omega)) gd (by rfl) (pa_cons (pv 2) (pa_cons pe_int (pa_cons pe_int (pa_cons (pcall C__law_pick (hr.mono (by omega)) gd (by rfl) (pa_cons (pv 2) (pa_cons (pe_lst (pa_cons pe_int (pa_cons (pe_op op_pow pe_int pe_int) pa_nil))) pa_nil))) (pa_cons (pcall C__law_pick (hr.mono (by omega)) gd (by rfl) (pa_cons (pv 2) (pa_cons (pe_lst (pa_cons pe_int (pa_cons (pe_op op_pow pe_int pe_int) pa_nil))) pa_nil))) pa_nil)))))) pa_nil)))
        (pss_cons (ps_set (i := 4) scLaw.nd rfl (.inl rfl) (pe_lst (pa_cons pe_str (pa_cons pe_str (pa_cons pe_str (pa_cons pe_str (pa_cons pe_str (pa_cons pe_str (pa_cons pe_str (pa_cons pe_str (pa_cons pe_str (pa_cons pe_str (pa_cons pe_str (pa_cons pe_str (pa_cons pe_str pa_nil)))))))))))))))
        (pss_cons (ps_set (i := 4) scLaw.nd rfl (.inl rfl) (pe_op op_cat (pv 4) (pe_lst (pa_cons pe_str (pa_cons pe_str (pa_cons pe_str (pa_cons pe_str (pa_cons pe_str (pa_cons pe_str (pa_cons pe_str (pa_cons pe_str (pa_cons pe_str pa_nil))))))))))))
        (pss_cons (ps_set (i := 4) scLaw.nd rfl (.inl rfl) (pe_op op_cat (pv 4) (pe_lst (pa_cons pe_str (pa_cons pe_str pa_nil)))))
        (pss_cons (ps_set (i := 4) scLaw.nd rfl (.inl rfl) (pe_op op_cat (pv 4) (pe_lst (pa_cons pe_str (pa_cons pe_str (pa_cons pe_str (pa_cons pe_non (pa_cons pe_int (pa_cons (pe_tup (pa_cons pe_str pa_nil)) (pa_cons (pe_lst (pa_cons pe_str pa_nil)) (pa_cons pe_dnewK pa_nil)))))))))))
        (pss_cons (ps_for PassesOwn.never rfl (pi_range1 rfl nb.at (pa_cons pe_int pa_nil)) (pg_name (i := 5) scLaw.nd rfl (Or.inl rfl))
          (pss_cons (ps_set (i := 6) scLaw.nd rfl (.inl rfl) (pcall C__law_spoilt (hr.mono (by omega)) gd (by rfl) (pa_cons (pv 2) (pa_cons (pv 3) pa_nil))))
          (pss_one (ps_expr (pe_bm PySem.F.plainAttrs_list PySem.F.slot_list_extend PySem.F.type_list_extend mt_extend (pv 4) (pa_cons (pe_lst (pa_cons (pv 6) (pa_cons (pcall C__law_spoilt (hr.mono (by omega)) gd (by rfl) (pa_cons (pv 2) (pa_cons (pv 6) pa_nil))) pa_nil))) pa_nil))))))
        (pss_one (ps_if (pt_not (pt_val (pe_callB (cr_all rfl) (by rfl) nb.at (by decide +kernel) (pa_cons (pe_lc (own := [("_law_thing", 7)]) (g := (gName 7)) (tt := tYes) (te := (tCall (spRi60 K Pt) [] E0 (tCons (tVar 7) tNil))) rfl scLaw.nd (pi_list (pv 4)) (blkOk_by (N := ["_law_script", "_law_k", "_law_stream_here", "_law_page", "_law_some", "_law_turn", "_law_bent", "_law_thing"]) (sc := defScope (topS 36)) (by decide +kernel)) (fun _ _ _ _ _ => (pg_name (i := 7) scLaw.nd rfl (Or.inl rfl))) (fun _ _ _ _ _ => pts_nil) (fun _ _ _ _ _ => (pcall C__law_right (hr.mono (by omega)) gd (by rfl) (pa_cons (pv 7) pa_nil)))) pa_nil))))
          (pss_one (ps_ret pe_bl))
          pss_nil))))))))))
      (pss_one (ps_ret pe_bl))), ?_⟩
    have y := sizeLine_eq
    have T0 : TabS H Pt qRi := TabS.new (hT Pt (List.mem_singleton.mpr rfl))
    refine ⟨_, rfl, a, _, rfl, .inl hS.seq, 3, _, rfl, 1, _, rfl, _, rfl, (mm3 _).1, (mm3 _).2.1, for_range (lo := 0) (fun i σ' H' => ∃ y1 y2 y3 y4 y5 y6 y7 : Option V, σ' = [some (.ref a), y1, y2, y3, y4, y5, y6, y7] ∧ Scr K H' a (ns.map V.int) ∧ TabS H' Pt qRi)
      ⟨_, _, _, _, _, _, _, rfl, hS, T0⟩ ?_ (fun σ H _ => q H)⟩
    rintro i σ' H1 hi ⟨y1, y2, y3, y4, y5, y6, y7, rfl, hS1, hT1⟩
    have hi3 : i < 3 := Nat.lt_of_lt_of_le hi (mm3 _).2.2
    refine ⟨_, rfl, _, rfl, a, ns, _, rfl, hS1.seq, by omega, by omega, fun H2 p np s2 hp2 => ?_⟩
    have e12 : (10 : Int) ^ (12 : Int).toNat = 1000000000000 := by decide +kernel
    have e18 : (10 : Int) ^ (18 : Int).toNat = 1000000000000000000 := by decide +kernel
    refine ⟨_, rfl, _, rfl, 10, 12, rfl, rfl, ⟨by decide, by decide, by decide⟩, (by show 2 ≤ sizeLine; rw [y]; decide), fun q1 nq1 => ?_⟩
    dsimp only
    rw [e12]
    refine .inl ⟨p, q1, _, _, rfl, hp2.new nq1, by omega, hp2.ne nq1, .inl (.inl upd_same), by simp, by show 2 ≤ 1000000; decide, fun H3 v hb3 hp3 hv => ?_⟩
    obtain ⟨T, rfl, t1, t2⟩ : ∃ T : Int, v = .int T ∧ 1 ≤ T ∧ T ≤ 1000000000000 := by
      simp only [List.mem_cons, List.not_mem_nil, or_false] at hv
      rcases hv with rfl | rfl
      · exact ⟨9, rfl, by decide, by decide⟩
      · exact ⟨1000000000000, rfl, by decide, by decide⟩
    refine ⟨_, rfl, 10, 18, rfl, rfl, ⟨by decide, by decide, by decide⟩, (by show 2 ≤ sizeLine; rw [y]; decide), fun q2 nq2 => ?_⟩
    dsimp only
    rw [e18]
    refine .inl ⟨p, q2, _, _, rfl, hp3.new nq2, by omega, hp3.ne nq2, .inl (.inl upd_same), by simp, by show 2 ≤ 1000000; decide, fun H4 v hb4 hp4 hv => ?_⟩
    obtain ⟨R, rfl, r1, r2⟩ : ∃ R : Int, v = .int R ∧ 1 ≤ R ∧ R ≤ 1000000000000000000 := by
      simp only [List.mem_cons, List.not_mem_nil, or_false] at hv
      rcases hv with rfl | rfl
      · exact ⟨9, rfl, by decide, by decide⟩
      · exact ⟨1000000000000000000, rfl, by decide, by decide⟩
    have h900 : (1000000000000000000 : Int) < ((2 ^ 900 : Nat) : Int) := by decide +kernel
    refine ⟨1, by decide, p, 3, _, T, R, rfl, hp4, by decide, by decide, t1, by omega, r1, by omega, (by show _ + 112 ≤ _; omega), fun H5 u is hb5 hp5 hd5 k1 k2 hw => ?_⟩
    have hpg : ∀ i ∈ is, Pgi i ∧ It.ni i ≤ 3 := fun i hi => wm_pgi t2 r2 (hw i hi)
    have hni : Its.ni is ≤ 9 := Nat.le_trans (ni_sum6 fun i hi => (hpg i hi).2) (by omega)
    have hvt : ∀ i ∈ is, Vt 5 i := fun i hi => vt_up6 1 5 i (by decide) (wm_vt6 t2 r2 1 3 i (by decide) (hw i hi))
    refine ⟨u, is, rfl, hd5, hvt, by omega, fun H6 s6 => ?_⟩
    have hpgl : PgL (Its.tx is) := pgL_of (fun i hi => (hpg i hi).1) k2
    have hlen : (mkS (Its.tx is)).length ≤ 369 := by
      rw [len_mk]
      have := Its.tx_len 5 is hvt
      omega
    generalize hz : mkS (Its.tx is) = z at hlen
    have hzp : PgL (TL.tl z) := by
      rw [← hz]
      exact hpgl
    have hp6 := hp5.same s6
    have hbud : budB 1 3 = 112 := by decide
    rw [hbud] at hp6
    have kj : Kj H1 H6 := by
      have a1 : Kj H1 H2 := .of s2
      have a2 : Kj H2 H3 := fun b o e n1 n2 => (Kj.kt ((hp2.new nq1).kt hb3)) b o (same_put nq1 b o e) n1 n2
      have a3 : Kj H3 H4 := fun b o e n1 n2 => (Kj.kt ((hp3.new nq2).kt hb4)) b o (same_put nq2 b o e) n1 n2
      have a4 : Kj H4 H5 := .kt (hp4.kt hb5)
      exact fun b o e n1 n2 => s6 b o (a4 b o (a3 b o (a2 b o (a1 b o e n1 n2) n1 n2) n1 n2) n1 n2)
    have hS6 := hS1.kj kj
    have hT6 := Ev.TabS.kj hT1 kj
    clear kj
    refine ⟨(by show 13 ≤ sizeLine; rw [y]; decide), fun l1 nl1 => ?_⟩
    have w1 := same_put (o := .lst [.str "", .str " ", .str "a", .str "a:", .str "a:0", .str "a:1", .str "a:1 ", .str " a:1", .str "a:1  b:1", .str "1*(", .str "1*()", .str "1*(a:1)", .str "1*(a:1"]) nl1
    refine ⟨_, rfl, (by show 9 ≤ sizeLine; rw [y]; decide), fun m1 nm1 => ⟨l1, m1, _, _, rfl, rfl, same_put nm1 _ _ upd_same, upd_same, (by show 13 + 9 ≤ sizeLine; rw [y]; decide), fun l2 nl2 => ?_⟩⟩
    refine ⟨_, rfl, (by show 2 ≤ sizeLine; rw [y]; decide), fun m2 nm2 => ⟨l2, m2, _, _, rfl, rfl, same_put nm2 _ _ upd_same, upd_same, (by show 22 + 2 ≤ sizeLine; rw [y]; decide), fun l3 nl3 => ?_⟩⟩
    refine ⟨_, rfl, (by show 1 ≤ sizeLine; rw [y]; decide), fun t1 nt1 => ⟨(by show 1 ≤ sizeLine; rw [y]; decide), fun t2 nt2 => fun t3 nt3 => ⟨(by show 8 ≤ sizeLine; rw [y]; decide), fun m3 nm3 => ⟨l3, m3, _, _, rfl, rfl, (same_put nm3) _ _ ((same_put nt3) _ _ ((same_put nt2) _ _ ((same_put nt1) _ _ upd_same))), upd_same, (by show 24 + 8 ≤ sizeLine; rw [y]; decide), fun l4 nl4 => ?_⟩⟩⟩⟩
    refine ⟨25, rfl, by decide, by decide, for_range (lo := 0) (n := 25) (fun j σ' H' => ∃ (xs : List V) (y5 y6 y7 : Option V), σ' = [some (.ref a), some (.int (0 + (i : Int))), some (.ref p), some (.str z), some (.ref l4), y5, y6, y7] ∧ S60 K a Pt p l4 t1 t2 t3 (200 + 10 * j) ns xs H' ∧ xs.length ≤ 100 + 2 * j)
      ⟨_, _, _, _, rfl, s60_init nl4 (fun b o e => (same_put nm3) b o ((same_put nt3) b o ((same_put nt2) b o ((same_put nt1) b o ((same_put nl3) b o ((same_put nm2) b o ((same_put nl2) b o ((same_put nm1) b o ((same_put nl1) b o e))))))))) hS6 hT6 (hp6.up (by omega)) ((same_put nm3) _ _ ((same_put nt3) _ _ ((same_put nt2) _ _ upd_same))) ((same_put nm3) _ _ ((same_put nt3) _ _ upd_same)) ((same_put nm3) _ _ upd_same)
        (by
          obtain ⟨zs, ep, _⟩ := hp6
          exact ne_of_none ((same_put nt1) _ _ ((same_put nl3) _ _ ((same_put nm2) _ _ ((same_put nl2) _ _ ((same_put nm1) _ _ ((same_put nl1) _ _ ep)))))) nt2) ?_, ?_⟩ ?_ ?_⟩
    · intro x hx
      rcases List.mem_append.mp hx with hx | hx
      · rcases List.mem_append.mp hx with hx | hx
        · rcases List.mem_append.mp hx with hx | hx
          · exact hand_th (zs := ["", " ", "a", "a:", "a:0", "a:1", "a:1 ", " a:1", "a:1  b:1", "1*(", "1*()", "1*(a:1)", "1*(a:1"]) (by decide +kernel) x hx
          · exact hand_th (zs := ["1*a:1", "0*(a:1)", "01*(a:1)", "(a:1)", "a:1)", "1*(a:1))", "2(a:1)", "2 *(a:1)", "A:1"]) (by decide +kernel) x hx
        · exact hand_th (zs := ["a:1\n", "a:1.0"]) (by decide +kernel) x hx
      · have hx : x ∈ [V.str "1*(a:1 )", V.str "1*( a:1)", V.str "1*(a:1)b:1"] ++ [V.non, V.int 7, V.ref t1, V.ref t2, V.ref t3] := hx
        rcases List.mem_append.mp hx with hx | hx
        · exact hand_th (zs := ["1*(a:1 )", "1*( a:1)", "1*(a:1)b:1"]) (by decide +kernel) x hx
        · simp only [List.mem_cons, List.not_mem_nil, or_false] at hx
          exact .inr hx
    · show 32 ≤ _
      omega
    · rintro j σ' H7 hj ⟨xs, y5, y6, y7, rfl, h7, hx7⟩
      refine ⟨_, rfl, _, rfl, p, z, _, rfl, h7.pot, by omega, by omega, fun H8 z1 hb8 hp8 hs1 hn1 => ?_⟩
      have h8 := h7.bu hb8 hp8
      refine ⟨_, rfl, .inl ⟨rfl, xs, .inl (.inl h8.ls)⟩, _, rfl, _, rfl, _, rfl, p, z1, _, rfl, h8.pot, by omega, by omega, fun H9 z2 hb9 hp9 hs2 hn2 => ?_⟩
      have h9 := h8.bu hb9 hp9
      refine ⟨(by show 2 ≤ sizeLine; rw [y]; decide), fun m nm => ?_⟩
      have hA := h9.same (same_put (o := .lst [.str z1, .str z2]) nm)
      refine ⟨l4, m, xs, [.str z1, .str z2], rfl, rfl, hA.ls, upd_same, (by show xs.length + 2 ≤ sizeLine; omega), ?_⟩
      have hB := hA.more (ys := [.str z1, .str z2]) (fun x hx => by
        simp only [List.mem_cons, List.not_mem_nil, or_false] at hx
        rcases hx with rfl | rfl
        · exact .inl ⟨z1, rfl, by omega, hzp.once hs1⟩
        · exact .inl ⟨z2, rfl, by omega, hzp.twice hs1 hs2⟩)
      refine ⟨xs ++ [.str z1, .str z2], _, _, _, rfl, ⟨hB.scr, hB.tab, hB.pot.up (by omega), hB.ls, hB.e1, hB.e2, hB.e3, hB.pl, hB.p1, hB.p2, hB.p3, hB.l1, hB.l2, hB.l3, hB.th⟩, ?_⟩
      rw [List.length_append]
      show xs.length + 2 ≤ _
      omega
    · rintro σ' H7 ⟨xs, y5, y6, y7, rfl, h7, hx7⟩
      refine ⟨_, rfl, l4, rfl, ⟨xs, .inl (.inl h7.ls)⟩, fun D nD => lc_it (walk_list (K := K) (a := l4) (xs := xs)) (fun k H' => S60 K a Pt p l4 t1 t2 t3 (200 + 10 * 25) ns xs H' ∧ H' D = some (.lst (List.replicate k (V.bl true)))) ⟨h7.same (same_put nD), upd_same⟩ (fun k H' _ h => .inl (.inl h.1.ls)) ?_ ?_⟩
      · rintro k x H8 H9 hk ⟨h8, hD8⟩ ⟨rfl, hx⟩
        obtain ⟨dd, hda, hdz⟩ := h8.da (h8.th x (List.mem_of_getElem? hx))
        refine ⟨rfl, ?_⟩
        dsimp only [tYes]
        rw [if_pos rfl]
        refine ⟨_, rfl, x, dd, rfl, hda, hdz, h8.tab, fun HA xA TA => ?_⟩
        have hA := h8.ext xA TA
        have hDA : HA D = some (.lst (List.replicate k (V.bl true))) := xA _ _ hD8 nofun
        obtain ⟨pz, pe, _⟩ := h7.pot
        refine ⟨_, hDA, (by rw [List.length_replicate]; omega), hA.put ⟨_, hDA⟩ (ne_of_none pe nD) (ne_of_none h7.ls nD) (ne_of_none h7.e1 nD) (ne_of_none h7.e2 nD) (ne_of_none h7.e3 nD), ?_⟩
        rw [upd_same, List.replicate_succ']
      · rintro H8 ⟨h8, hD8⟩
        refine ⟨D, List.replicate xs.length true, rfl, .inl (.inl (by rw [List.map_replicate]; exact hD8)), ?_⟩
        have eall : (List.replicate xs.length true).all id = true := List.all_eq_true.mpr fun b hb => (List.mem_replicate.mp hb).2
        rw [eall]
        exact ⟨true, rfl, iteF ⟨_, _, _, _, _, _, _, rfl, h8.scr, h8.tab⟩⟩
end
end Ev

/-! ## The errors' __init__ -/
namespace Ev
open PySem PySem.Spec PyProof.Rows L2
section
variable {P : Program} {w : World} {K : PySem.W.Frag} {mg : Str → Option Value} {base : Heap} {f : Addr} {fd : FuncData} {S C : Addr}
theorem scBadProgram : FnScope ["self", "value"] ["self", "value"] (defScope (inClass (topS 2) 0)) :=
  ⟨rfl, rfl, rfl, by decide +kernel, rfl, by decide +kernel, by decide +kernel⟩
theorem initBadProgram (F : Fun K "__init__" "BadProgram.__init__" (inClass (topS 2) 0) f fd) (B : BaseT K mg S) (T : ErrC K C)
    (no : PySem.W.findIn K (.ref C) "value" = some none) : FnOk P w K mg base CX0 1 f fd ["self", "value"] (spInit1 C "value") := by
  refine F.ok scBadProgram (fun vs H Q E h => ?_) (fun cdv A outer s H vs Q E hr h => ?_)
  · obtain ⟨a, v, rfl, _⟩ := h
    rfl
  · obtain ⟨a, v, rfl, ha, q⟩ := h
    refine ⟨_, pss_cons (ps_expr (pe_seInit (by rfl) B.g B.sg B.rd B.vV (pa_cons (pv 0) (pa_cons pe_str pa_nil)))) (pss_one (ps_ost (pv 0) (pv 1))), ?_⟩
    exact ⟨_, rfl, a, C, [_], rfl, (by show 1 ≤ 1000; decide), T.ox, ha, _, rfl, _, rfl, a, C, rfl, T.ox, no, .inl ⟨ha, q⟩⟩
theorem scBadText : FnScope ["self", "position"] ["self", "position"] (defScope (inClass (topS 3) 0)) :=
  ⟨rfl, rfl, rfl, by decide +kernel, rfl, by decide +kernel, by decide +kernel⟩
theorem initBadText (F : Fun K "__init__" "BadText.__init__" (inClass (topS 3) 0) f fd) (B : BaseT K mg S) (T : ErrC K C)
    (no : PySem.W.findIn K (.ref C) "position" = some none) : FnOk P w K mg base CX0 1 f fd ["self", "position"] (spInit1 C "position") := by
  refine F.ok scBadText (fun vs H Q E h => ?_) (fun cdv A outer s H vs Q E hr h => ?_)
  · obtain ⟨a, v, rfl, _⟩ := h
    rfl
  · obtain ⟨a, v, rfl, ha, q⟩ := h
    refine ⟨_, pss_cons (ps_expr (pe_seInit (by rfl) B.g B.sg B.rd B.vV (pa_cons (pv 0) (pa_cons pe_str pa_nil)))) (pss_one (ps_ost (pv 0) (pv 1))), ?_⟩
    exact ⟨_, rfl, a, C, [_], rfl, (by show 1 ≤ 1000; decide), T.ox, ha, _, rfl, _, rfl, a, C, rfl, T.ox, no, .inl ⟨ha, q⟩⟩
theorem scBadCommand : FnScope ["self", "line"] ["self", "line"] (defScope (inClass (topS 4) 0)) :=
  ⟨rfl, rfl, rfl, by decide +kernel, rfl, by decide +kernel, by decide +kernel⟩
theorem initBadCommand (F : Fun K "__init__" "BadCommand.__init__" (inClass (topS 4) 0) f fd) (B : BaseT K mg S) (T : ErrC K C)
    (no : PySem.W.findIn K (.ref C) "line" = some none) : FnOk P w K mg base CX0 1 f fd ["self", "line"] (spInit1 C "line") := by
  refine F.ok scBadCommand (fun vs H Q E h => ?_) (fun cdv A outer s H vs Q E hr h => ?_)
  · obtain ⟨a, v, rfl, _⟩ := h
    rfl
  · obtain ⟨a, v, rfl, ha, q⟩ := h
    refine ⟨_, pss_cons (ps_expr (pe_seInit (by rfl) B.g B.sg B.rd B.vV (pa_cons (pv 0) (pa_cons pe_str pa_nil)))) (pss_one (ps_ost (pv 0) (pv 1))), ?_⟩
    exact ⟨_, rfl, a, C, [_], rfl, (by show 1 ≤ 1000; decide), T.ox, ha, _, rfl, _, rfl, a, C, rfl, T.ox, no, .inl ⟨ha, q⟩⟩

end
end Ev

/-! ## What the top has written -/
namespace Ev
open PySem PySem.Spec PyProof.Rows L2
open PySem.W (typeIn keepIn codeIn nsIn)
def initB (K : PySem.W.Frag) (fI : Addr) (cd : Value) (q : Str) : Bool := (typeIn K (.ref fI) == some (.type "function")) && (codeIn K cd q && keepIn K (.ref fI))
theorem initB_ok {K : PySem.W.Frag} {fI : Addr} {cd : Value} {q : Str} (h : initB K fI cd q = true) : typeIn K (.ref fI) = some (.type "function") ∧ codeIn K cd q = true ∧ keepIn K (.ref fI) = true := by
  unfold initB at h
  simpa only [Bool.and_eq_true, beq_iff_eq] using h
open PySem.W (findIn subIn specialIn takesIn mroIn clsIn hasDictIn readsIn findCls)
def errB (K : PySem.W.Frag) (C : Addr) : Bool :=
  (findIn K (.ref C) "__setattr__" == some (some (.builtin "object.__setattr__"))) && ((subIn K (.ref C) (.type "BaseException") == some true) &&
  ((typeIn K (.ref C) == some (.type "type")) && (keepIn K (.ref C) && ((findIn K (.ref C) "__getattribute__" == some (some (.builtin "BaseException.__getattribute__"))) &&
  ((findIn K (.ref C) "__getattr__" == some none) && ((findIn K (.ref C) "__class__" == some (some (.builtin "object.__class__"))) &&
  ((specialIn K (.builtin "object.__class__") "__get__" == some (some (.builtin "getset_descriptor.__get__"))) && ((takesIn K (.builtin "object.__class__") == some true) &&
  ((mroIn K C (.type "object") == some true) && ((clsIn K C).isSome && hasDictIn K C))))))))))
theorem errB_ok {K : PySem.W.Frag} {C : Addr} (h : errB K C = true)
    (x : ∃ nm q N bs bm sn sub ab col dd k0 k1 k2 k3 k5, K.lookup C = some (excClassObj nm q C N bs bm true sn sub ab col dd k0 k1 k2 k3 k5 "ValueError.__new__") ∧ PySem.HandSPX.refsVE bm = true) : ErrC K C := by
  unfold errB at h
  simp only [Bool.and_eq_true, beq_iff_eq] at h
  obtain ⟨h1, h2, h3, h4, h5, h6, h7, h8, h9, h10, h11, h12⟩ := h
  exact ⟨⟨x, h1, h2, h3, h4⟩, h5, h6, h7, h8, h9, h10, h11, h12⟩
def baseB (K : PySem.W.Frag) (S : Addr) : Bool := (specialIn K (.ref S) "__getattribute__" == some (some (.builtin "type.__getattribute__"))) && readsIn K S (.type "type")
theorem all_mk {P : Program} {w : World} {K : PySem.W.Frag} {h : Heap} {mg : Str → Option Value} {fa : Addr} (X : K.In h) (G : h.Ns mainGlobals mg) (hfa : mg "law" = some (.ref fa))
    (cs : List (Addr × Addr)) (hcs : Paired (TabF h mg) ["_law_right"] cs)
    {g12 : Addr} {ode12 ane12 : Option Addr} {sle12 : Array (Option Value)} {oce12 kVe12 dce12 pme12 cde12 cte12 : Value}
    {g13 : Addr} {ode13 ane13 : Option Addr} {sle13 : Array (Option Value)} {oce13 kVe13 dce13 pme13 cde13 cte13 : Value}
    {g14 : Addr} {ode14 ane14 : Option Addr} {sle14 : Array (Option Value)} {oce14 kVe14 dce14 pme14 cde14 cte14 : Value}
    {g15 : Addr} {ode15 ane15 : Option Addr} {sle15 : Array (Option Value)} {oce15 kVe15 dce15 pme15 cde15 cte15 : Value}
    {g16 : Addr} {ode16 ane16 : Option Addr} {sle16 : Array (Option Value)} {oce16 kVe16 dce16 pme16 cde16 cte16 : Value}
    {g17 : Addr} {ode17 ane17 : Option Addr} {sle17 : Array (Option Value)} {oce17 kVe17 dce17 pme17 cde17 cte17 : Value}
    {g18 : Addr} {ode18 ane18 : Option Addr} {sle18 : Array (Option Value)} {oce18 kVe18 dce18 pme18 cde18 cte18 : Value}
    {g20 : Addr} {ode20 ane20 : Option Addr} {sle20 : Array (Option Value)} {oce20 kVe20 dce20 pme20 cde20 cte20 : Value}
    {g21 : Addr} {ode21 ane21 : Option Addr} {sle21 : Array (Option Value)} {oce21 kVe21 dce21 pme21 cde21 cte21 : Value}
    {g22 : Addr} {ode22 ane22 : Option Addr} {sle22 : Array (Option Value)} {oce22 kVe22 dce22 pme22 cde22 cte22 : Value}
    {g23 : Addr} {ode23 ane23 : Option Addr} {sle23 : Array (Option Value)} {oce23 kVe23 dce23 pme23 cde23 cte23 : Value}
    {g24 : Addr} {ode24 ane24 : Option Addr} {sle24 : Array (Option Value)} {oce24 kVe24 dce24 pme24 cde24 cte24 : Value}
    {g25 : Addr} {ode25 ane25 : Option Addr} {sle25 : Array (Option Value)} {oce25 kVe25 dce25 pme25 cde25 cte25 : Value}
    {g26 : Addr} {ode26 ane26 : Option Addr} {sle26 : Array (Option Value)} {oce26 kVe26 dce26 pme26 cde26 cte26 : Value}
    {g27 : Addr} {ode27 ane27 : Option Addr} {sle27 : Array (Option Value)} {oce27 kVe27 dce27 pme27 cde27 cte27 : Value}
    {g28 : Addr} {ode28 ane28 : Option Addr} {sle28 : Array (Option Value)} {oce28 kVe28 dce28 pme28 cde28 cte28 : Value}
    {g29 : Addr} {ode29 ane29 : Option Addr} {sle29 : Array (Option Value)} {oce29 kVe29 dce29 pme29 cde29 cte29 : Value}
    {g30 : Addr} {ode30 ane30 : Option Addr} {sle30 : Array (Option Value)} {oce30 kVe30 dce30 pme30 cde30 cte30 : Value}
    {g31 : Addr} {ode31 ane31 : Option Addr} {sle31 : Array (Option Value)} {oce31 kVe31 dce31 pme31 cde31 cte31 : Value}
    {g32 : Addr} {ode32 ane32 : Option Addr} {sle32 : Array (Option Value)} {oce32 kVe32 dce32 pme32 cde32 cte32 : Value}
    {g33 : Addr} {ode33 ane33 : Option Addr} {sle33 : Array (Option Value)} {oce33 kVe33 dce33 pme33 cde33 cte33 : Value}
    {g34 : Addr} {ode34 ane34 : Option Addr} {sle34 : Array (Option Value)} {oce34 kVe34 dce34 pme34 cde34 cte34 : Value}
    {g35 : Addr} {ode35 ane35 : Option Addr} {sle35 : Array (Option Value)} {oce35 kVe35 dce35 pme35 cde35 cte35 : Value}
    {g36 : Addr} {ode36 ane36 : Option Addr} {sle36 : Array (Option Value)} {oce36 kVe36 dce36 pme36 cde36 cte36 : Value}
    {t_MOST_LETTERS : Tok}
    {t_MOST_TICKS : Tok}
    {t_MOST_ROUNDS : Tok}
    {t_MOST_BESIDE : Tok}
    {t_MOST_ITEMS : Tok}
    {t_MOST_DEEP : Tok}
    {cS : Addr} {nmS qnS : Str} {NS : Addr} {bsS : List Value} {snS : List Str} {subS : List Value} {abS : Bool} {colS : Option Bool} {ddS : Option Addr} {pS rS sS tS_ wS : Option Value}
    {c2 : Addr} {nm2 qn2 : Str} {N2 : Addr} {bs2 : List Value} {sn2 : List Str} {sub2 : List Value} {ab2 : Bool} {col2 : Option Bool} {dd2 : Option Addr} {p2 r2 s2 t2_ w2 : Option Value}
    {c3 : Addr} {nm3 qn3 : Str} {N3 : Addr} {bs3 : List Value} {sn3 : List Str} {sub3 : List Value} {ab3 : Bool} {col3 : Option Bool} {dd3 : Option Addr} {p3 r3 s3 t3_ w3 : Option Value}
    {j3 : Addr} {od3 an3 : Option Addr} {sl3 : Array (Option Value)} {oc3 kV3 dc3 pm3 cd3 ct3 : Value}
    {c4 : Addr} {nm4 qn4 : Str} {N4 : Addr} {bs4 : List Value} {sn4 : List Str} {sub4 : List Value} {ab4 : Bool} {col4 : Option Bool} {dd4 : Option Addr} {p4 r4 s4 t4_ w4 : Option Value}
    (A12 : nsIn K mainGlobals "read_program" = some (some (.ref g12)))
    (L12 : K.lookup g12 = some ⟨oce12, ode12, .func (PySem.W.fnOf "read_program" "read_program" (defArgs (topS 12)) (defBody (topS 12)) (defScope (topS 12)) .none kVe12 dce12 pme12 ane12 cde12 cte12), sle12⟩)
    (H12 : initB K g12 cde12 "read_program" = true)
    (A13 : nsIn K mainGlobals "read_items" = some (some (.ref g13)))
    (L13 : K.lookup g13 = some ⟨oce13, ode13, .func (PySem.W.fnOf "read_items" "read_items" (defArgs (topS 13)) (defBody (topS 13)) (defScope (topS 13)) .none kVe13 dce13 pme13 ane13 cde13 cte13), sle13⟩)
    (H13 : initB K g13 cde13 "read_items" = true)
    (A14 : nsIn K mainGlobals "read_item" = some (some (.ref g14)))
    (L14 : K.lookup g14 = some ⟨oce14, ode14, .func (PySem.W.fnOf "read_item" "read_item" (defArgs (topS 14)) (defBody (topS 14)) (defScope (topS 14)) .none kVe14 dce14 pme14 ane14 cde14 cte14), sle14⟩)
    (H14 : initB K g14 cde14 "read_item" = true)
    (A15 : nsIn K mainGlobals "read_name" = some (some (.ref g15)))
    (L15 : K.lookup g15 = some ⟨oce15, ode15, .func (PySem.W.fnOf "read_name" "read_name" (defArgs (topS 15)) (defBody (topS 15)) (defScope (topS 15)) .none kVe15 dce15 pme15 ane15 cde15 cte15), sle15⟩)
    (H15 : initB K g15 cde15 "read_name" = true)
    (A16 : nsIn K mainGlobals "read_number" = some (some (.ref g16)))
    (L16 : K.lookup g16 = some ⟨oce16, ode16, .func (PySem.W.fnOf "read_number" "read_number" (defArgs (topS 16)) (defBody (topS 16)) (defScope (topS 16)) .none kVe16 dce16 pme16 ane16 cde16 cte16), sle16⟩)
    (H16 : initB K g16 cde16 "read_number" = true)
    (A17 : nsIn K mainGlobals "is_letter" = some (some (.ref g17)))
    (L17 : K.lookup g17 = some ⟨oce17, ode17, .func (PySem.W.fnOf "is_letter" "is_letter" (defArgs (topS 17)) (defBody (topS 17)) (defScope (topS 17)) .none kVe17 dce17 pme17 ane17 cde17 cte17), sle17⟩)
    (H17 : initB K g17 cde17 "is_letter" = true)
    (A18 : nsIn K mainGlobals "behind" = some (some (.ref g18)))
    (L18 : K.lookup g18 = some ⟨oce18, ode18, .func (PySem.W.fnOf "behind" "behind" (defArgs (topS 18)) (defBody (topS 18)) (defScope (topS 18)) .none kVe18 dce18 pme18 ane18 cde18 cte18), sle18⟩)
    (H18 : initB K g18 cde18 "behind" = true)
    (A20 : nsIn K mainGlobals "_law_stream" = some (some (.ref g20)))
    (L20 : K.lookup g20 = some ⟨oce20, ode20, .func (PySem.W.fnOf "_law_stream" "_law_stream" (defArgs (topS 20)) (defBody (topS 20)) (defScope (topS 20)) .none kVe20 dce20 pme20 ane20 cde20 cte20), sle20⟩)
    (H20 : initB K g20 cde20 "_law_stream" = true)
    (A21 : nsIn K mainGlobals "_law_draw" = some (some (.ref g21)))
    (L21 : K.lookup g21 = some ⟨oce21, ode21, .func (PySem.W.fnOf "_law_draw" "_law_draw" (defArgs (topS 21)) (defBody (topS 21)) (defScope (topS 21)) .none kVe21 dce21 pme21 ane21 cde21 cte21), sle21⟩)
    (H21 : initB K g21 cde21 "_law_draw" = true)
    (A22 : nsIn K mainGlobals "_law_pick" = some (some (.ref g22)))
    (L22 : K.lookup g22 = some ⟨oce22, ode22, .func (PySem.W.fnOf "_law_pick" "_law_pick" (defArgs (topS 22)) (defBody (topS 22)) (defScope (topS 22)) .none kVe22 dce22 pme22 ane22 cde22 cte22), sle22⟩)
    (H22 : initB K g22 cde22 "_law_pick" = true)
    (A23 : nsIn K mainGlobals "_law_line" = some (some (.ref g23)))
    (L23 : K.lookup g23 = some ⟨oce23, ode23, .func (PySem.W.fnOf "_law_line" "_law_line" (defArgs (topS 23)) (defBody (topS 23)) (defScope (topS 23)) .none kVe23 dce23 pme23 ane23 cde23 cte23), sle23⟩)
    (H23 : initB K g23 cde23 "_law_line" = true)
    (A24 : nsIn K mainGlobals "_law_items" = some (some (.ref g24)))
    (L24 : K.lookup g24 = some ⟨oce24, ode24, .func (PySem.W.fnOf "_law_items" "_law_items" (defArgs (topS 24)) (defBody (topS 24)) (defScope (topS 24)) .none kVe24 dce24 pme24 ane24 cde24 cte24), sle24⟩)
    (H24 : initB K g24 cde24 "_law_items" = true)
    (A25 : nsIn K mainGlobals "_law_text" = some (some (.ref g25)))
    (L25 : K.lookup g25 = some ⟨oce25, ode25, .func (PySem.W.fnOf "_law_text" "_law_text" (defArgs (topS 25)) (defBody (topS 25)) (defScope (topS 25)) .none kVe25 dce25 pme25 ane25 cde25 cte25), sle25⟩)
    (H25 : initB K g25 cde25 "_law_text" = true)
    (A26 : nsIn K mainGlobals "_law_is_number" = some (some (.ref g26)))
    (L26 : K.lookup g26 = some ⟨oce26, ode26, .func (PySem.W.fnOf "_law_is_number" "_law_is_number" (defArgs (topS 26)) (defBody (topS 26)) (defScope (topS 26)) .none kVe26 dce26 pme26 ane26 cde26 cte26), sle26⟩)
    (H26 : initB K g26 cde26 "_law_is_number" = true)
    (A27 : nsIn K mainGlobals "_law_size" = some (some (.ref g27)))
    (L27 : K.lookup g27 = some ⟨oce27, ode27, .func (PySem.W.fnOf "_law_size" "_law_size" (defArgs (topS 27)) (defBody (topS 27)) (defScope (topS 27)) .none kVe27 dce27 pme27 ane27 cde27 cte27), sle27⟩)
    (H27 : initB K g27 cde27 "_law_size" = true)
    (A28 : nsIn K mainGlobals "_law_are_items" = some (some (.ref g28)))
    (L28 : K.lookup g28 = some ⟨oce28, ode28, .func (PySem.W.fnOf "_law_are_items" "_law_are_items" (defArgs (topS 28)) (defBody (topS 28)) (defScope (topS 28)) .none kVe28 dce28 pme28 ane28 cde28 cte28), sle28⟩)
    (H28 : initB K g28 cde28 "_law_are_items" = true)
    (A29 : nsIn K mainGlobals "_law_is_item" = some (some (.ref g29)))
    (L29 : K.lookup g29 = some ⟨oce29, ode29, .func (PySem.W.fnOf "_law_is_item" "_law_is_item" (defArgs (topS 29)) (defBody (topS 29)) (defScope (topS 29)) .none kVe29 dce29 pme29 ane29 cde29 cte29), sle29⟩)
    (H29 : initB K g29 cde29 "_law_is_item" = true)
    (A30 : nsIn K mainGlobals "_law_is_program" = some (some (.ref g30)))
    (L30 : K.lookup g30 = some ⟨oce30, ode30, .func (PySem.W.fnOf "_law_is_program" "_law_is_program" (defArgs (topS 30)) (defBody (topS 30)) (defScope (topS 30)) .none kVe30 dce30 pme30 ane30 cde30 cte30), sle30⟩)
    (H30 : initB K g30 cde30 "_law_is_program" = true)
    (A31 : nsIn K mainGlobals "_law_text_caught" = some (some (.ref g31)))
    (L31 : K.lookup g31 = some ⟨oce31, ode31, .func (PySem.W.fnOf "_law_text_caught" "_law_text_caught" (defArgs (topS 31)) (defBody (topS 31)) (defScope (topS 31)) .none kVe31 dce31 pme31 ane31 cde31 cte31), sle31⟩)
    (H31 : initB K g31 cde31 "_law_text_caught" = true)
    (A32 : nsIn K mainGlobals "_law_spoilt" = some (some (.ref g32)))
    (L32 : K.lookup g32 = some ⟨oce32, ode32, .func (PySem.W.fnOf "_law_spoilt" "_law_spoilt" (defArgs (topS 32)) (defBody (topS 32)) (defScope (topS 32)) .none kVe32 dce32 pme32 ane32 cde32 cte32), sle32⟩)
    (H32 : initB K g32 cde32 "_law_spoilt" = true)
    (A33 : nsIn K mainGlobals "_law_next" = some (some (.ref g33)))
    (L33 : K.lookup g33 = some ⟨oce33, ode33, .func (PySem.W.fnOf "_law_next" "_law_next" (defArgs (topS 33)) (defBody (topS 33)) (defScope (topS 33)) .none kVe33 dce33 pme33 ane33 cde33 cte33), sle33⟩)
    (H33 : initB K g33 cde33 "_law_next" = true)
    (A34 : nsIn K mainGlobals "_law_wrong_at" = some (some (.ref g34)))
    (L34 : K.lookup g34 = some ⟨oce34, ode34, .func (PySem.W.fnOf "_law_wrong_at" "_law_wrong_at" (defArgs (topS 34)) (defBody (topS 34)) (defScope (topS 34)) .none kVe34 dce34 pme34 ane34 cde34 cte34), sle34⟩)
    (H34 : initB K g34 cde34 "_law_wrong_at" = true)
    (A35 : nsIn K mainGlobals "_law_right" = some (some (.ref g35)))
    (L35 : K.lookup g35 = some ⟨oce35, ode35, .func (PySem.W.fnOf "_law_right" "_law_right" (defArgs (topS 35)) (defBody (topS 35)) (defScope (topS 35)) .none kVe35 dce35 pme35 ane35 cde35 cte35), sle35⟩)
    (H35 : initB K g35 cde35 "_law_right" = true)
    (A36 : nsIn K mainGlobals "law" = some (some (.ref g36)))
    (L36 : K.lookup g36 = some ⟨oce36, ode36, .func (PySem.W.fnOf "law" "law" (defArgs (topS 36)) (defBody (topS 36)) (defScope (topS 36)) .none kVe36 dce36 pme36 ane36 cde36 cte36), sle36⟩)
    (H36 : initB K g36 cde36 "law" = true)
    (c_MOST_LETTERS : nsIn K mainGlobals "MOST_LETTERS" = some (some (.int 8 t_MOST_LETTERS)))
    (c_MOST_TICKS : nsIn K mainGlobals "MOST_TICKS" = some (some (.int 1000000000000 t_MOST_TICKS)))
    (c_MOST_ROUNDS : nsIn K mainGlobals "MOST_ROUNDS" = some (some (.int 1000000000000000000 t_MOST_ROUNDS)))
    (c_MOST_BESIDE : nsIn K mainGlobals "MOST_BESIDE" = some (some (.int 20 t_MOST_BESIDE)))
    (c_MOST_ITEMS : nsIn K mainGlobals "MOST_ITEMS" = some (some (.int 60 t_MOST_ITEMS)))
    (c_MOST_DEEP : nsIn K mainGlobals "MOST_DEEP" = some (some (.int 5 t_MOST_DEEP)))
    (eaS : nsIn K mainGlobals "SampleError" = some (some (.ref cS)))
    (exS : K.lookup cS = some (excClassObj nmS qnS cS NS bsS [.type "ValueError", .type "Exception", .type "BaseException", .type "object"] true snS subS abS colS ddS pS rS sS tS_ wS "ValueError.__new__"))
    (HbS : baseB K cS = true)
    (vS : findCls K (.ref cS) (.type "type") "__init__" = some (.val (.builtin "ValueError.__init__")))
    (ea2 : nsIn K mainGlobals "BadProgram" = some (some (.ref c2)))
    (ex2 : K.lookup c2 = some (excClassObj nm2 qn2 c2 N2 bs2 [.ref cS, .type "ValueError", .type "Exception", .type "BaseException", .type "object"] true sn2 sub2 ab2 col2 dd2 p2 r2 s2 t2_ w2 "ValueError.__new__"))
    (He2 : errB K c2 = true)
    (ea3 : nsIn K mainGlobals "BadText" = some (some (.ref c3)))
    (ex3 : K.lookup c3 = some (excClassObj nm3 qn3 c3 N3 bs3 [.ref cS, .type "ValueError", .type "Exception", .type "BaseException", .type "object"] true sn3 sub3 ab3 col3 dd3 p3 r3 s3 t3_ w3 "ValueError.__new__"))
    (He3 : errB K c3 = true)
    (ei3 : findIn K (.ref c3) "__init__" = some (some (.ref j3)))
    (el3 : K.lookup j3 = some ⟨oc3, od3, .func (PySem.W.fnOf "__init__" "BadText.__init__" (defArgs (inClass (topS 3) 0)) (defBody (inClass (topS 3) 0)) (defScope (inClass (topS 3) 0)) .none kV3 dc3 pm3 an3 cd3 ct3), sl3⟩)
    (Hi3 : initB K j3 cd3 "BadText.__init__" = true)
    (en3 : findIn K (.ref c3) "position" = some none)
    (ea4 : nsIn K mainGlobals "BadCommand" = some (some (.ref c4)))
    (ex4 : K.lookup c4 = some (excClassObj nm4 qn4 c4 N4 bs4 [.ref cS, .type "ValueError", .type "Exception", .type "BaseException", .type "object"] true sn4 sub4 ab4 col4 dd4 p4 r4 s4 t4_ w4 "ValueError.__new__"))
    (He4 : errB K c4 = true)
    (Hk_up : (PySem.W.exmOne K (.ref c3) (.ref cS) == some true) = true)
    (Hk_own : (PySem.W.kitOne K (.ref c3) (.ref c3) == some true) = true)
    (Hk_oth : (PySem.W.kitAny K (.ref c3) [.ref c2, .ref c4] == some false) = true)
    (Hk_val : (PySem.W.kitOne K (.ref c3) (.type "ValueError") == some true) = true)
    (z_ValueError : nsIn K mainGlobals "ValueError" = some none)
    (z_len : nsIn K mainGlobals "len" = some none)
    (z_abs : nsIn K mainGlobals "abs" = some none)
    (z_int : nsIn K mainGlobals "int" = some none)
    (z_bool : nsIn K mainGlobals "bool" = some none)
    (z_isinstance : nsIn K mainGlobals "isinstance" = some none)
    (z_range : nsIn K mainGlobals "range" = some none)
    (z_max : nsIn K mainGlobals "max" = some none)
    (z_min : nsIn K mainGlobals "min" = some none)
    (z_sum : nsIn K mainGlobals "sum" = some none)
    (z_repr : nsIn K mainGlobals "repr" = some none)
    (z_divmod : nsIn K mainGlobals "divmod" = some none)
    (z_tuple : nsIn K mainGlobals "tuple" = some none)
    (z_sorted : nsIn K mainGlobals "sorted" = some none)
    (z_set : nsIn K mainGlobals "set" = some none)
    (z_enumerate : nsIn K mainGlobals "enumerate" = some none)
    (z_zip : nsIn K mainGlobals "zip" = some none)
    (z_list : nsIn K mainGlobals "list" = some none)
    (z_dict : nsIn K mainGlobals "dict" = some none)
    (z_any : nsIn K mainGlobals "any" = some none)
    (z_all : nsIn K mainGlobals "all" = some none)
    (z_str : nsIn K mainGlobals "str" = some none)
    (z_reversed : nsIn K mainGlobals "reversed" = some none)
    : ∃ fd : FuncData, (∀ (s : Shared) (u : Value), BindsTo s fd ⟨[u], []⟩ [("_law_script", u)]) ∧
      ∀ base : Heap, K.In base → base.Ns mainGlobals mg → (∃ mm, base.Ns sysModules mm) → (∀ p ∈ cs, LamX.TabB base mg p.1 p.2) → FnG P w K mg base CX0 20 fa fd ["_law_script"] (spLaw K (cs.map (·.2))) := by
  have e := hfa.symm.trans (PySem.W.mg_of X G A36)
  cases e
  obtain ⟨t12, u12, v12⟩ := initB_ok H12
  have F12 := fun_mk (st := topS 12) L12 u12 v12
  have m12 := PySem.W.mg_of X G A12
  have b12 := F12.binds (ps := ["text"]) fun _ _ _ _ _ _ us hl => match us, hl with | [_], _ => rfl
  obtain ⟨t13, u13, v13⟩ := initB_ok H13
  have F13 := fun_mk (st := topS 13) L13 u13 v13
  have m13 := PySem.W.mg_of X G A13
  have b13 := F13.binds (ps := ["text", "at", "depth", "room"]) fun _ _ _ _ _ _ us hl => match us, hl with | [_, _, _, _], _ => rfl
  obtain ⟨t14, u14, v14⟩ := initB_ok H14
  have F14 := fun_mk (st := topS 14) L14 u14 v14
  have m14 := PySem.W.mg_of X G A14
  have b14 := F14.binds (ps := ["text", "at", "depth", "room"]) fun _ _ _ _ _ _ us hl => match us, hl with | [_, _, _, _], _ => rfl
  obtain ⟨t15, u15, v15⟩ := initB_ok H15
  have F15 := fun_mk (st := topS 15) L15 u15 v15
  have m15 := PySem.W.mg_of X G A15
  have b15 := F15.binds (ps := ["text", "at"]) fun _ _ _ _ _ _ us hl => match us, hl with | [_, _], _ => rfl
  obtain ⟨t16, u16, v16⟩ := initB_ok H16
  have F16 := fun_mk (st := topS 16) L16 u16 v16
  have m16 := PySem.W.mg_of X G A16
  have b16 := F16.binds (ps := ["text", "at", "most"]) fun _ _ _ _ _ _ us hl => match us, hl with | [_, _, _], _ => rfl
  obtain ⟨t17, u17, v17⟩ := initB_ok H17
  have F17 := fun_mk (st := topS 17) L17 u17 v17
  have m17 := PySem.W.mg_of X G A17
  have b17 := F17.binds (ps := ["text"]) fun _ _ _ _ _ _ us hl => match us, hl with | [_], _ => rfl
  obtain ⟨t18, u18, v18⟩ := initB_ok H18
  have F18 := fun_mk (st := topS 18) L18 u18 v18
  have m18 := PySem.W.mg_of X G A18
  have b18 := F18.binds (ps := ["text", "at", "signs"]) fun _ _ _ _ _ _ us hl => match us, hl with | [_, _, _], _ => rfl
  obtain ⟨t20, u20, v20⟩ := initB_ok H20
  have F20 := fun_mk (st := topS 20) L20 u20 v20
  have m20 := PySem.W.mg_of X G A20
  have b20 := F20.binds (ps := ["_law_script", "_law_k"]) fun _ _ _ _ _ _ us hl => match us, hl with | [_, _], _ => rfl
  obtain ⟨t21, u21, v21⟩ := initB_ok H21
  have F21 := fun_mk (st := topS 21) L21 u21 v21
  have m21 := PySem.W.mg_of X G A21
  have b21 := F21.binds (ps := ["_law_stream_here", "_law_many"]) fun _ _ _ _ _ _ us hl => match us, hl with | [_, _], _ => rfl
  obtain ⟨t22, u22, v22⟩ := initB_ok H22
  have F22 := fun_mk (st := topS 22) L22 u22 v22
  have m22 := PySem.W.mg_of X G A22
  have b22 := F22.binds (ps := ["_law_stream_here", "_law_some"]) fun _ _ _ _ _ _ us hl => match us, hl with | [_, _], _ => rfl
  obtain ⟨t23, u23, v23⟩ := initB_ok H23
  have F23 := fun_mk (st := topS 23) L23 u23 v23
  have m23 := PySem.W.mg_of X G A23
  have b23 := F23.binds (ps := ["_law_stream_here", "_law_most"]) fun _ _ _ _ _ _ us hl => match us, hl with | [_, _], _ => rfl
  obtain ⟨t24, u24, v24⟩ := initB_ok H24
  have F24 := fun_mk (st := topS 24) L24 u24 v24
  have m24 := PySem.W.mg_of X G A24
  have b24 := F24.binds (ps := ["_law_stream_here", "_law_many", "_law_deep", "_law_ticks", "_law_rounds"]) fun _ _ _ _ _ _ us hl => match us, hl with | [_, _, _, _, _], _ => rfl
  obtain ⟨t25, u25, v25⟩ := initB_ok H25
  have F25 := fun_mk (st := topS 25) L25 u25 v25
  have m25 := PySem.W.mg_of X G A25
  have b25 := F25.binds (ps := ["_law_items_here"]) fun _ _ _ _ _ _ us hl => match us, hl with | [_], _ => rfl
  obtain ⟨t26, u26, v26⟩ := initB_ok H26
  have F26 := fun_mk (st := topS 26) L26 u26 v26
  have m26 := PySem.W.mg_of X G A26
  have b26 := F26.binds (ps := ["_law_value", "_law_least", "_law_most"]) fun _ _ _ _ _ _ us hl => match us, hl with | [_, _, _], _ => rfl
  obtain ⟨t27, u27, v27⟩ := initB_ok H27
  have F27 := fun_mk (st := topS 27) L27 u27 v27
  have m27 := PySem.W.mg_of X G A27
  have b27 := F27.binds (ps := ["_law_items_here"]) fun _ _ _ _ _ _ us hl => match us, hl with | [_], _ => rfl
  obtain ⟨t28, u28, v28⟩ := initB_ok H28
  have F28 := fun_mk (st := topS 28) L28 u28 v28
  have m28 := PySem.W.mg_of X G A28
  have b28 := F28.binds (ps := ["_law_value", "_law_deep"]) fun _ _ _ _ _ _ us hl => match us, hl with | [_, _], _ => rfl
  obtain ⟨t29, u29, v29⟩ := initB_ok H29
  have F29 := fun_mk (st := topS 29) L29 u29 v29
  have m29 := PySem.W.mg_of X G A29
  have b29 := F29.binds (ps := ["_law_value", "_law_deep"]) fun _ _ _ _ _ _ us hl => match us, hl with | [_, _], _ => rfl
  obtain ⟨t30, u30, v30⟩ := initB_ok H30
  have F30 := fun_mk (st := topS 30) L30 u30 v30
  have m30 := PySem.W.mg_of X G A30
  have b30 := F30.binds (ps := ["_law_value"]) fun _ _ _ _ _ _ us hl => match us, hl with | [_], _ => rfl
  obtain ⟨t31, u31, v31⟩ := initB_ok H31
  have F31 := fun_mk (st := topS 31) L31 u31 v31
  have m31 := PySem.W.mg_of X G A31
  have b31 := F31.binds (ps := ["_law_call"]) fun _ _ _ _ _ _ us hl => match us, hl with | [_], _ => rfl
  obtain ⟨t32, u32, v32⟩ := initB_ok H32
  have F32 := fun_mk (st := topS 32) L32 u32 v32
  have m32 := PySem.W.mg_of X G A32
  have b32 := F32.binds (ps := ["_law_stream_here", "_law_page"]) fun _ _ _ _ _ _ us hl => match us, hl with | [_, _], _ => rfl
  obtain ⟨t33, u33, v33⟩ := initB_ok H33
  have F33 := fun_mk (st := topS 33) L33 u33 v33
  have m33 := PySem.W.mg_of X G A33
  have b33 := F33.binds (ps := ["_law_state", "_law_opened", "_law_sign"]) fun _ _ _ _ _ _ us hl => match us, hl with | [_, _, _], _ => rfl
  obtain ⟨t34, u34, v34⟩ := initB_ok H34
  have F34 := fun_mk (st := topS 34) L34 u34 v34
  have m34 := PySem.W.mg_of X G A34
  have b34 := F34.binds (ps := ["_law_page"]) fun _ _ _ _ _ _ us hl => match us, hl with | [_], _ => rfl
  obtain ⟨t35, u35, v35⟩ := initB_ok H35
  have F35 := fun_mk (st := topS 35) L35 u35 v35
  have m35 := PySem.W.mg_of X G A35
  have b35 := F35.binds (ps := ["_law_page"]) fun _ _ _ _ _ _ us hl => match us, hl with | [_], _ => rfl
  obtain ⟨t36, u36, v36⟩ := initB_ok H36
  have F36 := fun_mk (st := topS 36) L36 u36 v36
  have m36 := PySem.W.mg_of X G A36
  obtain ⟨sgS, rdS⟩ := by
    have h := HbS
    unfold baseB at h
    simpa only [Bool.and_eq_true, beq_iff_eq] using h
  have g_SampleError := PySem.W.mg_of X G eaS
  have n_ValueError := PySem.W.mg_none_of X G z_ValueError
  have BT : BaseT K mg cS := ⟨g_SampleError, sgS, rdS, vS⟩
  have g_BadProgram := PySem.W.mg_of X G ea2
  have T_BadProgram : ErrC K c2 := errB_ok He2 ⟨_, _, _, _, _, _, _, _, _, _, _, _, _, _, _, ex2, rfl⟩
  have g_BadText := PySem.W.mg_of X G ea3
  have T_BadText : ErrC K c3 := errB_ok He3 ⟨_, _, _, _, _, _, _, _, _, _, _, _, _, _, _, ex3, rfl⟩
  obtain ⟨ti3, ui3, vi3⟩ := initB_ok Hi3
  have Fi3 := fun_mk (st := inClass (topS 3) 0) el3 ui3 vi3
  have bi3 := Fi3.binds (ps := ["self", "position"]) fun _ _ _ _ _ _ us hl => match us, hl with | [_, _], _ => rfl
  have R_BadText : ∀ base : Heap, Err1 P w K mg base "BadText" c3 "position" := fun base => ⟨g_BadText, T_BadText, en3, j3, _, ei3, ti3, initBadText (P := P) (w := w) (base := base) Fi3 BT T_BadText en3, bi3⟩
  have g_BadCommand := PySem.W.mg_of X G ea4
  have T_BadCommand : ErrC K c4 := errB_ok He4 ⟨_, _, _, _, _, _, _, _, _, _, _, _, _, _, _, ex4, rfl⟩
  have k_MOST_LETTERS := PySem.W.mg_of X G c_MOST_LETTERS
  have k_MOST_TICKS := PySem.W.mg_of X G c_MOST_TICKS
  have k_MOST_ROUNDS := PySem.W.mg_of X G c_MOST_ROUNDS
  have k_MOST_BESIDE := PySem.W.mg_of X G c_MOST_BESIDE
  have k_MOST_ITEMS := PySem.W.mg_of X G c_MOST_ITEMS
  have k_MOST_DEEP := PySem.W.mg_of X G c_MOST_DEEP
  have n_len := PySem.W.mg_none_of X G z_len
  have n_abs := PySem.W.mg_none_of X G z_abs
  have n_int := PySem.W.mg_none_of X G z_int
  have n_bool := PySem.W.mg_none_of X G z_bool
  have n_isinstance := PySem.W.mg_none_of X G z_isinstance
  have n_range := PySem.W.mg_none_of X G z_range
  have n_max := PySem.W.mg_none_of X G z_max
  have n_min := PySem.W.mg_none_of X G z_min
  have n_sum := PySem.W.mg_none_of X G z_sum
  have n_repr := PySem.W.mg_none_of X G z_repr
  have n_divmod := PySem.W.mg_none_of X G z_divmod
  have n_tuple := PySem.W.mg_none_of X G z_tuple
  have n_sorted := PySem.W.mg_none_of X G z_sorted
  have n_set := PySem.W.mg_none_of X G z_set
  have n_enumerate := PySem.W.mg_none_of X G z_enumerate
  have n_zip := PySem.W.mg_none_of X G z_zip
  have n_list := PySem.W.mg_none_of X G z_list
  have n_dict := PySem.W.mg_none_of X G z_dict
  have n_any := PySem.W.mg_none_of X G z_any
  have n_all := PySem.W.mg_none_of X G z_all
  have n_str := PySem.W.mg_none_of X G z_str
  have n_reversed := PySem.W.mg_none_of X G z_reversed
  have nb : NB mg := fun x hx => by
    rw [nbs] at hx
    rcases List.mem_cons.mp hx with rfl | hx
    · exact n_len
    rcases List.mem_cons.mp hx with rfl | hx
    · exact n_abs
    rcases List.mem_cons.mp hx with rfl | hx
    · exact n_int
    rcases List.mem_cons.mp hx with rfl | hx
    · exact n_bool
    rcases List.mem_cons.mp hx with rfl | hx
    · exact n_isinstance
    rcases List.mem_cons.mp hx with rfl | hx
    · exact n_range
    rcases List.mem_cons.mp hx with rfl | hx
    · exact n_max
    rcases List.mem_cons.mp hx with rfl | hx
    · exact n_min
    rcases List.mem_cons.mp hx with rfl | hx
    · exact n_sum
    rcases List.mem_cons.mp hx with rfl | hx
    · exact n_repr
    rcases List.mem_cons.mp hx with rfl | hx
    · exact n_divmod
    rcases List.mem_cons.mp hx with rfl | hx
    · exact n_tuple
    rcases List.mem_cons.mp hx with rfl | hx
    · exact n_sorted
    rcases List.mem_cons.mp hx with rfl | hx
    · exact n_set
    rcases List.mem_cons.mp hx with rfl | hx
    · exact n_enumerate
    rcases List.mem_cons.mp hx with rfl | hx
    · exact n_zip
    rcases List.mem_cons.mp hx with rfl | hx
    · exact n_list
    rcases List.mem_cons.mp hx with rfl | hx
    · exact n_dict
    rcases List.mem_cons.mp hx with rfl | hx
    · exact n_any
    rcases List.mem_cons.mp hx with rfl | hx
    · exact n_all
    rcases List.mem_cons.mp hx with rfl | hx
    · exact n_str
    rcases List.mem_cons.mp hx with rfl | hx
    · exact n_reversed
    cases hx
  obtain ⟨⟨c0_0, P0_0⟩, rfl, tf0⟩ := paired1 hcs
  refine ⟨PySem.W.fnOf "law" "law" (defArgs (topS 36)) (defBody (topS 36)) (defScope (topS 36)) .none kVe36 dce36 pme36 ane36 cde36 cte36, fun s u => .of_eq rfl, fun base XB _ hm hTB => ?_⟩
  have TB := hTB (c0_0, P0_0) (by simp)
  have DC__law_right : DefC K mg "_law_right" (topS 35) ["_law_page"] c0_0 := ⟨_, _, F35, b35, m35, TabF.code tf0 X F35 m35⟩
  have D_read_program : Def K mg "read_program" (topS 12) ["text"] := ⟨_, _, F12, b12, m12⟩
  have D_read_items : Def K mg "read_items" (topS 13) ["text", "at", "depth", "room"] := ⟨_, _, F13, b13, m13⟩
  have D_read_item : Def K mg "read_item" (topS 14) ["text", "at", "depth", "room"] := ⟨_, _, F14, b14, m14⟩
  have D_read_name : Def K mg "read_name" (topS 15) ["text", "at"] := ⟨_, _, F15, b15, m15⟩
  have D_read_number : Def K mg "read_number" (topS 16) ["text", "at", "most"] := ⟨_, _, F16, b16, m16⟩
  have D_is_letter : Def K mg "is_letter" (topS 17) ["text"] := ⟨_, _, F17, b17, m17⟩
  have D_behind : Def K mg "behind" (topS 18) ["text", "at", "signs"] := ⟨_, _, F18, b18, m18⟩
  have D__law_stream : Def K mg "_law_stream" (topS 20) ["_law_script", "_law_k"] := ⟨_, _, F20, b20, m20⟩
  have D__law_draw : Def K mg "_law_draw" (topS 21) ["_law_stream_here", "_law_many"] := ⟨_, _, F21, b21, m21⟩
  have D__law_pick : Def K mg "_law_pick" (topS 22) ["_law_stream_here", "_law_some"] := ⟨_, _, F22, b22, m22⟩
  have D__law_line : Def K mg "_law_line" (topS 23) ["_law_stream_here", "_law_most"] := ⟨_, _, F23, b23, m23⟩
  have D__law_items : Def K mg "_law_items" (topS 24) ["_law_stream_here", "_law_many", "_law_deep", "_law_ticks", "_law_rounds"] := ⟨_, _, F24, b24, m24⟩
  have D__law_text : Def K mg "_law_text" (topS 25) ["_law_items_here"] := ⟨_, _, F25, b25, m25⟩
  have D__law_is_number : Def K mg "_law_is_number" (topS 26) ["_law_value", "_law_least", "_law_most"] := ⟨_, _, F26, b26, m26⟩
  have D__law_size : Def K mg "_law_size" (topS 27) ["_law_items_here"] := ⟨_, _, F27, b27, m27⟩
  have D__law_are_items : Def K mg "_law_are_items" (topS 28) ["_law_value", "_law_deep"] := ⟨_, _, F28, b28, m28⟩
  have D__law_is_item : Def K mg "_law_is_item" (topS 29) ["_law_value", "_law_deep"] := ⟨_, _, F29, b29, m29⟩
  have D__law_is_program : Def K mg "_law_is_program" (topS 30) ["_law_value"] := ⟨_, _, F30, b30, m30⟩
  have D__law_text_caught : Def K mg "_law_text_caught" (topS 31) ["_law_call"] := ⟨_, _, F31, b31, m31⟩
  have D__law_spoilt : Def K mg "_law_spoilt" (topS 32) ["_law_stream_here", "_law_page"] := ⟨_, _, F32, b32, m32⟩
  have D__law_next : Def K mg "_law_next" (topS 33) ["_law_state", "_law_opened", "_law_sign"] := ⟨_, _, F33, b33, m33⟩
  have D__law_wrong_at : Def K mg "_law_wrong_at" (topS 34) ["_law_page"] := ⟨_, _, F34, b34, m34⟩
  have D__law_right : Def K mg "_law_right" (topS 35) ["_law_page"] := ⟨_, _, F35, b35, m35⟩
  have Flaw := F36
  have XIl := ok_il (P := P) (w := w) (base := base) D_is_letter nb
  have XRn := ok_rn D_read_name XIl k_MOST_LETTERS nb
  have XBh := ok_bh D_behind (R_BadText base) nb
  have XRm := ok_rm (K := K) D_read_number (R_BadText base) nb
  have XRis := ok_ris D_read_item D_read_items XIl XRn XBh XRm (R_BadText base) k_MOST_TICKS k_MOST_ROUNDS k_MOST_BESIDE nb
  have XRp := ok_rp D_read_program (XRis 5) (R_BadText base) k_MOST_DEEP k_MOST_ITEMS nb
  have C1 := ok_stream (P := P) (w := w) (base := base) D__law_stream nb
  have C2 := ok_draw (P := P) (w := w) (base := base) D__law_draw nb
  have C3 := ok_pick D__law_pick C2 nb
  have Z : TxC K mg cS c3 c2 c4 := {
    cls := T_BadText
    fld := en3
    up := beq_iff_eq.mp Hk_up
    own := beq_iff_eq.mp Hk_own
    oth := beq_iff_eq.mp Hk_oth
    val := beq_iff_eq.mp Hk_val
    gS := g_SampleError
    gB := g_BadText
    gP := g_BadProgram
    gC := g_BadCommand
    nV := n_ValueError }
  have CLn := ok_line D__law_line C2 C3 nb
  have C5 := ok_itemsB D__law_items C2 CLn nb 1
  have C6 := ok_nu (P := P) (w := w) (base := base) D__law_is_number nb
  have C7 := ok_lip D__law_is_program (ok_lar D__law_is_item D__law_are_items C6 nb 5) (ok_szV D__law_size nb 5) nb
  have CTx := ok_txL (P := P) (w := w) (base := base) D__law_text nb 5
  have CPu := ok_pkU D__law_pick C2 nb
  have CSp := ok_sp60 D__law_spoilt C2 CPu nb
  have CNx := ok_nx60 (P := P) (w := w) (base := base) D__law_next nb
  have CWr := ok_wr60 D__law_wrong_at CNx nb
  have CRi := ok_ri60 hm TB Z DC__law_right D__law_text_caught XRp CWr (C7.up (by decide)) CTx nb
  exact ok_law hm Flaw C1 CPu C5 CTx CSp CRi nb
end Ev

open PySem PySem.W PyProof.Rows
set_option maxRecDepth 100000 in
set_option maxHeartbeats 0 in
theorem PySem.Challenge.cw_evensamples_k60_texts_changed_anywhere_holds : PySem.Challenge.rw_evensamples_k60_texts_changed_anywhere.Holds := by
  w_on; o_law; k_head; (case hw => w_witness2)
  k_fill
  refine Ev.walkT ["_law_right"] (l := PySem.Challenge.rw_evensamples_k60_texts_changed_anywhere) (n := 63) (k := 20) (x := "_law_script") (CX := L2.CX0) (sp := Ev.spLaw) ?noImports ?names ?noTabs rfl (by decide) rfl ⟨rfl, by decide, by decide⟩ (fun w h Y => PySem.W.km_in_of Y) ?F
    (fun _ _ a ns _ _ hT hS => ⟨a, ns, rfl, hT, hS, fun _ => rfl⟩) (fun _ _ _ _ h => h)
  case names => decide +kernel
  case noTabs => exact fun w => by kernel_rfl
  case noImports => decide +kernel
  case F =>
    intro w mg fa h KX G hmg cs hcs
    refine' Ev.all_mk KX G hmg cs hcs ?A12 ?L12 ?H12 ?A13 ?L13 ?H13 ?A14 ?L14 ?H14 ?A15 ?L15 ?H15 ?A16 ?L16 ?H16 ?A17 ?L17 ?H17 ?A18 ?L18 ?H18 ?A20 ?L20 ?H20 ?A21 ?L21 ?H21 ?A22 ?L22 ?H22 ?A23 ?L23 ?H23 ?A24 ?L24 ?H24 ?A25 ?L25 ?H25 ?A26 ?L26 ?H26 ?A27 ?L27 ?H27 ?A28 ?L28 ?H28 ?A29 ?L29 ?H29 ?A30 ?L30 ?H30 ?A31 ?L31 ?H31 ?A32 ?L32 ?H32 ?A33 ?L33 ?H33 ?A34 ?L34 ?H34 ?A35 ?L35 ?H35 ?A36 ?L36 ?H36 ?c_MOST_LETTERS ?c_MOST_TICKS ?c_MOST_ROUNDS ?c_MOST_BESIDE ?c_MOST_ITEMS ?c_MOST_DEEP ?eaS ?exS ?HbS ?vS ?ea2 ?ex2 ?He2 ?ea3 ?ex3 ?He3 ?ei3 ?el3 ?Hi3 ?en3 ?ea4 ?ex4 ?He4 ?Hk_up ?Hk_own ?Hk_oth ?Hk_val ?z_ValueError ?z_len ?z_abs ?z_int ?z_bool ?z_isinstance ?z_range ?z_max ?z_min ?z_sum ?z_repr ?z_divmod ?z_tuple ?z_sorted ?z_set ?z_enumerate ?z_zip ?z_list ?z_dict ?z_any ?z_all ?z_str ?z_reversed
    (case A12 => k_is)
    (case L12 => k_is)
    (case H12 => kernel_rfl)
    (case A13 => k_is)
    (case L13 => k_is)
    (case H13 => kernel_rfl)
    (case A14 => k_is)
    (case L14 => k_is)
    (case H14 => kernel_rfl)
    (case A15 => k_is)
    (case L15 => k_is)
    (case H15 => kernel_rfl)
    (case A16 => k_is)
    (case L16 => k_is)
    (case H16 => kernel_rfl)
    (case A17 => k_is)
    (case L17 => k_is)
    (case H17 => kernel_rfl)
    (case A18 => k_is)
    (case L18 => k_is)
    (case H18 => kernel_rfl)
    (case A20 => k_is)
    (case L20 => k_is)
    (case H20 => kernel_rfl)
    (case A21 => k_is)
    (case L21 => k_is)
    (case H21 => kernel_rfl)
    (case A22 => k_is)
    (case L22 => k_is)
    (case H22 => kernel_rfl)
    (case A23 => k_is)
    (case L23 => k_is)
    (case H23 => kernel_rfl)
    (case A24 => k_is)
    (case L24 => k_is)
    (case H24 => kernel_rfl)
    (case A25 => k_is)
    (case L25 => k_is)
    (case H25 => kernel_rfl)
    (case A26 => k_is)
    (case L26 => k_is)
    (case H26 => kernel_rfl)
    (case A27 => k_is)
    (case L27 => k_is)
    (case H27 => kernel_rfl)
    (case A28 => k_is)
    (case L28 => k_is)
    (case H28 => kernel_rfl)
    (case A29 => k_is)
    (case L29 => k_is)
    (case H29 => kernel_rfl)
    (case A30 => k_is)
    (case L30 => k_is)
    (case H30 => kernel_rfl)
    (case A31 => k_is)
    (case L31 => k_is)
    (case H31 => kernel_rfl)
    (case A32 => k_is)
    (case L32 => k_is)
    (case H32 => kernel_rfl)
    (case A33 => k_is)
    (case L33 => k_is)
    (case H33 => kernel_rfl)
    (case A34 => k_is)
    (case L34 => k_is)
    (case H34 => kernel_rfl)
    (case A35 => k_is)
    (case L35 => k_is)
    (case H35 => kernel_rfl)
    (case A36 => k_is)
    (case L36 => k_is)
    (case H36 => kernel_rfl)
    (case c_MOST_LETTERS => k_is)
    (case c_MOST_TICKS => k_is)
    (case c_MOST_ROUNDS => k_is)
    (case c_MOST_BESIDE => k_is)
    (case c_MOST_ITEMS => k_is)
    (case c_MOST_DEEP => k_is)
    (case eaS => k_is)
    (case exS => k_is)
    (case HbS => kernel_rfl)
    (case vS => k_is)
    (case ea2 => k_is)
    (case ex2 => k_is)
    (case He2 => kernel_rfl)
    (case ea3 => k_is)
    (case ex3 => k_is)
    (case He3 => kernel_rfl)
    (case ei3 => k_is)
    (case el3 => k_is)
    (case Hi3 => kernel_rfl)
    (case en3 => k_is)
    (case ea4 => k_is)
    (case ex4 => k_is)
    (case He4 => kernel_rfl)
    (case Hk_up => kernel_rfl)
    (case Hk_own => kernel_rfl)
    (case Hk_oth => kernel_rfl)
    (case Hk_val => kernel_rfl)
    (case z_ValueError => k_is)
    (case z_len => k_is)
    (case z_abs => k_is)
    (case z_int => k_is)
    (case z_bool => k_is)
    (case z_isinstance => k_is)
    (case z_range => k_is)
    (case z_max => k_is)
    (case z_min => k_is)
    (case z_sum => k_is)
    (case z_repr => k_is)
    (case z_divmod => k_is)
    (case z_tuple => k_is)
    (case z_sorted => k_is)
    (case z_set => k_is)
    (case z_enumerate => k_is)
    (case z_zip => k_is)
    (case z_list => k_is)
    (case z_dict => k_is)
    (case z_any => k_is)
    (case z_all => k_is)
    (case z_str => k_is)
    (case z_reversed => k_is)

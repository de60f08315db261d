import PyProof.Rows.All
import Wide.All
import OpenK.AllK
import Wide.FinOn
import PySem.Challenge.RW_evensamples_k62_arguments_by_name
import HandS.ForMost
import HandS.Wide
import HandS.More
import HandS.Set
import HandS.SetBool
import HandS.SetFor
import HandS.TupSets
import HandS.IsInst
import HandS.TupAny
import HandS.TupMul
import HandS.DictComp
import PyProof.NeKinds
import PyProof.EqKinds
import PyProof.FactsAll.dict
import KE.KEqNest
import HandS.Conv
import HandS.Text
import HandS.Exc
import HandS.ExcInit
import KE.KExcIs
import HandS.ExcOwn
import HandS.WordsExc
import HandS.WideBits
import HandS.Zip
import HandS.Style
import PyProof.Rows.SortShellAny
import HandS.FStr
import PyProof.FactsAll.int
import PyProof.FactsAll.str_1
import HandS.ExcValue
import HandS.EndTab
import KE.KNestM
import HandS.TryOnly
import KE.KUnpackStar
import HandS.MakeKwOnly
import HandS.Star
import HandS.CallLocal
import HandS.Walk
import HandS.Iter
import KE.GoesMore
import KE.KDictZip
import KE.GoesZip
import PyProof.CollectWalk
import HandS.MapJoin
import HandS.HeadHook3
import HandS.Head0
import HandS.Head1
import HandS.Head2
import HandS.HeadHook1
import HandS.HeadHook2
import HandS.HeadHook4
set_option Elab.async false
set_option linter.all false
set_option maxRecDepth 100000
set_option maxHeartbeats 4000000
/-! ## Promises of defs that are called while no repr is under way -/
namespace Ev
open PySem PySem.Spec PyProof.Rows L2

/-- the promise of a def, for a stack without a repr that is under way -/
structure FnG (P : Program) (w : World) (K : PySem.W.Frag) (mg : Str → Option Value)
    (base : Heap) (CX : CXT) (k : Nat) (f : Addr) (fd : FuncData) (ps : List Str) (sp : Sp) : Prop where
  many : ∀ vs H Q E, sp vs H Q E → vs.length = ps.length
  go : ∀ (A : Around) (outer : List Env) (s : Shared) (H : Hp) (args : Args)
      (us : List Value) (vs : List V) (Q : VK) (E : XK),
    Room k A → A.guards = some [] → Env0 P w K mg base A outer s H → BindsTo s fd args (ps.zip us) →
      Vals vs us → sp vs H Q E → codeAny (model P w) A (.call (.ref f) args) (CR CX outer P w H s Q E) s

section
variable {P : Program} {w : World} {K : PySem.W.Frag} {mg : Str → Option Value} {base : Heap} {CX : CXT}
variable {k : Nat} {f : Addr} {fd : FuncData} {ps : List Str} {sp : Sp}
theorem FnG.of (F : FnOk P w K mg base CX k f fd ps sp) : FnG P w K mg base CX k f fd ps sp :=
  ⟨F.len, fun A o s H args us vs Q E hr _ => F.run A o s H args us vs Q E hr⟩
theorem FnG.up {j : Nat} (F : FnG P w K mg base CX j f fd ps sp) (h : j ≤ k) : FnG P w K mg base CX k f fd ps sp :=
  ⟨F.many, fun A o s H args us vs Q E hr => F.go A o s H args us vs Q E (hr.mono h)⟩
end

section
variable {X : Cx} {CX : CXT} {k : Nat} {f : Addr} {fd : FuncData} {ps : List Str} {sp : Sp}
variable {dvs : List V} {ds : List Value} {E : XK} {x : Str} {p pos : Pos} {e : Expr} {es : List Expr} {t : TA}
theorem runG {pins : List (Addr × Obj)} {σ : L2.St} {H : Hp} {s : Shared} {Q : VK} {us : List Value} {vs : List V}
    (F : FnG X.prog X.w X.K X.mg X.base CX k f fd ps sp) (hr : Room k X.A) (gd : X.A.guards = some [])
    (hb : Binds X.K fd ps ds) (hd : Vals dvs ds) (hx : Passes CX X E) (I : Inv X pins σ H s) (r : Vals vs us)
    (h : sp (vs ++ dvs) H Q E) : wpAny (model X.prog X.w) X.A (call (.ref f) us) (EP X pins σ Q) X.xe s := by
  have rr : Vals (vs ++ dvs) (us ++ ds) := r.append hd
  have hl : (us ++ ds).length = ps.length := rr.length.symm.trans (F.many _ _ _ _ h)
  have z := F.go X.A X.stack s H ⟨us, []⟩ (us ++ ds) (vs ++ dvs) Q E hr gd I.env0 (hb s us I.kIn hl) rr h
  refine wpAny_call (codeAny_mono z fun res s' hq => ?_)
  match res, hq with
  | .error e, hq => exact hx pins σ H s e s' I hq
  | .ok (.ret u), hq => exact I.after hq
  | .ok .next, hq => exact False.elim hq
  | .ok .brk, hq => exact False.elim hq
  | .ok .cont, hq => exact False.elim hq
theorem pe_callG (F : FnG X.prog X.w X.K X.mg X.base CX k f fd ps sp) (hr : Room k X.A) (gd : X.A.guards = some [])
    (hg : Gl X x) (hm : X.mg x = some (.ref f)) (hk : PySem.W.keepIn X.K (.ref f) = true) (hb : Binds X.K fd ps ds)
    (hd : Vals dvs ds) (hx : Passes CX X E) (ha : PA X (e :: es) t)
    (hdb : (x == ("__debug__" : Str)) = false := by decide)
    (he : starEach (e :: es) X.env = (false, eval e X.env) :: starEach es X.env := by rfl)
    (hpl : (backTo pos (starEach es X.env)).any (·.1) = false := by rfl) :
    PE X (.Call (.Name x p) (e :: es) [] pos) (tCall sp dvs E t) := by
  constructor
  intro pins s σ H Q I h
  refine wpAny_Call_Name_kw (ld_glob I hg hm ?_ hdb)
  have z := ha.run pos pins s σ H _ I h
  refine PySem.W.callWith_K (h₀ := X.base) I.ok.mod.kin hk (thn z ?_) he hpl
  rintro us s1 ⟨vs, H1, I1, r, q⟩
  exact ⟨I1.kIn, runG F hr gd hb hd hx I1 r q⟩
theorem pe_callG0 (F : FnG X.prog X.w X.K X.mg X.base CX k f fd ps sp) (hr : Room k X.A) (gd : X.A.guards = some [])
    (hg : Gl X x) (hm : X.mg x = some (.ref f)) (hk : PySem.W.keepIn X.K (.ref f) = true) (hb : Binds X.K fd ps ds)
    (hd : Vals dvs ds) (hx : Passes CX X E) (hdb : (x == ("__debug__" : Str)) = false := by decide) :
    PE X (.Call (.Name x p) [] [] pos) (tCall sp dvs E tNil) := by
  constructor
  intro pins s σ H Q I h
  refine wpAny_Call_Name_kw (ld_glob I hg hm ?_ hdb)
  have z := runG (us := []) F hr gd hb hd hx I .nil h
  exact PySem.W.callWith_K0 I.kIn hk z
end

/-- a def by its body -/
theorem fnG_of {CX : CXT} {P : Program} {w : World} {K : PySem.W.Frag} {mg : Str → Option Value} {base : Heap}
    {k : Nat} {f : Addr} {name qual : Str} {params : Arguments} {body : List Stmt} {scope : Scope}
    {dV kV doc pm cdv ct oc : Value} {an od : Option Addr} {osl : Array (Option Value)} {N ps : List Str} {sp : Sp}
    (lk : K.lookup f = some ⟨oc, od, .func (PySem.W.fnOf name qual params body scope dV kV doc pm an cdv ct), osl⟩)
    (hcd : PySem.W.codeIn K cdv qual = true) (S : FnScope N ps scope)
    (len : ∀ vs H Q E, sp vs H Q E → vs.length = ps.length)
    (hbody : ∀ (A : Around) (outer : List Env) (s : Shared) (H : Hp) (vs : List V) (Q : VK) (E : XK),
      Room k (A.deeper (envOfC qual scope s.heap.objs.size f cdv)) → A.guards = some [] → sp vs H Q E →
      ∃ t, PSs (cxOf CX P w K mg base N qual scope f cdv A outer s H E) body t ∧
        t { nx := fun _ H' => Q .non H', rt := Q } (start N vs) H) :
    FnG P w K mg base CX (k + 1) f (PySem.W.fnOf name qual params body scope dV kV doc pm an cdv ct) ps sp := by
  constructor
  · exact len
  intro A outer s H args us vs Q E hr gd e0 hb r hsp
  have old : ∀ b o, base.get? b = some o → s.heap.get? b = some o := fun b o e => (e0.bs b o e).1
  have KX : K.In s.heap := e0.mod.kin.keeps old
  have lim : s.heap.NoLimit := e0.mod.nolimit.keeps old
  have hkind : ∀ y ∈ ps.zip us, scope.names.lookup y.1 = some .local ∨
      (scope.names.lookup y.1 = some .cell ∧
        ((cellsFrom (s.heap.objs.size + 1) scope.names []).lookup y.1).isSome = true) := by
    rintro ⟨n, v⟩ hy
    have hn := (List.of_mem_zip hy).1
    rcases S.par n hn with q | q
    · exact Or.inl q
    · exact Or.inr ⟨q, PySem.W.cellsFrom_some _ _ _ (Or.inl q)⟩
  refine codeAny_call_function hr.depth (KX _ _ lk) rfl S.co S.gen rfl (PySem.W.codeRec_of KX hcd) (hb _ _ _ _ ?_)
  refine wpAny_newFunctionEnv_cells S.kind hkind ?_
  rintro env rfl s1 x
  refine ⟨lim.keeps x.toInCall.keep, codeAny_func ?_⟩
  obtain ⟨t, ht, hq⟩ := hbody A outer s H vs Q E (hr.deeper _) gd hsp
  have I := inv_start (CX := CX) (E := E) S hr.hd e0 (len _ _ _ _ hsp) r x
  refine wpAny_mono (ht.run [] s1 (start N vs) H _ I hq) ?_ (fun _ _ z => z)
  intro fl s' hs
  match fl, hs with
  | .ret u, ⟨v, σ', H', J, rv, q⟩ => exact ⟨v, H', J.os, J.bare, J.base, J.hok, rv, q⟩
  | .next, ⟨σ', H', J, q⟩ => exact ⟨V.non, H', J.os, J.bare, J.base, J.hok, rfl, q⟩
  | .brk, ⟨_, _, _, q⟩ => exact False.elim q
  | .cont, ⟨_, _, _, q⟩ => exact False.elim q

section
variable {P : Program} {w : World} {K : PySem.W.Frag} {mg : Str → Option Value} {base : Heap}
theorem okG {x qual : Str} {st : Stmt} {f : Addr} {fd : FuncData} {N ps : List Str} {k : Nat} {sp : Sp}
    (F : Fun K x qual st f fd) (S : FnScope N ps (defScope st))
    (len : ∀ vs H Q E, sp vs H Q E → vs.length = ps.length)
    (hbody : ∀ (cdv : Value) (A : Around) (outer : List Env) (s : Shared) (H : Hp) (vs : List V) (Q : VK) (E : XK),
      Room k (A.deeper (envOfC qual (defScope st) s.heap.objs.size f cdv)) → A.guards = some [] → sp vs H Q E →
      ∃ t, PSs (cxOf CX0 P w K mg base N qual (defScope st) f cdv A outer s H E).nox (defBody st) t ∧
        t { nx := fun _ H' => Q .non H', rt := Q } (start N vs) H) :
    FnG P w K mg base CX0 (k + 1) f fd ps sp := by
  obtain ⟨oc, od, kV, doc, pm, an, cdv, ct, osl, e, lk, hcd⟩ := F.ex
  subst e
  refine fnG_of lk hcd S len ?_
  intro A outer s H vs Q E hr gd hsp
  obtain ⟨t, h, q⟩ := hbody cdv A outer s H vs Q E hr gd hsp
  exact ⟨t, h.nox, q⟩
end

/-! ### the end of a law, by such a promise -/
theorem law_end {P : Program} {w : World} {K : PySem.W.Frag} {mg mb : Str → Option Value} {CX : CXT} {k : Nat}
    {fa a : Addr} {fd : FuncData} {x : Str} {sp : Sp} {s₁ : Shared} {vs : List Value} {ns : List Int}
    (KX : K.In s₁.heap) (hns : s₁.heap.Ns mainGlobals mg) (hb : s₁.heap.Ns builtinsNs mb)
    (hbb : ∀ x : Str, x ≠ "__name__" → mb x = bootBuiltins x) (hlim : s₁.heap.NoLimit) (hg : s₁.gens = #[])
    (ha : s₁.heap.get? a = some { cls := .type "list", data := .seq vs.toArray }) (hi : IntsAre vs ns)
    (hl : ns.length ≤ sizeLine) (hr : Room k callerA) (hsm : ∃ mm, s₁.heap.Ns sysModules mm)
    (F : ∀ base : Heap, K.In base → base.Ns mainGlobals mg → (∃ mm, base.Ns sysModules mm) → FnG P w K mg base CX k fa fd [x] sp)
    (hbind : ∀ (s : Shared) (u : Value), BindsTo s fd ⟨[u], []⟩ [(x, u)])
    (hsp : ∀ H : Hp, Only H → SqL K H a (ns.map V.int) → sp [.ref a] H (fun v _ => v = .bl true) fun _ _ _ => False)
    (hCX : ∀ H e s', CX [] H s₁ (fun _ _ _ => False) e s' → False) :
    codeAny (model P w) callerA (.call (.ref fa) ⟨[.ref a], []⟩)
      (fun r s' => r = .ok (.ret (.bool true)) ∧ OldK s₁.heap s'.heap ∧ s'.os = s₁.os ∧ AllBare s'.gens) s₁ := by
  have rv := vals_ints hi
  have lenV := hi.length
  have core : ∀ H : Hp, Only H → SqL K H a (ns.map V.int) → HOk P w H s₁.heap → (∀ b, H b ≠ none → b = a) →
      (H a ≠ none → K.lookup a = none) →
      codeAny (model P w) callerA (.call (.ref fa) ⟨[.ref a], []⟩)
        (fun r s' => r = .ok (.ret (.bool true)) ∧ OldK s₁.heap s'.heap ∧ s'.os = s₁.os ∧ AllBare s'.gens) s₁ := by
    intro H hO hS hok hA hK
    have at_a : ∀ {b : Addr} {u : HO}, H b = some u → b = a := fun {b u} q => hA b (by rw [q]; simp)
    have noA : ∀ {b : Addr} {o : Obj} {es : Array DictEntry} {ep : Nat}, s₁.heap.get? b = some o →
        o.data = .dict es ep → H b = none := by
      intro b o es ep e d
      cases q : H b with
      | none => rfl
      | some u =>
        rw [at_a q, ha] at e
        cases e
        exact nomatch d
    have nsK : ∀ {b : Addr} {m : Str → Option Value}, s₁.heap.Ns b m → (hidT s₁.heap H).Ns b m := by
      rintro b m ⟨o, es, ep, e, d, r⟩
      exact ⟨o, es, ep, hidT_get e (noA e d), d, r⟩
    have hKb : K.In (hidT s₁.heap H) := by
      intro b o e
      refine hidT_get (KX b o e) ?_
      cases q : H b with
      | none => rfl
      | some u =>
        have e' := at_a q
        subst e'
        rw [hK (by rw [q]; simp)] at e
        cases e
    have hM : Mod K mg (hidT s₁.heap H) := by
      obtain ⟨mc, h1, h2⟩ := hlim
      exact ⟨hKb, nsK hns, ⟨mb, nsK hb, hbb⟩, ⟨mc, nsK h1, h2⟩⟩
    have e0 : Env0 P w K mg (hidT s₁.heap H) callerA [] s₁ H := by
      refine ⟨rfl, hM, fun b o e => of_hidT e, Nat.le_of_eq (hidT_size _ _), trivial, ?_, hok, .of_eq hg⟩
      intro b hb
      exact absurd (show b ∈ ([] : List Addr) from hb) (by simp)
    have hmods : ∃ mm, (hidT s₁.heap H).Ns sysModules mm := by
      obtain ⟨mm, h1⟩ := hsm
      exact ⟨mm, nsK h1⟩
    have z := (F _ hKb (nsK hns) hmods).go callerA [] s₁ H ⟨[.ref a], []⟩ [.ref a] [.ref a] _ _ hr rfl e0
      (hbind s₁ (.ref a)) (.cons rfl .nil) (hsp H hO hS)
    refine codeAny_mono z fun r s' h => ?_
    match r, h with
    | .error e, h => exact (hCX H e s' h).elim
    | .ok .next, h => exact False.elim h
    | .ok .brk, h => exact False.elim h
    | .ok .cont, h => exact False.elim h
    | .ok (.ret u), ⟨v, H', os, bare, un, hok', r', q⟩ =>
      have q' : v = .bl true := q
      subst q'
      obtain rfl : u = Value.bool true := r'
      refine ⟨rfl, OldK.of_keep ?_, os, bare⟩
      intro b o e
      cases q : H b with
      | none =>
        refine un.keep b o e q ?_ (by simp)
        intro z
        exact absurd (show b ∈ ([] : List Addr) from z) (by simp)
      | some u =>
        rcases hO b with z | ⟨ob, xs, z⟩
        · rw [q] at z
          cases z
        · obtain ⟨e1, _⟩ := hok b _ z
          obtain ⟨e2, _⟩ := hok' b _ (un.frzs b ob _ z)
          rw [e] at e1
          cases e1
          exact e2
  cases hk : K.lookup a with
  | some o =>
    have e := KX a o hk
    rw [ha] at e
    cases e
    refine core (fun _ => none) (fun _ => Or.inl rfl) (Or.inr ⟨_, vs.toArray, _, hk, rfl, rfl, rfl, ?_, ?_⟩) ?_ ?_ ?_
    · rw [List.size_toArray, lenV]
      exact hl
    · simpa using rv
    · intro b u z
      cases (show (none : Option HO) = some u from z)
    · intro b z
      exact absurd rfl z
    · intro z
      exact absurd rfl z
  | none =>
    let o₁ : Obj := { cls := .type "list", data := .seq vs.toArray }
    let H₁ : Hp := fun b => if b = a then some (.frz o₁ (.lst (ns.map V.int))) else none
    have at1 : H₁ a = some (.frz o₁ (.lst (ns.map V.int))) := if_pos rfl
    have off : ∀ b, b ≠ a → H₁ b = none := fun b h => if_neg h
    refine core H₁ (fun b => ?_) (Or.inl (Or.inr ⟨o₁, at1⟩)) (fun b u z => ?_) (fun b z => ?_) fun _ => hk
    · by_cases hb : b = a
      · subst hb
        exact Or.inr ⟨_, _, at1⟩
      · exact Or.inl (off b hb)
    · by_cases hb : b = a
      · subst hb
        rw [at1] at z
        cases z
        refine ⟨ha, ?_, vs, _, rv, ha⟩
        rw [List.length_map]
        exact hl
      · rw [off b hb] at z
        cases z
    · by_cases hb : b = a
      · exact hb
      · exact absurd (off b hb) z

theorem walkG {l : PySem.W.OpenLaw} {n k : Nat} {q : Program} {loose : List Str} {XP : (Str → Option Value) → Heap → Prop}
    {YP : World → Heap → Prop} {d : DefRec} {K : Params → PySem.W.Frag} {CX : CXT} {sp : PySem.W.Frag → Sp} {x : Str}
    (hq : importsNone q = true) (hn : l.most = some n) (hn2 : n ≤ sizeLine) (hdf : d.params.defaults = []) (hr : Room k callerA)
    (hY : ∀ (w : World) (h : Heap), YP w h → (K w.params).In h)
    (F : ∀ (w : World) (mg : Str → Option Value) (fa : Addr) (h : Heap), (K w.params).In h → h.Ns mainGlobals mg →
      mg d.name = some (.ref fa) →
      ∃ fd : FuncData, (∀ (s : Shared) (u : Value), BindsTo s fd ⟨[u], []⟩ [(x, u)]) ∧
        ∀ base : Heap, (K w.params).In base → base.Ns mainGlobals mg → (∃ mm, base.Ns sysModules mm) →
          FnG l.prog w (K w.params) mg base CX k fa fd [x] (sp (K w.params)))
    (hsp : ∀ (K : PySem.W.Frag) (H : Hp) (a : Addr) (ns : List Int), ns.length ≤ n → Only H →
      SqL K H a (ns.map V.int) → sp K [.ref a] H (fun v _ => v = .bl true) fun _ _ _ => False)
    (hCX : ∀ (H : Hp) (s : Shared) (e : Value) (s' : Shared), CX [] H s (fun _ _ _ => False) e s' → False) :
    PySem.W.WalkO q loose XP YP l.row.toRowW d [] (fun f vs => PySem.call f vs) := by
  refine Att.attach_call hn hdf ?_
  intro w s₀ s₁ mg mb fa o pm cd doc a vs ns G Y ho hd hcd hmg hobj hints hlen hg
  have KX := hY w _ Y
  obtain ⟨fd, hb, hF⟩ := F w mg fa _ KX G.T.g hmg
  have hz := Nat.le_trans hlen hn2
  obtain ⟨mm, hmm, _⟩ := (G.T.seer hq).mods
  refine law_end KX G.T.g G.T.b G.T.builtins G.T.nolimit hg hobj hints hz hr ⟨mm, hmm⟩ hF hb ?_ ?_
  · exact fun H hO hS => hsp _ H a ns hlen hO hS
  · exact fun H e s' => hCX H s₁ e s'

/-! ### powers of great numbers -/
def CPowG (i j : Int) : Prop := 0 ≤ j ∧ (Builtin.Int.intBits i : Int) * j ≤ 2 ^ 27
theorem op_powG {X : Cx} : OpR X (binaryOp .Pow) (rI CPowG fun i j => .int (i ^ j.toNat)) :=
  opI fun _ _ _ _ _ _ _ hc q => pow_int hc.1 hc.2 q

/-! ### data at any depth, dicts among them -/
def kD : Key → PyData
  | .inl i => .int i
  | .inr x => .str x
mutual
inductive Da (K : PySem.W.Frag) (H : Hp) : V → PyData → Prop
  | non : Da K H .non .none
  | bl (b : Bool) : Da K H (.bl b) (.bool b)
  | int (i : Int) : Da K H (.int i) (.int i)
  | str (x : Str) : Da K H (.str x) (.str x)
  | lst {a : Addr} {xs : List V} {ds : List PyData} (h : SqL K H a xs) (t : DaAll K H xs ds) : Da K H (.ref a) (.list ds)
  | tup {a : Addr} {xs : List V} {ds : List PyData} (h : SqT K H a xs) (t : DaAll K H xs ds) : Da K H (.ref a) (.tuple ds)
  | dic {a : Addr} {kvs : List (Key × V)} {ds : List (PyData × PyData)} (h : H a = some (.dK kvs)) (t : DaKv K H kvs ds) : Da K H (.ref a) (.dict ds)
inductive DaAll (K : PySem.W.Frag) (H : Hp) : List V → List PyData → Prop
  | nil : DaAll K H [] []
  | cons {v : V} {vs : List V} {d : PyData} {ds : List PyData} (h : Da K H v d) (t : DaAll K H vs ds) : DaAll K H (v :: vs) (d :: ds)
inductive DaKv (K : PySem.W.Frag) (H : Hp) : List (Key × V) → List (PyData × PyData) → Prop
  | nil : DaKv K H [] []
  | cons {k : Key} {v : V} {kvs : List (Key × V)} {d : PyData} {ds : List (PyData × PyData)} (h : Da K H v d) (t : DaKv K H kvs ds) :
      DaKv K H ((k, v) :: kvs) ((kD k, d) :: ds)
end
section
variable {K : PySem.W.Frag} {H H' : Hp}
theorem seqT_mono (s : Same H H') {a : Addr} {xs : List V} (h : SqT K H a xs) : SqT K H' a xs := by
  rcases h with (e | ⟨o, e⟩) | e
  · exact .inl (.inl (s _ _ e))
  · exact .inl (.inr ⟨o, s _ _ e⟩)
  · exact .inr e
mutual
theorem Da.mono (s : Same H H') : ∀ {v : V} {d : PyData}, Da K H v d → Da K H' v d
  | _, _, .non => .non
  | _, _, .bl b => .bl b
  | _, _, .int i => .int i
  | _, _, .str x => .str x
  | _, _, .lst h t => .lst (s.seq h) (DaAll.mono s t)
  | _, _, .tup h t => .tup (seqT_mono s h) (DaAll.mono s t)
  | _, _, .dic h t => .dic (s _ _ h) (DaKv.mono s t)
theorem DaAll.mono (s : Same H H') : ∀ {vs : List V} {ds : List PyData}, DaAll K H vs ds → DaAll K H' vs ds
  | _, _, .nil => .nil
  | _, _, .cons h t => .cons (Da.mono s h) (DaAll.mono s t)
theorem DaKv.mono (s : Same H H') : ∀ {vs : List (Key × V)} {ds : List (PyData × PyData)}, DaKv K H vs ds → DaKv K H' vs ds
  | _, _, .nil => .nil
  | _, _, .cons h t => .cons (Da.mono s h) (DaKv.mono s t)
end
end
section
variable {X : Cx} {pins : List (Addr × Obj)} {σ : L2.St} {H : Hp} {s : Shared}
theorem key_reads {h : Heap} {k : Key} {u : Value} (e : keyIs k u = true) : Reads h u (kD k) [] := by
  rcases keyIs_shape e with ⟨i, t, rfl, rfl⟩ | ⟨x, t, rfl, rfl⟩
  · exact .int i t
  · exact .str x t
/-- a list does not stand where the modules' dict stands -/
theorem not_mods (hm : ∃ mm, X.base.Ns sysModules mm) (I : Inv X pins σ H s) {a : Addr} {o : Obj} {vs : Array Value} {n : Nat}
    (ho : s.heap.get? a = some o) (hd : o.data = .seq vs n) : sysModules ≠ a := by
  rintro rfl
  obtain ⟨mm, om, es, ep, e1, e2, _⟩ := hm
  have e3 := I.bk _ _ e1
  rw [ho] at e3
  cases e3
  rw [hd] at e2
  cases e2
mutual
theorem Da.reads (hm : ∃ mm, X.base.Ns sysModules mm) (I : Inv X pins σ H s) : ∀ (d : PyData) (v : V) (u : Value), Da X.K H v d → RelV v u → ∃ as, Reads s.heap u d as ∧ sysModules ∉ as
  | .none, _, _, h, r => by
    cases h
    cases r
    exact ⟨_, .none, by simp⟩
  | .bool b, _, _, h, r => by
    cases h
    cases r
    exact ⟨_, .bool b, by simp⟩
  | .int i, _, _, h, r => by
    cases h
    obtain ⟨t, rfl⟩ := r
    exact ⟨_, .int i t, by simp⟩
  | .str x, _, _, h, r => by
    cases h
    obtain ⟨t, rfl⟩ := r
    exact ⟨_, .str x t, by simp⟩
  | .list ds, _, _, h, r => by
    cases h with
    | lst hs ha =>
      cases r
      obtain ⟨its, rv, ⟨o, n, ho, hc, _, hd⟩, _⟩ := I.list hs
      obtain ⟨as, hr, no⟩ := Da.readsAll hm I ds _ its ha rv
      refine ⟨_, .list ho hc hd hr, ?_⟩
      rw [List.mem_cons, not_or]
      exact ⟨not_mods hm I ho hd, no⟩
  | .tuple ds, _, _, h, r => by
    cases h with
    | tup hs ha =>
      cases r
      obtain ⟨its, rv, ⟨o, ho, hc, n, hd⟩, _⟩ := I.tuple hs
      obtain ⟨as, hr, no⟩ := Da.readsAll hm I ds _ its ha rv
      exact ⟨_, .tuple ho hc hd hr, no⟩
  | .dict ds, _, _, h, r => by
    cases h with
    | @dic a kvs _ he hk =>
      cases r
      have ok : ObjOk X.prog X.w H s.heap a (.dK kvs) := I.hok a _ he
      obtain ⟨_, ns, vs, kv, o, es, ep, ho, ex, hd, _, ps, _⟩ := ok
      obtain ⟨as, bs, h1, h2, n1, n2⟩ := Da.readsKv hm I ds kvs vs es.toList hk kv ps
      refine ⟨_, .dict ho ex.1 hd h1 h2, ?_⟩
      rw [List.mem_append, List.mem_cons, not_or, not_or]
      refine ⟨⟨fun z => ?_, n1⟩, n2⟩
      rw [← z] at ns
      exact absurd ns (by decide)
theorem Da.readsAll (hm : ∃ mm, X.base.Ns sysModules mm) (I : Inv X pins σ H s) : ∀ (ds : List PyData) (vs : List V) (us : List Value), DaAll X.K H vs ds → Vals vs us → ∃ as, ReadsAll s.heap us ds as ∧ sysModules ∉ as
  | [], _, _, h, r => by
    cases h
    cases r
    exact ⟨_, .nil, by simp⟩
  | d :: ds, _, _, h, r => by
    cases h with
    | cons h1 h2 =>
      cases r with
      | cons r1 r2 =>
        obtain ⟨as, q1, n1⟩ := Da.reads hm I d _ _ h1 r1
        obtain ⟨bs, q2, n2⟩ := Da.readsAll hm I ds _ _ h2 r2
        refine ⟨_, .cons q1 q2, ?_⟩
        rw [List.mem_append, not_or]
        exact ⟨n1, n2⟩
theorem Da.readsKv (hm : ∃ mm, X.base.Ns sysModules mm) (I : Inv X pins σ H s) : ∀ (ds : List (PyData × PyData)) (kvs : List (Key × V)) (vs : List (Key × Value)) (es : List DictEntry), DaKv X.K H kvs ds → KV kvs vs →
    Pairs (mixKind X.prog X.w) es vs → ∃ as bs, ReadsAll s.heap (es.map (·.key)) (ds.map (·.1)) as ∧ ReadsAll s.heap (es.map (·.val)) (ds.map (·.2)) bs ∧ sysModules ∉ as ∧ sysModules ∉ bs
  | [], _, _, _, h, r, p => by
    cases h
    cases r
    cases p
    exact ⟨_, _, .nil, .nil, by simp, by simp⟩
  | d :: ds, _, _, _, h, r, p => by
    cases h with
    | cons h1 h2 =>
      cases r with
      | cons r1 r2 =>
        cases p with
        | cons p1 p2 p3 =>
          obtain ⟨e1, e2⟩ := r1
          obtain ⟨as, q1, n1⟩ := Da.reads hm I _ _ _ h1 e2
          obtain ⟨cs, bs, q2, q3, n2, n3⟩ := Da.readsKv hm I ds _ _ _ h2 r2 p3
          rw [← p2] at q1
          rw [← e1] at p1
          refine ⟨_, _, .cons (key_reads p1) q2, .cons q1 q3, by simpa using n2, ?_⟩
          rw [List.mem_append, not_or]
          exact ⟨n1, n3⟩
end
end
/-! ### repr of data -/
def rRepr (K : PySem.W.Frag) : List V → Hp → VK → Prop := fun xs H Q =>
  ∃ (a : Addr) (d : PyData), xs = [.ref a] ∧ Da K H (.ref a) d ∧ d.showable = true ∧ d.depth ≤ 64 ∧ d.shown.length ≤ sizeLine ∧ Q (.str d.shown) H
theorem call_repr {X : Cx} (hm : ∃ mm, X.base.Ns sysModules mm) (gd : X.A.guards = some []) (hu : X.A.units + 70 < cLine) :
    CallR X (.builtin "repr") (rRepr X.K) := by
  intro pins s σ H xs us Q I r h
  obtain ⟨a, d, rfl, hs, sh, dp, sz, q⟩ := h
  cases r with
  | cons r1 r2 =>
    cases r2
    obtain ⟨as, rd, sy⟩ := Da.reads hm I d _ _ hs r1
    obtain rfl := r1
    refine repr_of_reads' rd sh (fun _ => sy) gd (by omega) (fun _ _ e => e) (fun h' u tk k => ?_) sz
    exact ⟨.str d.shown, H, I.kept (h' := h') (t' := tk) k, ⟨u, rfl⟩, q⟩
end Ev

/-! ## What an expression gives, while all that is tracked stands -/
namespace Ev
open PySem PySem.Spec PyProof.Rows L2
theorem PE.imp {X : Cx} {e : Expr} {t t' : TE} (h : PE X e t) (i : ∀ σ H Q, t' σ H Q → t σ H Q) : PE X e t' :=
  ⟨fun pins s σ H Q I z => h.run pins s σ H Q I (i σ H Q z)⟩
theorem Same.rfl' {H : Hp} : Same H H := fun _ _ e => e
theorem same_put {H : Hp} {p : Addr} {o : HO} (h : H p = none) : Same H (upd H p o) := fun b x e => by
  rw [upd_ne (ne_of_none e h)]
  exact e
/-- all but p stands as it stood -/
def Bu (p : Addr) (H H' : Hp) : Prop := ∀ b o, b ≠ p → H b = some o → H' b = some o
theorem Bu.refl {p : Addr} {H : Hp} : Bu p H H := fun _ _ _ e => e
theorem Bu.trans {p : Addr} {H H1 H2 : Hp} (h : Bu p H H1) (k : Bu p H1 H2) : Bu p H H2 := fun b o n e => k b o n (h b o n e)
theorem Bu.put {p : Addr} {H : Hp} {o : HO} : Bu p H (upd H p o) := fun b _ n e => by
  rw [upd_ne n]
  exact e
theorem Bu.new {p q : Addr} {H : Hp} {o : HO} (h : H q = none) : Bu p H (upd H q o) := fun b _ _ e => by
  rw [upd_ne (ne_of_none e h)]
  exact e
theorem Bu.of {p : Addr} {H H' : Hp} (h : Same H H') : Bu p H H' := fun b o _ e => h b o e
structure GP where
  p : Hp → V → Prop
  mono : ∀ {H H' : Hp} {u : V}, Same H H' → p H u → p H' u
def AllG (Gs : List GP) (H : Hp) (us : List V) : Prop := Paired (fun (G : GP) u => G.p H u) Gs us
theorem AllG.mono {H H' : Hp} (s : Same H H') : ∀ {Gs : List GP} {us : List V}, AllG Gs H us → AllG Gs H' us
  | _, _, .nil => .nil
  | G :: _, _, .cons h t => .cons (G.mono s h) (AllG.mono s t)
theorem AllG.append {H : Hp} : ∀ {Gs Gs' : List GP} {us us' : List V}, AllG Gs H us → AllG Gs' H us' → AllG (Gs ++ Gs') H (us ++ us')
  | _, _, _, _, .nil, k => k
  | _ :: _, _, _, _, .cons h t, k => .cons h (AllG.append t k)
def gEq (v : V) : GP := ⟨fun _ u => u = v, fun _ h => h⟩
def gLst (Gs : List GP) : GP := ⟨fun H u => ∃ p us, u = .ref p ∧ H p = some (.lst us) ∧ AllG Gs H us, fun s ⟨p, us, h1, h2, h3⟩ => ⟨p, us, h1, s _ _ h2, h3.mono s⟩⟩
def Gives (H0 : Hp) (te : TE) (G : GP) (σ : L2.St) : Prop := ∀ (H : Hp) (Q : VK), Same H0 H → (∀ H' u, Same H H' → G.p H' u → Q u H') → te σ H Q
def GivesL (H0 : Hp) (ta : TA) (Gs : List GP) (σ : L2.St) : Prop := ∀ (H : Hp) (Q : List V → Hp → Prop), Same H0 H → (∀ H' us, Same H H' → AllG Gs H' us → Q us H') → ta σ H Q
section
variable {H0 : Hp} {σ : L2.St} {te te' : TE} {ta : TA} {G : GP} {Gs Gs' : List GP} {i : Nat} {v : V} {C : Addr} {D : Ends} {rest : TS}
theorem g_nil : GivesL H0 tNil [] σ := fun H Q _ q => q H [] Same.rfl' .nil
theorem g_cons (h : Gives H0 te G σ) (t : GivesL H0 ta Gs σ) : GivesL H0 (tCons te ta) (G :: Gs) σ := fun H Q s q =>
  h H _ s fun H1 u s1 g1 => t H1 _ (s.trans s1) fun H2 us s2 g2 => q H2 (u :: us) (s1.trans s2) (.cons (G.mono s2 g1) g2)
theorem g_lst (h : GivesL H0 ta Gs σ) (hz : Gs.length ≤ 1000 := by simp) : Gives H0 (tLst ta) (gLst Gs) σ := fun H Q s q =>
  h H _ s fun H1 us s1 g1 => by
    have hl : us.length = Gs.length := (Paired.length g1).symm
    refine ⟨?_, fun p np => ?_⟩
    · have y := sizeLine_eq
      omega
    · have s2 := same_put (o := .lst us) np
      exact q _ _ (s1.trans s2) ⟨p, us, rfl, upd_same, g1.mono s2⟩
theorem g_cat (h : Gives H0 te (gLst Gs) σ) (h' : Gives H0 te' (gLst Gs') σ) (hz : Gs.length + Gs'.length ≤ 1000 := by simp) :
    Gives H0 (tOp rCat te te') (gLst (Gs ++ Gs')) σ := fun H Q s q =>
  h H _ s fun H1 u s1 ⟨p, us, e1, h1, g1⟩ => h' H1 _ (s.trans s1) fun H2 u' s2 ⟨p', us', e2, h2, g2⟩ => by
    have l1 : us.length = Gs.length := (Paired.length g1).symm
    have l2 : us'.length = Gs'.length := (Paired.length g2).symm
    refine ⟨p, p', us, us', e1, e2, s2 _ _ h1, h2, ?_, fun r nr => ?_⟩
    · have y := sizeLine_eq
      omega
    · have s3 := same_put (o := .lst (us ++ us')) nr
      exact q _ _ ((s1.trans s2).trans s3) ⟨r, us ++ us', rfl, upd_same, AllG.append (g1.mono (s2.trans s3)) (g2.mono s3)⟩
theorem g_var (hv : σ[i]? = some (some v)) (g : G.p H0 v) : Gives H0 (tVar i) G σ := fun H Q s q => ⟨v, hv, q H v Same.rfl' (G.mono s g)⟩
theorem g_eq (hv : σ[i]? = some (some v)) : Gives H0 (tVar i) (gEq v) σ := g_var hv rfl
theorem s_set (h : Gives H0 te G σ) (k : ∀ H' u, Same H0 H' → G.p H' u → rest D (σ.set i (some u)) H') : tSeq (tAsg te (gName i)) rest D σ H0 :=
  h H0 _ Same.rfl' fun H' u s g => k H' u s g
theorem s_ret (h : Gives H0 te G σ) (k : ∀ H' u, Same H0 H' → G.p H' u → D.rt u H') : tRet te D σ H0 :=
  h H0 _ Same.rfl' fun H' u s g => k H' u s g
end
/-- the abstract heap without p -/
def but (H : Hp) (p : Addr) : Hp := fun b => if b = p then none else H b
theorem but_ne {H : Hp} {p b : Addr} (h : b ≠ p) : but H p b = H b := if_neg h
theorem but_same {H H' : Hp} {p : Addr} (s : Same H H') : Same (but H p) (but H' p) := fun b o e => by
  by_cases h : b = p
  · rw [h] at e
    have z : but H p p = none := if_pos rfl
    rw [z] at e
    cases e
  · rw [but_ne h] at e ⊢
    exact s _ _ e
theorem but_le {H H' : Hp} {p : Addr} (s : Bu p H H') : Same (but H p) H' := fun b o e => by
  by_cases h : b = p
  · rw [h] at e
    have z : but H p p = none := if_pos rfl
    rw [z] at e
    cases e
  · rw [but_ne h] at e
    exact s _ _ h e
/-- data that do not hold p -/
def gDa (K : PySem.W.Frag) (p : Addr) (d : PyData) : GP := ⟨fun H u => Da K (but H p) u d, fun s h => h.mono (but_same s)⟩
section
variable {K : PySem.W.Frag} {p : Addr} {op : HO} {H0 : Hp} {σ : L2.St} {te : TE} {ta : TA} {G : GP} {Gs : List GP} {v : V} {d : PyData} {ds : List PyData}
theorem ne_new {H : Hp} {q : Addr} (hp : H0 p = some op) (s : Same H0 H) (nq : H q = none) : q ≠ p := fun z => by
  rw [z, s _ _ hp] at nq
  cases nq
theorem g_c (h : ∀ H, G.p H v) : Gives H0 (tC v) G σ := fun H Q _ q => q H v Same.rfl' (h H)
theorem g_neg {i : Int} : Gives H0 (tUn (rU fun i => .int (-i)) (tC (.int i))) (gDa K p (.int (-i))) σ := fun H Q _ q => ⟨i, rfl, q H _ Same.rfl' (.int _)⟩
theorem g_pow {i j : Int} (h : CPow i j) : Gives H0 (tOp (rI CPow fun i j => .int (i ^ j.toNat)) (tC (.int i)) (tC (.int j))) (gDa K p (.int (i ^ j.toNat))) σ :=
  fun H Q _ q => ⟨i, j, rfl, rfl, h, q H _ Same.rfl' (.int _)⟩
theorem allDa {H : Hp} : ∀ {ds : List PyData} {us : List V}, AllG (ds.map (gDa K p)) H us → DaAll K (but H p) us ds
  | [], _, .nil => .nil
  | _ :: _, _, .cons h t => .cons h (allDa t)
theorem g_lstD (hp : H0 p = some op) (h : GivesL H0 ta (ds.map (gDa K p)) σ) (hz : ds.length ≤ 1000 := by simp) : Gives H0 (tLst ta) (gDa K p (.list ds)) σ := fun H Q s q =>
  h H _ s fun H1 us s1 g1 => by
    have hl : us.length = ds.length := by rw [← Paired.length g1, List.length_map]
    refine ⟨?_, fun r nr => ?_⟩
    · have y := sizeLine_eq
      omega
    · have s2 := same_put (o := .lst us) nr
      have ne := ne_new hp (s.trans s1) nr
      refine q _ _ (s1.trans s2) (.lst (.inl (.inl ?_)) ((allDa g1).mono (but_same s2)))
      rw [but_ne ne, upd_same]
theorem g_tupD (hp : H0 p = some op) (h : GivesL H0 ta (ds.map (gDa K p)) σ) (hz : ds.length ≤ 1000 := by simp) : Gives H0 (tTup ta) (gDa K p (.tuple ds)) σ := fun H Q s q =>
  h H _ s fun H1 us s1 g1 => by
    have hl : us.length = ds.length := by rw [← Paired.length g1, List.length_map]
    refine ⟨?_, fun r nr => ?_⟩
    · have y := sizeLine_eq
      omega
    · have s2 := same_put (o := .tup us) nr
      have ne := ne_new hp (s.trans s1) nr
      refine q _ _ (s1.trans s2) (.tup (.inl (.inl ?_)) ((allDa g1).mono (but_same s2)))
      rw [but_ne ne, upd_same]
theorem g_dnew (hp : H0 p = some op) : Gives H0 tDNewK (gDa K p (.dict [])) σ := fun H Q s q r nr => by
  refine q _ _ (same_put nr) (.dic ?_ .nil)
  rw [but_ne (ne_new hp s nr), upd_same]
theorem g_disp {x : Str} (hp : H0 p = some op) : Gives H0 (tDisp [(tC (.str x), tTup (tCons (tC .non) tNil))]) (gDa K p (.dict [(.str x, .tuple [.none])])) σ := fun H Q s q r nr => by
  refine ⟨(by show 1 ≤ sizeLine; decide), fun t nt => ?_⟩
  have ne : t ≠ r := fun z => by
    rw [z, upd_same] at nt
    cases nt
  have n1 := ne_new hp s nr
  have n2 := ne_new hp (s.trans (same_put nr)) nt
  refine ⟨by rw [upd_ne ne.symm, upd_same], [(.inr x, .ref t)], rfl, (by show 1 ≤ 15; decide), q _ _ ?_ (.dic (kvs := [(.inr x, .ref t)]) ?_ (.cons (.tup (xs := [.non]) (.inl (.inl ?_)) (.cons .non .nil)) .nil))⟩
  · intro b o e
    have nb : b ≠ r := ne_of_none e nr
    have nbt : b ≠ t := fun z => by
      rw [z] at e
      rw [upd_ne ne, e] at nt
      cases nt
    rw [upd_ne nb, upd_ne nbt, upd_ne nb]
    exact e
  · rw [but_ne n1]
    exact upd_same
  · rw [but_ne n2, upd_ne ne, upd_same]
theorem allEq {H : Hp} : ∀ {ys : List V}, AllG (ys.map gEq) H ys
  | [] => .nil
  | _ :: _ => .cons rfl allEq
/-- [elt for .. in xs], the elements plain values -/
theorem g_lcP {a : Addr} {xs ys : List V} {i : Nat} {g : TG} {vs : List Nat} (hi : σ[i]? = some (some (.ref a))) (hx : SqL K H0 a xs) (hz : xs.length ≤ 1000) (hl : ys.length = xs.length)
    (he : ∀ (j : Nat) (x y : V), xs[j]? = some x → ys[j]? = some y → ∀ (H : Hp) (R : VK), Same H0 H → R y H →
      g x (wipe σ vs) H fun σ2 H2 => wipe σ2 vs = wipe σ vs ∧ te σ2 H2 R) :
    Gives H0 (tLc (iList K (tVar i)) g tYes te vs) (gLst (ys.map gEq)) σ := fun H Q s q => by
  refine ⟨_, hi, a, rfl, ⟨xs, s.seq hx⟩, fun D nD => ?_⟩
  have sD : Same H (upd H D (.lst [])) := same_put nD
  have y := sizeLine_eq
  refine lc_list (K := K) (a := a) (xs := xs) (fun k H' => Same H H' ∧ H' D = some (.lst (ys.take k))) ⟨sD, upd_same⟩ (fun k H' _ ⟨s', _⟩ => s'.seq (s.seq hx)) ?_ ?_
  · rintro k x H' hk ⟨s', eD⟩
    have hk' : k < ys.length := by
      obtain ⟨h, _⟩ := List.getElem?_eq_some_iff.mp hk
      omega
    have hy := List.getElem?_eq_getElem hk'
    refine cast ?_ (he k x ys[k] hk hy H' (fun y H4 => ∃ acc, H4 D = some (.lst acc) ∧ acc.length < sizeLine ∧ Same H (upd H4 D (.lst (acc ++ [y]))) ∧ upd H4 D (.lst (acc ++ [y])) D = some (.lst (ys.take (k + 1)))) (s.trans s') ⟨_, eD, ?_, ?_, ?_⟩)
    · rfl
    · rw [List.length_take]
      omega
    · intro b o e
      rw [upd_ne (ne_of_none e nD)]
      exact s' _ _ e
    · rw [upd_same, List.take_add_one, hy]
      rfl
  · rintro H' ⟨s', eD⟩
    rw [← hl, List.take_length] at eD
    exact q H' _ s' ⟨D, ys, rfl, eD, allEq⟩
/-- [elt for i in range(m)], the elements plain values -/
theorem g_lcR {ys : List V} {m : Int} {g : TG} {vs : List Nat} (hm : -(2 ^ 62) ≤ m ∧ m < 2 ^ 62) (hl : ys.length = m.toNat) (hz : ys.length ≤ 1000)
    (he : ∀ (j : Nat) (y : V), ys[j]? = some y → ∀ (H : Hp) (R : VK), Same H0 H → R y H →
      g (.int (0 + j)) (wipe σ vs) H fun σ2 H2 => wipe σ2 vs = wipe σ vs ∧ te σ2 H2 R) :
    Gives H0 (tLc (iRng1 (tCons (tC (.int m)) tNil)) g tYes te vs) (gLst (ys.map gEq)) σ := fun H Q s q => by
  refine ⟨m, rfl, hm.1, hm.2, fun D nD => ?_⟩
  have sD : Same H (upd H D (.lst [])) := same_put nD
  have y := sizeLine_eq
  refine lc_range (lo := 0) (n := m.toNat) (fun k H' => Same H H' ∧ H' D = some (.lst (ys.take k))) ⟨sD, upd_same⟩ ?_ ?_
  · rintro k H' hk ⟨s', eD⟩
    have hk' : k < ys.length := by omega
    have hy := List.getElem?_eq_getElem hk'
    refine cast ?_ (he k ys[k] hy H' (fun y H4 => ∃ acc, H4 D = some (.lst acc) ∧ acc.length < sizeLine ∧ Same H (upd H4 D (.lst (acc ++ [y]))) ∧ upd H4 D (.lst (acc ++ [y])) D = some (.lst (ys.take (k + 1)))) (s.trans s') ⟨_, eD, ?_, ?_, ?_⟩)
    · rfl
    · rw [List.length_take]
      omega
    · intro b o e
      rw [upd_ne (ne_of_none e nD)]
      exact s' _ _ e
    · rw [upd_same, List.take_add_one, hy]
      rfl
  · rintro H' ⟨s', eD⟩
    rw [← hl, List.take_length] at eD
    exact q H' _ s' ⟨D, ys, rfl, eD, allEq⟩
/-! ### tests whose answer is known -/
def GivesT (H0 : Hp) (tt : TT) (b : Bool) (σ : L2.St) : Prop := ∀ (H : Hp) (Q : Bool → Hp → Prop), Same H0 H → (∀ H', Same H H' → Q b H') → tt σ H Q
theorem s_skip {tt : TT} {t rest : TS} {D : Ends} (h : GivesT H0 tt false σ) (k : ∀ H', Same H0 H' → rest D σ H') : tSeq (tIfS tt t tNext) rest D σ H0 :=
  h H0 _ Same.rfl' fun H' s => iteF (k H' s)
theorem s_skip1 {tt : TT} {t : TS} {D : Ends} (h : GivesT H0 tt false σ) (k : ∀ H', Same H0 H' → D.nx σ H') : tIfS tt t tNext D σ H0 :=
  h H0 _ Same.rfl' fun H' s => iteF (k H' s)
theorem g_repr (h : Gives H0 te G σ) (hd : ∀ H u, Same H0 H → G.p H u → ∃ a, u = .ref a ∧ Da K H u d) (h1 : d.showable = true) (h2 : d.depth ≤ 64) (h3 : d.shown.length ≤ sizeLine) :
    Gives H0 (tCB (rRepr K) (tCons te tNil)) (gEq (.str d.shown)) σ := fun H Q s q =>
  h H _ s fun H1 u s1 g1 => by
    obtain ⟨a, rfl, da⟩ := hd H1 u (s.trans s1) g1
    exact ⟨a, d, rfl, da, h1, h2, h3, q H1 _ s1 rfl⟩
theorem t_neS {te' : TE} {x : Str} (h : Gives H0 te (gEq (.str x)) σ) (h' : Gives H0 te' (gEq (.str x)) σ) : GivesT H0 (tTest (tOp rNe te te')) false σ := fun H Q s q =>
  h H _ s fun H1 u s1 e1 => h' H1 _ (s.trans s1) fun H2 u' s2 e2 => by
    have e1 : u = .str x := e1
    have e2 : u' = .str x := e2
    subst e1
    subst e2
    refine ⟨rfl, _, rfl, ?_⟩
    rw [decide_eq_true rfl]
    exact q H2 (s1.trans s2)
theorem dp_bools {H : Hp} : ∀ bs : List Bool, DpAll K H (bs.map V.bl) (bs.map PyData.bool)
  | [] => .nil
  | b :: bs => .cons (.bl b) (dp_bools bs)
theorem eqv_bools : ∀ bs : List Bool, PyData.eqvAll (bs.map PyData.bool) (bs.map PyData.bool) = true
  | [] => by simp [PyData.eqvAll]
  | b :: bs => by simp [PyData.eqvAll, PyData.eqv, eqv_bools bs]
theorem lay_bools : ∀ bs : List Bool, PyData.canLayAll0 (bs.map PyData.bool) = true
  | [] => by simp [PyData.canLayAll0]
  | b :: bs => by simp [PyData.canLayAll0, PyData.canLay0, lay_bools bs]
theorem depth_bools : ∀ bs : List Bool, PyData.depthAll (bs.map PyData.bool) = 0
  | [] => by simp [PyData.depthAll]
  | b :: bs => by simp [PyData.depthAll, PyData.depth, depth_bools bs]
theorem shaped_bools (bs : List Bool) : SeqAt.shaped (.list (bs.map PyData.bool)) = true := by
  show (PyData.canLay0 (.list (bs.map .bool)) && decide (PyData.depth (.list (bs.map .bool)) ≤ 64)) = true
  simp [PyData.canLay0, PyData.depth, lay_bools, depth_bools]
theorem all_bl {H : Hp} : ∀ {bs : List Bool} {us : List V}, AllG (bs.map fun b => gEq (.bl b)) H us → us = bs.map V.bl
  | [], _, .nil => rfl
  | _ :: _, _, .cons h t => by
    have h : _ = V.bl _ := h
    rw [h, all_bl t]
    rfl
theorem t_neB {te' : TE} {bs : List Bool} (h : Gives H0 te (gLst (bs.map fun b => gEq (.bl b))) σ) (h' : Gives H0 te' (gLst (bs.map fun b => gEq (.bl b))) σ) :
    GivesT H0 (tTest (tOp (rNeD K) te te')) false σ := fun H Q s q =>
  h H _ s fun H1 u s1 ⟨p1, us1, e1, l1, g1⟩ => h' H1 _ (s.trans s1) fun H2 u' s2 ⟨p2, us2, e2, l2, g2⟩ => by
    subst e1
    subst e2
    rw [all_bl g1] at l1
    rw [all_bl g2] at l2
    refine ⟨_, _, .lst (.inl (.inl (s2 _ _ l1))) (dp_bools bs), .lst (.inl (.inl l2)) (dp_bools bs), shaped_bools bs, shaped_bools bs, _, rfl, ?_⟩
    have z : PyData.eqv (.list (bs.map .bool)) (.list (bs.map .bool)) = true := by
      simp only [PyData.eqv]
      exact eqv_bools bs
    rw [z]
    exact q H2 (s1.trans s2)
theorem t_not {tt : TT} {b : Bool} (h : GivesT H0 tt b σ) : GivesT H0 (tNot tt) (!b) σ := fun H Q s q => h H _ s q
theorem t_orF {tt uu : TT} (h : GivesT H0 tt false σ) (k : GivesT H0 uu false σ) : GivesT H0 (tOr tt uu) false σ := fun H Q s q =>
  h H _ s fun H1 s1 => iteF (k H1 Q (s.trans s1) fun H2 s2 => q H2 (s1.trans s2))
end
section
variable {K : PySem.W.Frag} {p : Addr} {H0 : Hp} {σ : L2.St}
theorem g_nonD : Gives H0 (tC .non) (gDa K p .none) σ := g_c fun _ => Da.non
theorem g_blD {b : Bool} : Gives H0 (tC (.bl b)) (gDa K p (.bool b)) σ := g_c fun _ => Da.bl b
theorem g_intD {i : Int} : Gives H0 (tC (.int i)) (gDa K p (.int i)) σ := g_c fun _ => Da.int i
theorem g_strD {x : Str} : Gives H0 (tC (.str x)) (gDa K p (.str x)) σ := g_c fun _ => Da.str x
end
theorem sum_le_all (m : Nat) : ∀ l : List Nat, (∀ n ∈ l, n ≤ m) → l.sum ≤ m * l.length
  | [], _ => by simp
  | n :: l, h => by
    have h1 := h n (List.mem_cons_self ..)
    have h2 := sum_le_all m l fun k hk => h k (List.mem_cons_of_mem _ hk)
    rw [List.sum_cons, List.length_cons, Nat.mul_succ]
    omega
theorem mem_all {H : Hp} : ∀ {Gs : List GP} {us : List V}, AllG Gs H us → ∀ v ∈ us, ∃ G ∈ Gs, G.p H v
  | _, _, .nil, _, h => nomatch h
  | G :: _, _, .cons h t, v, hv => by
    rcases List.mem_cons.mp hv with rfl | hv
    · exact ⟨G, List.mem_cons_self .., h⟩
    · obtain ⟨G', h1, h2⟩ := mem_all t v hv
      exact ⟨G', List.mem_cons_of_mem _ h1, h2⟩
theorem all_eq {H : Hp} : ∀ {ys us : List V}, AllG (ys.map gEq) H us → us = ys
  | [], _, .nil => rfl
  | _ :: _, _, .cons h t => by
    have h : _ = _ := h
    rw [h, all_eq t]
end Ev

/-! ## General steps -/
namespace Ev
open PySem PySem.Spec PyProof.Rows L2
section
variable {K : PySem.W.Frag} {B H0 : Hp} {σ : L2.St} {te tf : TE} {ta : TA} {i : Nat} {x v : V} {d : PyData} {ds : List PyData} {b c : Bool} {T : String} {tt uu : TT} {t rest : TS} {D : Ends} {a : Addr} {xs : List V} {k : Int} {G : GP}
theorem t_or (h : GivesT H0 tt b σ) (k : b = false → GivesT H0 uu c σ) : GivesT H0 (tOr tt uu) (b || c) σ := fun H Q s q =>
  h H _ s fun H1 s1 => by
    cases b with
    | true => exact iteT (q H1 s1)
    | false => exact iteF (k rfl H1 Q (s.trans s1) fun H2 s2 => q H2 (s1.trans s2))
theorem s_ifB (h : GivesT H0 tt b σ) (k1 : b = true → ∀ H', Same H0 H' → t { D with nx := rest D } σ H') (k2 : b = false → ∀ H', Same H0 H' → rest D σ H') : tSeq (tIfS tt t tNext) rest D σ H0 :=
  h H0 _ Same.rfl' fun H' s => by
    cases b with
    | true => exact iteT (k1 rfl H' s)
    | false => exact iteF (k2 rfl H' s)
theorem t_andB (h : GivesT H0 tt b σ) (k : b = true → GivesT H0 uu c σ) : GivesT H0 (tAnd tt uu) (b && c) σ := fun H Q s q =>
  h H _ s fun H1 s1 => by
    cases b with
    | true => exact iteT (k rfl H1 Q (s.trans s1) fun H2 s2 => q H2 (s1.trans s2))
    | false => exact iteF (q H1 s1)
theorem s_ifB1 (h : GivesT H0 tt b σ) (k1 : b = true → ∀ H', Same H0 H' → t D σ H') (k2 : b = false → ∀ H', Same H0 H' → D.nx σ H') : tIfS tt t tNext D σ H0 :=
  h H0 _ Same.rfl' fun H' s => by
    cases b with
    | true => exact iteT (k1 rfl H' s)
    | false => exact iteF (k2 rfl H' s)
theorem s_set1 (h : Gives H0 te G σ) (k : ∀ H' u, Same H0 H' → G.p H' u → D.nx (σ.set i (some u)) H') : tAsg te (gName i) D σ H0 :=
  h H0 _ Same.rfl' fun H' u s g => k H' u s g
theorem t_eqI2 {r k : Int} (h : Gives H0 te (gEq (.int r)) σ) : GivesT H0 (tTest (tOp rEq te (tC (.int k)))) (decide (r = k)) σ := fun H Q s q =>
  h H _ s fun H1 u s1 e => by
    have e : u = .int r := e
    subst e
    refine ⟨rfl, _, rfl, ?_⟩
    have z : decide (V.int r = V.int k) = decide (r = k) := decide_eq_decide.mpr ⟨fun h => V.int.inj h, fun h => by rw [h]⟩
    rw [z]
    exact q H1 s1
theorem t_eqI {r k : Int} (h : σ[i]? = some (some (.int r))) : GivesT H0 (tTest (tOp rEq (tVar i) (tC (.int k)))) (decide (r = k)) σ := fun H Q s q => by
  refine ⟨_, h, rfl, _, rfl, ?_⟩
  have z : decide (V.int r = V.int k) = decide (r = k) := decide_eq_decide.mpr ⟨fun h => V.int.inj h, fun h => by rw [h]⟩
  rw [z]
  exact q H Same.rfl'
theorem t_neI {r k : Int} (h : Gives H0 te (gEq (.int r)) σ) : GivesT H0 (tTest (tOp rNe te (tC (.int k)))) (!decide (r = k)) σ := fun H Q s q =>
  h H _ s fun H1 u s1 e => by
    have e : u = .int r := e
    subst e
    refine ⟨rfl, _, rfl, ?_⟩
    have z : decide (V.int r = V.int k) = decide (r = k) := decide_eq_decide.mpr ⟨fun h => V.int.inj h, fun h => by rw [h]⟩
    rw [z]
    exact q H1 s1
theorem g_and (h : Gives H0 te (gEq (.bl b)) σ) (k : b = true → Gives H0 tf (gEq (.bl c)) σ) : Gives H0 (tAndV te tf) (gEq (.bl (b && c))) σ := fun H Q s q =>
  h H _ s fun H1 u s1 e => by
    refine ⟨b, e, ?_⟩
    cases b with
    | true => exact iteT (k rfl H1 Q (s.trans s1) fun H2 u2 s2 e2 => q H2 u2 (s1.trans s2) e2)
    | false => exact iteF (q H1 _ s1 rfl)
theorem t_valB (h : Gives H0 te (gEq (.bl b)) σ) : GivesT H0 (tB te) b σ := fun H Q s q => h H _ s fun H1 u s1 e => ⟨b, e, q H1 s1⟩
end
abbrev rGtI : R2 := rI0 fun i j => .bl (decide (j < i))
abbrev rLeI : R2 := rI0 fun i j => .bl (decide (i ≤ j))
abbrev rLtI : R2 := rI0 fun i j => .bl (decide (i < j))
theorem g_all {K : PySem.W.Frag} {H0 : Hp} {σ : L2.St} {te : TE} {bs : List Bool} (h : Gives H0 te (gLst (bs.map fun b => gEq (.bl b))) σ) : Gives H0 (tCB (rAll K) (tCons te tNil)) (gEq (.bl (bs.all id))) σ := fun H Q s q =>
  h H _ s fun H1 u s1 g1 => by
    obtain ⟨p, us, rfl, hp, ha⟩ := g1
    have eu := all_bl ha
    subst eu
    exact ⟨p, bs, rfl, .inl (.inl hp), q H1 _ s1 rfl⟩
def rReprA (K : PySem.W.Frag) : List V → Hp → VK → Prop := fun xs H Q =>
  ∃ (x : V) (d : PyData), xs = [x] ∧ Da K H x d ∧ d.showable = true ∧ d.depth ≤ 64 ∧ d.shown.length ≤ sizeLine ∧ Q (.str d.shown) H
theorem call_reprA {X : Cx} (hm : ∃ mm, X.base.Ns sysModules mm) (gd : X.A.guards = some []) (hu : X.A.units + 70 < cLine) :
    CallR X (.builtin "repr") (rReprA X.K) := by
  intro pins s σ H xs us Q I r h
  obtain ⟨x, d, rfl, hs, sh, dp, sz, q⟩ := h
  have big : ∀ a, x = .ref a → wpAny (model X.prog X.w) X.A (call (.builtin "repr") us) (EP X pins σ Q) X.xe s := by
    rintro a rfl
    exact call_repr hm gd hu pins s σ H _ us Q I r ⟨a, d, rfl, hs, sh, dp, sz, q⟩
  cases hs with
  | non =>
    cases r with
    | cons r1 r2 =>
      cases r2
      cases r1
      rw [PyData.shown] at q
      exact PySem.P.repr_of_none ⟨.str _, H, I.tok _, ⟨_, rfl⟩, q⟩
  | bl b =>
    cases r with
    | cons r1 r2 =>
      cases r2
      cases r1
      rw [PyData.shown] at q
      exact PySem.P.repr_of_bool ⟨.str _, H, I.tok _, ⟨_, rfl⟩, q⟩
  | int i =>
    cases r with
    | cons r1 r2 =>
      cases r2
      obtain ⟨t, rfl⟩ := r1
      rw [PyData.shown] at q
      exact PySem.P.repr_of_int (by rw [PyData.showable] at sh; exact of_decide_eq_true sh) ⟨.str _, H, I.tok _, ⟨_, rfl⟩, q⟩
  | str z =>
    cases r with
    | cons r1 r2 =>
      cases r2
      obtain ⟨t, rfl⟩ := r1
      rw [PyData.shown] at q sz
      exact PySem.P.repr_of_str ⟨.str _, H, I.tok _, ⟨_, rfl⟩, q⟩ sz
  | lst h1 h2 => exact big _ rfl
  | tup h1 h2 => exact big _ rfl
  | dic h1 h2 => exact big _ rfl
theorem s_par {H0 : Hp} {σ : L2.St} {ta : TA} {G1 G2 : GP} {i j : Nat} {D : Ends} {rest : TS} (h : GivesL H0 ta [G1, G2] σ) (k : ∀ H' u1 u2, Same H0 H' → G1.p H' u1 → G2.p H' u2 → rest D ((σ.set i (some u1)).set j (some u2)) H') : tSeq (tPar i j ta) rest D σ H0 :=
  h H0 _ Same.rfl' fun H' us s g => by
    cases g with
    | @cons _ u1 _ _ g1 g =>
    cases g with
    | @cons _ u2 _ _ g2 g =>
    cases g
    exact ⟨u1, u2, rfl, k H' u1 u2 s g1 g2⟩
section
variable {K : PySem.W.Frag} {B H0 : Hp} {σ : L2.St} {te tf : TE} {ta : TA} {i : Nat} {x v : V} {d : PyData} {ds : List PyData} {b c : Bool} {T : String} {tt uu : TT} {t rest : TS} {D : Ends} {a : Addr} {xs : List V} {k : Int} {G : GP}
theorem g_reprA (h : σ[i]? = some (some x)) (hd : Da K H0 x d) (h1 : d.showable = true) (h2 : d.depth ≤ 64) (h3 : d.shown.length ≤ sizeLine) : Gives H0 (tCB (rReprA K) (tCons (tVar i) tNil)) (gEq (.str d.shown)) σ := fun H Q s q =>
  ⟨_, h, x, d, rfl, hd.mono s, h1, h2, h3, q H _ Same.rfl' rfl⟩
theorem g_eqS {y z : Str} (h : Gives H0 te (gEq (.str y)) σ) (h' : Gives H0 tf (gEq (.str z)) σ) : Gives H0 (tOp rEq te tf) (gEq (.bl (decide (y = z)))) σ := fun H Q s q =>
  h H _ s fun H1 u s1 e1 => h' H1 _ (s.trans s1) fun H2 u' s2 e2 => by
    have e1 : u = .str y := e1
    have e2 : u' = .str z := e2
    subst e1
    subst e2
    refine ⟨rfl, q H2 _ (s1.trans s2) ?_⟩
    show _ = _
    congr 1
    exact decide_eq_decide.mpr ⟨fun h => V.str.inj h, fun h => by rw [h]⟩
end
theorem Gives.imp {H0 : Hp} {te : TE} {G G' : GP} {σ : L2.St} (h : Gives H0 te G σ) (i : ∀ H u, Same H0 H → G.p H u → G'.p H u) : Gives H0 te G' σ := fun H Q s q =>
  h H _ s fun H1 u s1 g => q H1 u s1 (i H1 u (s.trans s1) g)
theorem keepA {a p : Addr} {H1 H H' : Hp} (np : H1 p = none) (h : ∀ o, H1 a = some o → H a = some o) (b : Bu p H H') : ∀ o, H1 a = some o → H' a = some o := fun o e => b _ _ (ne_of_none e np) (h o e)
theorem sq_of {K : PySem.W.Frag} {a : Addr} {H H' : Hp} {zs : List V} (s : SqL K H a zs) (h : ∀ o, H a = some o → H' a = some o) : SqL K H' a zs := by
  rcases s with (e | ⟨o, e⟩) | e
  · exact .inl (.inl (h _ e))
  · exact .inl (.inr ⟨o, h _ e⟩)
  · exact .inr e
theorem mm_at (z : Int) (h : z ≤ 3) : -(2 ^ 62) ≤ (if z > 1 then z else 1) ∧ (if z > 1 then z else 1) < 2 ^ 62 ∧ (if z > 1 then z else 1).toNat ≤ 3 := by
  split <;> omega
theorem mm_le (n : Int) : (if n < 3 then n else 3) ≤ 3 := by
  split <;> omega
section
variable {K : PySem.W.Frag} {B H0 : Hp} {σ : L2.St} {te tf : TE} {ta : TA} {i : Nat} {x v : V} {d : PyData} {ds : List PyData} {b c : Bool} {T : String} {tt uu : TT} {t rest : TS} {D : Ends} {a : Addr} {xs : List V} {k : Int} {G : GP}
theorem g_lcQ {a : Addr} {xs ys : List V} {i : Nat} {g : TG} {vs : List Nat} (hi : σ[i]? = some (some (.ref a))) (hx : SqL K H0 a xs) (hz : xs.length ≤ 1000) (hl : ys.length = xs.length)
    (he : ∀ (j : Nat) (x y : V), xs[j]? = some x → ys[j]? = some y → ∀ (H : Hp) (R : VK), Same H0 H → (∀ H', Same H H' → R y H') →
      g x (wipe σ vs) H fun σ2 H2 => wipe σ2 vs = wipe σ vs ∧ te σ2 H2 R) :
    Gives H0 (tLc (iList K (tVar i)) g tYes te vs) (gLst (ys.map gEq)) σ := fun H Q s q => by
  refine ⟨_, hi, a, rfl, ⟨xs, s.seq hx⟩, fun D nD => ?_⟩
  have sD : Same H (upd H D (.lst [])) := same_put nD
  have y := sizeLine_eq
  refine lc_list (K := K) (a := a) (xs := xs) (fun k H' => Same H H' ∧ H' D = some (.lst (ys.take k))) ⟨sD, upd_same⟩ (fun k H' _ ⟨s', _⟩ => s'.seq (s.seq hx)) ?_ ?_
  · rintro k x H' hk ⟨s', eD⟩
    have hk' : k < ys.length := by
      obtain ⟨h, _⟩ := List.getElem?_eq_some_iff.mp hk
      omega
    have hy := List.getElem?_eq_getElem hk'
    refine cast ?_ (he k x ys[k] hk hy H' (fun y H4 => ∃ acc, H4 D = some (.lst acc) ∧ acc.length < sizeLine ∧ Same H (upd H4 D (.lst (acc ++ [y]))) ∧ upd H4 D (.lst (acc ++ [y])) D = some (.lst (ys.take (k + 1)))) (s.trans s') fun H4 s4 => ⟨_, s4 _ _ eD, ?_, ?_, ?_⟩)
    · rfl
    · rw [List.length_take]
      omega
    · intro b o e
      rw [upd_ne (ne_of_none e nD)]
      exact s4 _ _ (s' _ _ e)
    · rw [upd_same, List.take_add_one, hy]
      rfl
  · rintro H' ⟨s', eD⟩
    rw [← hl, List.take_length] at eD
    exact q H' _ s' ⟨D, ys, rfl, eD, allEq⟩
end
/-! ### f(k = v, ..), keywords alone -/
section
variable {X : Cx} {CX : CXT} {k : Nat} {f : Addr} {fd : FuncData} {ps ks : List Str} {sp : Sp} {E : XK} {x : Str} {p pos : Pos} {kws : List Keyword} {tk : TA} {pm : {α : Type} → List α → List α}
def tCallKs (pm : {α : Type} → List α → List α) (sp : Sp) (E : XK) (tk : TA) : TE := fun σ H Q => tk σ H fun zs H2 => sp (pm zs) H2 Q E
theorem pe_callKs (pm : {α : Type} → List α → List α) (F : FnOk X.prog X.w X.K X.mg X.base CX k f fd ps sp) (hr : Room k X.A) (hg : Gl X x) (hm : X.mg x = some (.ref f)) (hk : PySem.W.keepIn X.K (.ref f) = true)
    (hb : ∀ (s : Shared) (us : List Value), us.length = ks.length → BindsTo s fd ⟨[], ks.zip us⟩ (ps.zip (pm us))) (hpm : ∀ (zs : List V) (us : List Value), zs.length = ks.length → Vals zs us → Vals (pm zs) (pm us)) (hx : Passes CX X E)
    (hkw : PK X kws tk) (hl : ∀ zs H Q E, sp (pm zs) H Q E → zs.length = ks.length) (hall : (backToKw pos (keywordEach kws X.env)).all (·.1.isSome) = true := by rfl) (hks : (backToKw pos (keywordEach kws X.env)).filterMap (·.1) = ks := by rfl)
    (hdb : (x == ("__debug__" : Str)) = false := by decide) (hpl : ((backTo pos (starEach [] X.env)).any (·.1) || (backToKw pos (keywordEach kws X.env)).any (·.1.isNone)) = false := by rfl) :
    PE X (.Call (.Name x p) [] kws pos) (tCallKs pm sp E tk) := by
  refine ⟨fun pins s σ H Q I h => ?_⟩
  refine wpAny_Call_Name_kw (ld_glob I hg hm ?_ hdb)
  refine PySem.W.callWith_KW0 (h₀ := X.base) I.ok.mod.kin hk hall ?_ hpl
  refine thn (hkw.run pos pins s σ H _ I h) fun ws s2 ⟨zs, H2, I2, rz, q2⟩ => ⟨I2.kIn, ?_⟩
  rw [hks]
  have hz := hl _ _ _ _ q2
  refine wpAny_call (codeAny_mono (F.run X.A X.stack s2 H2 ⟨[], ks.zip ws⟩ (pm ws) (pm zs) Q E hr I2.env0 (hb s2 ws (rz.length.symm.trans hz)) (hpm zs ws hz rz) q2) fun r s' hq => ?_)
  cases r with
  | error e => exact hx pins σ H2 s2 e s' I2 hq
  | ok fl =>
    cases fl with
    | ret u => exact I2.after hq
    | next => exact False.elim hq
    | brk => exact False.elim hq
    | cont => exact False.elim hq
end
end Ev

/-! ## Sets of texts, whose members can be walked -/
namespace Ev
open PySem PySem.Spec PyProof.Rows L2
def keyS (e : Int × Value) : Str := match e.2 with
  | .str x _ => x
  | _ => ""
def goodS (w : World) (e : Int × Value) : Prop := ∃ x tk, e = (hashStr w x, Value.str x tk)
/-- what is left when k comes in -/
def addN (ks : List Str) (k : Str) : List Str := if k ∈ ks then ks else ks ++ [k]
theorem mem_addN {ks : List Str} {k x : Str} : x ∈ addN ks k ↔ x ∈ ks ∨ x = k := by
  unfold addN
  split
  · exact ⟨.inl, fun z => z.elim id fun e => by rw [e]; assumption⟩
  · rw [List.mem_append, List.mem_singleton]
theorem addN_nodup {ks : List Str} {k : Str} (h : ks.Nodup) : (addN ks k).Nodup := by
  unfold addN
  split
  · exact h
  · rename_i n
    rw [List.nodup_append]
    refine ⟨h, by simp, fun x hx y hy e => ?_⟩
    rw [List.mem_singleton.mp hy] at e
    rw [e] at hx
    exact n hx
theorem addN_len {ks : List Str} {k : Str} : (addN ks k).length ≤ ks.length + 1 := by
  unfold addN
  split
  · exact Nat.le_succ _
  · rw [List.length_append]
    exact Nat.le_refl _
/-- the set of the texts ks at a -/
def SetS (w : World) (h : Heap) (a : Addr) (ks : List Str) : Prop := ∃ (o : Obj) (es : Array (Int × Value)) (ep : Nat) (t : SetTable), h.get? a = some o ∧ o.ExactSet ∧ o.data = .set es ep t ∧ (∀ e ∈ es.toList, goodS w e) ∧
  (es.toList.map keyS).Perm ks ∧ ks.Nodup ∧ es.size < scanBound ∧ t.fits es.size = true ∧ Ris t.place.toList ∧ (w.params.followText "set-order" = true ∨ t.led = true)
section
variable {P : Program} {w : World} {A : Around} {E : Value → Shared → Prop} {s : Shared} {h h' : Heap} {a : Addr} {ks : List Str}
theorem SetS.at (R : SetS w h a ks) (k : ∀ o, h.get? a = some o → h'.get? a = some o) : SetS w h' a ks := by
  obtain ⟨o, es, ep, t, ho, r⟩ := R
  exact ⟨o, es, ep, t, k o ho, r⟩
theorem goodS_elems {l : List (Int × Value)} (g : ∀ e ∈ l, goodS w e) : ElemsOf (PySem.strKind P w) l := fun e he => by
  obtain ⟨x, tk, rfl⟩ := g e he
  refine ⟨⟨x, ?_, rfl⟩, rfl⟩
  show Value.isStrOf x (.str x tk) = true
  simp [Value.isStrOf]
theorem goodS_is {e : Int × Value} (g : goodS w e) (x : Str) : (PySem.strKind P w).is x e.2 = true ↔ keyS e = x := by
  obtain ⟨y, tk, rfl⟩ := g
  show Value.isStrOf x (.str y tk) = true ↔ y = x
  simp [Value.isStrOf]
theorem SetS.kind (R : SetS w h a ks) : h.SetOf (PySem.strKind P w) a (fun k => decide (k ∈ ks)) ks.length := by
  obtain ⟨o, es, ep, t, ho, hx, hd, g, pm, nd, hb, hf, _⟩ := R
  refine ⟨o, es, ep, t, ho, hx, hd, goodS_elems g, fun k => ?_, hb, hf, ?_⟩
  · rw [decide_eq_true_iff, ← pm.mem_iff, List.mem_map]
    constructor
    · rintro ⟨e, he, q⟩
      exact ⟨e, he, (goodS_is (g e he) k).2 q⟩
    · rintro ⟨e, he, q⟩
      exact ⟨e, he, (goodS_is (g e he) k).1 q⟩
  · have z := pm.length_eq
    rw [List.length_map, Array.length_toList] at z
    exact z
theorem setS_new (w : World) (h : Heap) : SetS w (h.push { cls := .type "set", dict := none, data := .set #[] 0 (.fresh 0 0 (!w.params.followText "set-order")) }) h.objs.size [] := by
  refine ⟨_, #[], 0, _, Heap.get?_push_size _ rfl, ⟨rfl, rfl, rfl⟩, rfl, fun e he => ?_, .nil, .nil, by decide, by rfl, .nil, ?_⟩
  · cases he
  · by_cases z : w.params.followText "set-order" = true
    · exact .inl z
    · refine .inr ?_
      show (!w.params.followText "set-order") = true
      rw [Bool.eq_false_iff.mpr z]
      rfl
/-- the entries es1 in the table t1 are written, and laid anew where the table is full -/
theorem lay_S {g : Bool → Sem Unit} (hg : ∀ (b : Bool) (s1 : Shared) (Q' : Unit → Shared → Prop), Q' () s1 → wpAny (model P w) A (g b) Q' E s1) {o : Obj} {es es1 : Array (Int × Value)} {ep : Nat} {t t1 : SetTable}
    (ho : s.heap.get? a = some o) (hx : o.ExactSet) (hd : o.data = .set es ep t) (g1 : ∀ e ∈ es1.toList, goodS w e) (pm : (es1.toList.map keyS).Perm ks) (nd : ks.Nodup) (hb : es1.size < scanBound) (hf : t1.fits es1.size = true)
    (hr : Ris t1.place.toList) (hl : w.params.followText "set-order" = true ∨ t1.led = true) {was : Bool} {R : Option Bool → Shared → Prop} (k : ∀ h', Heap.SameBut a s.heap h' → SetS w h' a ks → R (some true) { s with heap := h' }) :
    wpAny (model P w) A (do
        storeSet a es1 t1
        if (!was && t1.tooFull) = true then do
            g (relayAll t1 es1 (SetTable.grown es1.size)).2.2
            storeSet a (relayAll t1 es1 (SetTable.grown es1.size)).1 (relayAll t1 es1 (SetTable.grown es1.size)).2.1
            pure (some true)
          else pure (some true)) R E s := by
  have put : ∀ {hh : Heap} {oo : Obj} {e0 e1 : Array (Int × Value)} {n : Nat} {t0 t2 : SetTable}, hh.get? a = some oo → oo.data = .set e0 n t0 → (hh.update a (Obj.putSet e1 t2)).get? a = some { oo with data := .set e1 (n + 1) t2 } := by
    intro hh oo e0 e1 n t0 t2 x y
    have z := Heap.get?_update_self (Obj.putSet e1 t2) x (by rw [putSet_of e1 t2 y]; rfl)
    rw [putSet_of e1 t2 y] at z
    exact z
  have o1 := put (e1 := es1) (t2 := t1) ho hd
  have b1 := Heap.SameBut.update s.heap a (Obj.putSet es1 t1)
  refine wpAny_bind (wpAny_storeSet_of ho hd ?_ (fits_of_scanBound hb))
  by_cases full : (!was && t1.tooFull) = true
  · rw [if_pos full]
    have q1 := relayAll_perm t1 es1 (SetTable.grown es1.size)
    have q2 := relayAll_fits t1 es1 (SetTable.grown es1.size)
    have q3 := relayAll_ris t1 es1 (SetTable.grown es1.size)
    have q4 := relayAll_led t1 es1 (SetTable.grown es1.size)
    revert q1 q2 q3 q4
    generalize relayAll t1 es1 (SetTable.grown es1.size) = Z
    obtain ⟨e2, t2, gv⟩ := Z
    intro q1 q2 q3 q4
    have sz : e2.size = es1.size := by
      have z := q1.length_eq
      rwa [Array.length_toList, Array.length_toList] at z
    refine wpAny_bind (hg _ _ _ (wpAny_bind (wpAny_storeSet_of o1 rfl (wpAny_pure (k _ (b1.trans (Heap.SameBut.update _ a _)) ?_)) (fits_of_scanBound (by rw [sz]; exact hb)))))
    refine ⟨_, e2, _, t2, put o1 rfl, hx, rfl, fun e he => g1 e (q1.mem_iff.mp he), (q1.map keyS).trans pm, nd, by rw [sz]; exact hb, q2, q3, ?_⟩
    rcases hl with z | z
    · exact .inl z
    · exact .inr (q4.trans z)
  · rw [if_neg full]
    exact wpAny_pure (k _ b1 ⟨_, es1, _, t1, o1, hx, rfl, g1, pm, nd, hb, hf, hr, hl⟩)
theorem lay_in {k : Str} {tk : Tok} {Q : Bool → Shared → Prop} (R : SetS w s.heap a ks) (room : ks.length + 1 < scanBound)
    (q : ∀ h', Heap.SameBut a s.heap h' → SetS w h' a (addN ks k) → ∀ b, Q b { s with heap := h' }) : wpAny (model P w) A (setAddHashed a (.str k tk) ((PySem.strKind P w).hash k)) Q E s := by
  obtain ⟨o, es, ep, t, ho, hx, hd, g, pm, nd, hb, hf, hr, hl⟩ := R
  have hel : ElemsOf (PySem.strKind P w) es.toList := goodS_elems g
  have me : (PySem.strKind P w).is k (.str k tk) = true := by
    show Value.isStrOf k (.str k tk) = true
    simp [Value.isStrOf]
  have sc : (Value.str k tk).scannable = true := rfl
  have quiet : ∀ (b : Bool) (s1 : Shared) (Q' : Unit → Shared → Prop), Q' () s1 → wpAny (model P w) A (match b with | true => rule "set.scan.the-table-gave-way" | false => pure ()) Q' E s1 := fun b s1 Q' z => by
    cases b
    · exact wpAny_pure z
    · exact wpAny_rule z
  unfold setAddHashed setAddHashedIn
  refine wpAny_holding (wpAny_bind (wpAny_setState_of ho hd hf ?_))
  dsimp only
  rw [byScan_of sc hb hel]
  simp only [↓reduceIte]
  unfold setAddByScan
  refine wpAny_bind (wpAny_bind (wpAny_rule (wpAny_bind (wpAny_setScan_of me ho hd hf hel ?_))))
  cases hi : List.findIdx? (fun e => (PySem.strKind P w).is k e.2) es.toList with
  | some j =>
    dsimp only
    obtain ⟨hj, pj, _⟩ := List.findIdx?_eq_some_iff_getElem.mp hi
    have inn : k ∈ ks := by
      refine pm.mem_iff.mp (List.mem_map.mpr ⟨es.toList[j], List.getElem_mem hj, ?_⟩)
      exact (goodS_is (P := P) (g _ (List.getElem_mem hj)) k).1 pj
    have e : addN ks k = ks := if_pos inn
    rw [e] at q
    exact wpAny_pure (wpAny_pure (q s.heap (Heap.SameBut.refl a s.heap) ⟨o, es, ep, t, ho, hx, hd, g, pm, nd, hb, hf, hr, hl⟩ _))
  | none =>
    dsimp only
    have out : k ∉ ks := fun z => by
      obtain ⟨e, he, ek⟩ := List.mem_map.mp (pm.mem_iff.mpr z)
      have c := List.findIdx?_eq_none_iff.mp hi e he
      rw [(goodS_is (P := P) (g e he) k).2 ek] at c
      cases c
    have e : addN ks k = ks ++ [k] := if_neg out
    have nd1 : (ks ++ [k]).Nodup := by
      rw [← e]
      exact addN_nodup nd
    have q1 := layNew_perm t es ((PySem.strKind P w).hash k) (.str k tk)
    have q2 := layNew_fits t es ((PySem.strKind P w).hash k) (.str k tk)
    have q3 := layNew_ris t es ((PySem.strKind P w).hash k) (.str k tk) hr
    have q4 := layNew_led t es ((PySem.strKind P w).hash k) (.str k tk)
    revert q1 q2 q3 q4
    generalize layNew t es ((PySem.strKind P w).hash k) (.str k tk) = Z
    obtain ⟨es1, t1, was, gave⟩ := Z
    intro q1 q2 q3 q4
    dsimp only at q1 q2 q3 q4 ⊢
    rw [Array.toList_push] at q1
    have g1 : ∀ x ∈ es1.toList, goodS w x := fun x hx => by
      rcases List.mem_append.mp (q1.mem_iff.mp hx) with z | z
      · exact g x z
      · rw [List.mem_singleton.mp z]
        exact ⟨k, tk, rfl⟩
    have pm1 : (es1.toList.map keyS).Perm (ks ++ [k]) := by
      have z := q1.map keyS
      rw [List.map_append] at z
      exact z.trans (List.Perm.append_right _ pm)
    have sz : es1.size < scanBound := by
      have z := pm1.length_eq
      rw [List.length_map, Array.length_toList, List.length_append] at z
      rw [z]
      exact room
    have l1 : w.params.followText "set-order" = true ∨ t1.led = true := by
      rcases hl with z | z
      · exact .inl z
      · exact .inr (q4.trans z)
    rw [e] at q
    refine wpAny_bind (quiet _ _ _ ?_)
    split
    · refine wpAny_bind ?_
      rw [hashByValue_scannable 8 sc]
      refine wpAny_pure ?_
      refine lay_S ?_ ho hx hd g1 pm1 nd1 sz ?_ ?_ ?_ fun h' sb r => ?_
      · intro b s1 Q' z
        cases b <;> first | exact wpAny_pure z | exact wpAny_rule z
      · first | exact q2 | (split <;> first | exact q2 | exact SetTable.fits_plain_off q2)
      · first | exact q3 | (split <;> exact q3)
      · first | exact l1 | (split <;> exact l1)
      · exact wpAny_pure (q h' sb r _)
    · refine wpAny_bind (wpAny_pure ?_)
      simp only [↓reduceIte]
      refine lay_S ?_ ho hx hd g1 pm1 nd1 sz q2 q3 l1 fun h' sb r => ?_
      · intro b s1 Q' z
        cases b <;> first | exact wpAny_pure z | exact wpAny_rule z
      · exact wpAny_pure (q h' sb r _)
/-- a text comes into a set -/
theorem add_S {k : Str} {tk : Tok} {Q : Value → Shared → Prop} (R : SetS w s.heap a ks) (room : ks.length + 1 < scanBound)
    (q : ∀ h', Heap.SameBut a s.heap h' → SetS w h' a (addN ks k) → Q .none { s with heap := h', toks := s.toks + 1 }) : wpAny (model P w) A (call (.builtin "set.add") [.ref a, .str k tk]) Q E s := by
  have me : (PySem.strKind P w).is k (.str k tk) = true := by
    show Value.isStrOf k (.str k tk) = true
    simp [Value.isStrOf]
  refine wpAny_call_entry F.slot_set_add (R.kind (P := P)).typeIs F.entry_set_add ?_ (F.args_set_add_2 _ _)
  unfold Builtin.«set.add» Builtin.Frozenset.oneOther
  simp only [List.isEmpty_nil, bind_assoc]
  unfold Builtin.Frozenset.addrOf setAdd
  refine wpAny_bind (wpAny_pure ?_)
  try dsimp only
  refine wpAny_bind (wpAny_pure ?_)
  try dsimp only
  refine wpAny_bind (wpAny_holding (wpAny_bind ((PySem.strKind P w).pyHash me ?_)))
  refine lay_in (s := { s with toks := s.toks + 1 }) R room fun h' sb r b => ?_
  show wpAny _ _ (ret Value.none) _ _ _
  exact wpAny_pure ⟨_, rfl, q h' sb r⟩
end
end Ev

/-! ## {text for .. in ..}, sorted of a set of texts -/
namespace Ev
open PySem PySem.Spec PyProof.Rows L2
def SetSO (w : World) (a : Addr) (ks : List Str) : HO := .ext fun h => SetS w h a ks
theorem setSO_ok {w : World} {P : Program} {H : Hp} {h : Heap} {a : Addr} {ks : List Str} (R : SetS w h a ks) : ObjOk P w H h a (SetSO w a ks) := by
  refine ⟨R, ?_, fun h1 h2 p k => p.at k⟩
  obtain ⟨o, _, _, _, ho, _⟩ := R
  exact ⟨o, ho⟩
section
variable {X : Cx}
theorem setSO_at {pins : List (Addr × Obj)} {σ : L2.St} {H : Hp} {s : Shared} {a : Addr} {ks : List Str} (I : Inv X pins σ H s) (ha : H a = some (SetSO X.w a ks)) : SetS X.w s.heap a ks := (I.hok a _ ha).1
theorem addSO {pins : List (Addr × Obj)} {σ : L2.St} {H : Hp} {s : Shared} {E : Value → Shared → Prop} {a : Addr} {ks : List Str} {k : Str} {tk : Tok} {Q : Value → Shared → Prop} (I : Inv X pins σ H s) (ha : H a = some (SetSO X.w a ks)) (room : ks.length + 1 < scanBound)
    (q : ∀ s', Inv X pins σ (upd H a (SetSO X.w a (addN ks k))) s' → Q .none s') : wpAny (model X.prog X.w) X.A (call (.builtin "set.add") [.ref a, .str k tk]) Q E s := by
  refine add_S (setSO_at I ha) room fun h' sb R => q _ ?_
  have he : ∃ u, h'.get? a = some u := by
    obtain ⟨o, _, _, _, ho, _⟩ := R
    exact ⟨o, ho⟩
  exact I.write (e := a) (t' := s.toks + 1) (by rw [ha]; trivial) (.inl rfl) (fun b u hb hu => (sb.2 b hb).trans hu) he (setSO_ok R)
/-- a set comprehension whose elements are texts -/
def tScS (w : World) (wi : TI) (g : TG) (tt : TT) (te : TE) (vs : List Nat) : TE := fun σ H Q => wi σ H fun J H1 => ∀ D, H1 D = none → ∃ W : Nat → Nat → Hp → Prop, (∃ m, W 0 m (upd H1 D (SetSO w D []))) ∧ ∀ i m H, W i m H →
  (J.stop i H ∧ Q (.ref D) H) ∨ (J.go i H ∧ ∃ Nx : Hp → Prop, (∀ H', Nx H' → ∃ m', m' < m ∧ W (i + 1) m' H') ∧ ∀ x H', J.yld i H x H' → g x (wipe σ vs) H' fun σ2 H2 => wipe σ2 vs = wipe σ vs ∧ tt σ2 H2 fun b H3 =>
    if b = true then te σ2 H3 fun y H4 => ∃ (c : Str) (ks : List Str), y = .str c ∧ H4 D = some (SetSO w D ks) ∧ ks.length + 1 < scanBound ∧ Nx (upd H4 D (SetSO w D (addN ks c))) else Nx H3)
theorem pe_scS {elt tg iter : Expr} {ifs : List Expr} {scope : Scope} {own : List (Str × Nat)} {pos : Pos} {wi : TI} {g : TG} {tt : TT} {te : TE} (hc : X.calm = true) (hN : X.N.Nodup) (hi : PI X tg iter wi) (ok : BlkOk X.N X.env.scope scope own)
    (hg : ∀ (s : Shared) (H : Hp) (C : Addr) (cl : List (Str × Addr)) (fp : List Addr), PG (X.blk s H scope (compEnvC scope cl C X.env) fp) tg g) (ht : ∀ (s : Shared) (H : Hp) (C : Addr) (cl : List (Str × Addr)) (fp : List Addr), PTs (X.blk s H scope (compEnvC scope cl C X.env) fp) ifs tt)
    (he : ∀ (s : Shared) (H : Hp) (C : Addr) (cl : List (Str × Addr)) (fp : List Addr), PE (X.blk s H scope (compEnvC scope cl C X.env) fp) elt te) (hs : ∀ x, foldedSetIterable iter X.env x = pure x := by intro _; rfl) :
    PE X (.SetComp elt [⟨tg, iter, ifs, 0⟩] scope pos) (tScS X.w wi g tt te (own.map (·.2))) := by
  refine ⟨fun pins s σ H Q I h => ?_⟩
  rw [PpSet.eval_SetComp]
  have fr : ∀ y ∈ scope.names, y.2 = .free → ∃ c, X.env.cells.lookup y.1 = some c := fun y hy e => (ok.free y hy e).elim (fun k => I.ok.has _ (.inl k)) fun k => I.ok.has _ (.inr k)
  refine wpAny_comprehension_free (use := none) rfl hs (closure_ok fr) ok.kind (fun y hy e => by rw [ok.uniq y hy, e]) (thn (hi.run pins s σ H _ I h) fun xv s1 hx => thn hx fun itv s2 h2 => ?_)
  obtain ⟨it, fp, tn, J, H2, rfl, I2, T, st2, f2, q⟩ := h2
  refine PpSet.newSet_ok (newEnv_comp ?_)
  -- the set, new at D, and the block's own context
  obtain ⟨D, hD⟩ : ∃ D, s2.heap.objs.size = D := ⟨_, rfl⟩
  obtain ⟨s3, hs3⟩ : ∃ s3 : Shared, { s2 with heap := s2.heap.push { cls := .type "set", dict := none, data := .set #[] 0 (.fresh 0 0 (!X.w.params.followText "set-order")) } } = s3 := ⟨_, rfl⟩
  have h3 : s3.heap = s2.heap.push { cls := .type "set", dict := none, data := .set #[] 0 (.fresh 0 0 (!X.w.params.followText "set-order")) } := by rw [← hs3]
  have old3 : ∀ b o, s2.heap.get? b = some o → s3.heap.get? b = some o := fun b o e => by
    rw [h3]
    exact Heap.get?_push_of_some _ e
  obtain ⟨W, ⟨m0, w0⟩, turn⟩ := q D (I2.hok.fresh (Nat.le_of_eq hD))
  obtain ⟨H3, hH3⟩ : ∃ H3 : Hp, upd H2 D (SetSO X.w D []) = H3 := ⟨_, rfl⟩
  rw [hH3] at w0
  have I3 : Inv X pins σ H3 s3 := by
    rw [← hs3, ← hH3, ← hD]
    exact I2.laid (t' := s2.toks) (fun b o e => Heap.get?_push_of_some _ e) (Nat.le_refl _) (setSO_ok (setS_new X.w s2.heap))
  have f3 : ∀ b ∈ fp, FpOk X pins H3 b ∧ b < s3.heap.objs.size := fun b hb => by
    obtain ⟨o, eo, _⟩ := T.obj _ _ st2 b hb
    have lt2 := Heap.lt_size eo
    have ne : b ≠ D := by
      rw [← hD]
      exact Nat.ne_of_lt lt2
    refine ⟨⟨?_, (f2 b hb).2⟩, Heap.lt_size (old3 b o eo)⟩
    rw [← hH3, upd_ne ne]
    exact (f2 b hb).1
  have I4 := block_start I3 ok hN f3
  have pg := hg s3 H3 s3.heap.objs.size (cellsFrom (s3.heap.objs.size + 1) scope.names (cloFrom X.env.cells scope.names [])) fp
  have pt := ht s3 H3 s3.heap.objs.size (cellsFrom (s3.heap.objs.size + 1) scope.names (cloFrom X.env.cells scope.names [])) fp
  have pe := he s3 H3 s3.heap.objs.size (cellsFrom (s3.heap.objs.size + 1) scope.names (cloFrom X.env.cells scope.names [])) fp
  rw [hs3]
  show codeAny _ _ (.compStart (.SetComp elt [⟨tg, iter, ifs, 0⟩] scope pos) 0 (.ref it) (.ref s2.heap.objs.size) (compEnvC scope (cellsFrom (s3.heap.objs.size + 1) scope.names (cloFrom X.env.cells scope.names [])) s3.heap.objs.size X.env)) (compPost (model X.prog X.w) X.A X.xe none _ (.ref s2.heap.objs.size) s3.heap.objs.size) { s3 with heap := pushCells (s3.heap.push { cls := .type "dict", data := .dict #[] }) scope.names }
  rw [hD]
  obtain ⟨ce, hce⟩ : ∃ ce, compEnvC scope (cellsFrom (s3.heap.objs.size + 1) scope.names (cloFrom X.env.cells scope.names [])) s3.heap.objs.size X.env = ce := ⟨_, rfl⟩
  have cL : ce.locals = s3.heap.objs.size := by
    rw [← hce]
    rfl
  obtain ⟨s4, hs4⟩ : ∃ s4 : Shared, { s3 with heap := pushCells (s3.heap.push { cls := .type "dict", data := .dict #[] }) scope.names } = s4 := ⟨_, rfl⟩
  rw [hce] at I4 pg pt pe ⊢
  rw [hs4] at I4 ⊢
  have st4 : tn 0 s4.heap := T.keep _ _ _ st2 fun b _ o e => by
    rw [← hs4]
    exact pushCells_keeps _ _ _ _ (Heap.get?_push_of_some _ (old3 b o e))
  let Y := X.blk s3 H3 scope ce fp
  have out : ∀ {σ' : L2.St} {H' : Hp} {s' : Shared}, Inv Y [] σ' H' s' → (∀ b ∈ fp, H' b = none) → ∀ b ∈ fp, FpOk Y [] H' b := fun {σ' H' s'} I' hn b hb =>
    ⟨hn b hb, (I'.ok.exf b hb).1, I'.ok.exfs b hb, .inl hb, fun x c e => (I'.ok.exf b hb).2 x c e, fun p hp => absurd (show p ∈ ([] : List (Addr × Obj)) ++ [] from hp) (by simp)⟩
  -- what holds between two turns
  let Mid : Nat → Shared → Prop := fun n s' => ∃ i H', Inv Y [] (wipe σ (own.map (·.2))) H' s' ∧ tn i s'.heap ∧ (∀ b ∈ fp, H' b = none) ∧ W i n H'
  have loop : codeAny (model X.prog X.w) X.A (.compLoop (.SetComp elt [⟨tg, iter, ifs, 0⟩] scope pos) 0 (.ref it) (.ref D) ce) (compPost (model X.prog X.w) X.A X.xe none (EP X pins σ Q) (.ref D) s3.heap.objs.size) s4 := by
    refine PpSet.compLoopS_any Mid (fun n s5 ⟨i, H5, I5, st5, n5, w5⟩ => ?_) m0 ⟨0, H3, I4, st4, fun b hb => (f3 b hb).1.1, w0⟩
    rcases turn i n H5 w5 with ⟨stop, qq⟩ | ⟨go, Nx, hNx, step⟩
    · refine thnF (T.done Y rfl rfl rfl hc i [] s5 _ H5 (fun _ _ => False) I5 (out I5 n5) st5 stop) fun r s6 ⟨hr, I6⟩ => ?_
      subst hr
      have I7 : Inv X pins σ H5 s6 := I3.call' (ch := fp) I6.os I6.base I6.hok I6.bare fun b hb => ⟨(f3 b hb).1.2.2.2.1, (f3 b hb).1.2.1, (f3 b hb).1.2.2.2.2.1, (f3 b hb).1.2.2.2.2.2⟩
      have nC : H5 s3.heap.objs.size = none := by
        rw [← cL]
        exact I6.free
      obtain ⟨m, hn, _⟩ := I6.loc
      have hn : s6.heap.Ns ce.locals m := hn
      rw [cL] at hn
      obtain ⟨z0, z1, _, z3, z4, z5⟩ := I3.fpOk (Nat.le_refl _) nC
      exact ⟨m, hn, fun h'' sb => ⟨.ref D, H5, I7.turned (t' := s6.toks) (fun b o hb e => (sb.2 b hb).trans e) z0 z1 z3 z4 z5, rfl, qq⟩⟩
    · refine thnF (T.item Y rfl rfl rfl hc i [] s5 _ H5 (fun _ _ => False) I5 (out I5 n5) st5 go) fun r s6 ⟨u, hr, h6⟩ => ?_
      subst hr
      refine thnF h6 fun _ s7 ⟨x, H7, I7, r7, y7, st7, n7⟩ => ?_
      refine thnF (pg.run _ s7 _ H7 x u _ (I7.pinned (out I7 n7) (T.obj _ _ st7)) r7 (step x H7 y7)) fun _ s8 ⟨σ8, H8, I8, hw8, q8⟩ => ?_
      refine thnF (pt.run _ s8 σ8 H8 _ I8 q8) fun b s9 ⟨H9, I9, q9⟩ => ?_
      have next : ∀ {s' : Shared} {H' : Hp}, Inv Y ([] ++ pinsAt fp s7.heap) σ8 H' s' → Nx H' → ∃ m, m < n ∧ Mid m s' := fun {s' H'} I' nx => by
        obtain ⟨m', hm, w'⟩ := hNx H' nx
        have pin' : ∀ b ∈ fp, ∀ o, s7.heap.get? b = some o → s'.heap.get? b = some o ∧ H' b = none := fun b hb o e => by
          have z := I'.pin (b, o) (List.mem_append_right _ (List.mem_append_right _ (mem_pinsAt hb e)))
          exact ⟨z.1, z.2.1⟩
        have hl : (wipe σ (own.map (·.2))).length = σ8.length := by
          rw [← hw8, wipe_length]
        refine ⟨m', hm, i + 1, H', (I'.unpinned (pins := [])).weak hl (fun j v e => ?_), T.keep _ _ _ st7 fun b hb o e => (pin' b hb o e).1, fun b hb => ?_, w'⟩
        · rw [← hw8] at e
          exact (wipe_some e).1
        · obtain ⟨o, e, _⟩ := T.obj _ _ st7 b hb
          exact (pin' b hb o e).2
      dsimp only at q9
      by_cases hb : b = true
      · subst hb
        rw [if_pos rfl] at q9 ⊢
        refine thnF (pe.run _ s9 σ8 H9 _ I9 q9) fun z s10 ⟨yv, H10, I10, r10, c0, ks, ey, hD10, hz10, nx⟩ => ?_
        subst ey
        obtain ⟨tk, rfl⟩ := (show ∃ tk, z = Value.str c0 tk from r10)
        exact addSO (X := Y) I10 hD10 hz10 fun s11 I11 => next I11 nx
      · rw [if_neg hb] at q9 ⊢
        exact next I9 q9
  exact PpSet.codeAny_compStart_set loop (T.self X.A 0 _ _ _ st4 loop)
end
end Ev

/-! ## sorted(set of texts), set(list of texts) -/
namespace Ev
open PySem PySem.Spec PyProof.Rows L2
section
variable {P : Program} {w : World} {A : Around} {E : Value → Shared → Prop} {s : Shared} {a : Addr} {ks : List Str}
theorem strs_map {w : World} : ∀ {vs : List Value}, (∀ v ∈ vs, ∃ x tk, v = Value.str x tk) → StrsAre vs (vs.map fun v => keyS (0, v))
  | [], _ => .nil
  | v :: vs, h => by
    obtain ⟨x, tk, rfl⟩ := h v (List.mem_cons_self ..)
    exact .cons x tk (strs_map (w := w) fun u hu => h u (List.mem_cons_of_mem _ hu))
theorem sorted_S {Q : Value → Shared → Prop} (R : SetS w s.heap a ks) (hh : A.handled = none) (few : ks.length < 64)
    (q : ∀ s' p (out : Array Value) (c : Nat) (ys : List Str), (∀ b o, s.heap.get? b = some o → s'.heap.get? b = some o) → s'.gens = s.gens → s'.os = s.os → s.heap.objs.size ≤ p →
      s'.heap.get? p = some (seqObj "list" out c) → StrsAre out.toList ys → ys.Perm ks → sortedS ys = true → Q (.ref p) s') : wpAny (model P w) A (call (.builtin "sorted") [.ref a]) Q E s := by
  obtain ⟨o, es, ep, t, ho, hx, hd, g, pm, nd, hb, hf, hr, hl⟩ := R
  refine Calls.call_function_entry kind_sorted plain_sorted entry_sorted (args_sorted1 _) ?_
  unfold Builtin.«sorted»
  refine wpAny_bind (m := checkCount "sorted" 1 1 _) (wpAny_pure ?_)
  refine wpAny_bind (collect_set (A := A.in1) hh ⟨o, ho, hx.1, hd⟩ hf hb hr hl fun s1 vs k1 hz g1 o1 pv => ?_)
  have all : ∀ v ∈ vs, ∃ x tk, v = Value.str x tk := fun v hv => by
    obtain ⟨e, he, rfl⟩ := List.mem_map.mp (pv.mem_iff.mp hv)
    obtain ⟨x, tk, rfl⟩ := g e he
    exact ⟨x, tk, rfl⟩
  have hS := strs_map (w := w) all
  have pk : (vs.map fun v => keyS (0, v)).Perm ks := by
    refine (pv.map fun v => keyS (0, v)).trans ?_
    rw [List.map_map]
    exact pm
  have hvl : vs.length = ks.length := by
    have z := pk.length_eq
    rw [List.length_map] at z
    exact z
  refine wpAny_bind (wpAny_newList ?_ (by rw [hvl, sizeLine_eq]; omega))
  have hoL : (s1.heap.push (seqObj "list" vs.toArray 0)).get? s1.heap.objs.size = some (seqObj "list" vs.toArray 0) := Heap.get?_push_size _ rfl
  refine wpAny_bind (wpAny_holding (wpAny_call_entry slot_list_sort ⟨_, hoL, rfl⟩ entry_list_sort
    (list_sort_treeK strKind_oneLt hoL hS.keysOf (fun v₁ v₂ rest e => keyKind_strs (by rw [← e]; exact hS)) (by rw [hvl]; exact few) fun st' hp hs => ⟨_, rfl, ?_⟩) (args_list_sort _)))
  obtain ⟨ys, y1, y2, y3⟩ := sorted_out_str hS hp hs
  obtain ⟨c, hc⟩ := sortedHeap_at (vs := vs) (out := (arrOf st').map (·.2)) hoL
  refine wpAny_pure ⟨_, rfl, q _ s1.heap.objs.size _ c ys (fun b u e => ?_) g1 o1 hz hc y1 (y2.trans pk) y3⟩
  have z := k1 b u e
  have lt := Heap.lt_size z
  show (sortedHeap (s1.heap.push (seqObj "list" vs.toArray 0)) s1.heap.objs.size vs ((arrOf st').map (·.2))).get? b = some u
  rw [sortedHeap_old (Nat.ne_of_lt lt) (by rw [size_push']; exact Nat.lt_succ_of_lt lt)]
  exact Heap.get?_push_of_some _ z
/-- the members, in the order in which they came -/
def uniq : List Str → List Str → List Str
  | acc, [] => acc
  | acc, x :: xs => uniq (addN acc x) xs
theorem uniq_snoc : ∀ (xs acc : List Str) (x : Str), uniq acc (xs ++ [x]) = addN (uniq acc xs) x
  | [], _, _ => rfl
  | y :: xs, acc, x => uniq_snoc xs (addN acc y) x
theorem uniq_len : ∀ (xs acc : List Str), (uniq acc xs).length ≤ acc.length + xs.length
  | [], _ => Nat.le_refl _
  | x :: xs, acc => by
    have h := uniq_len xs (addN acc x)
    have h2 := addN_len (ks := acc) (k := x)
    show (uniq (addN acc x) xs).length ≤ acc.length + (xs.length + 1)
    omega
theorem uniq_mem : ∀ (xs acc : List Str) (z : Str), z ∈ uniq acc xs ↔ z ∈ acc ∨ z ∈ xs
  | [], acc, z => by
    rw [show uniq acc [] = acc from rfl]
    simp
  | x :: xs, acc, z => by
    show z ∈ uniq (addN acc x) xs ↔ _
    rw [uniq_mem xs, mem_addN, List.mem_cons, or_assoc]
theorem uniq_nodup : ∀ (xs acc : List Str), acc.Nodup → (uniq acc xs).Nodup
  | [], _, h => h
  | x :: xs, acc, h => uniq_nodup xs (addN acc x) (addN_nodup h)
/-- the loop of set.update, over texts -/
theorem update_S {I : Addr} {fp wr : List Addr} {G : Array GenState → Array GenState → Prop} {n : Nat} {Pv : Nat → Value → Prop} {St : Nat → Shared → Prop} {R : Result → Shared → Prop} (W : WalksS P w A.in1 I fp wr G n Pv St) (D : Addr) (hDf : D ∉ fp)
    (zs : List Str) (hn : n = zs.length) (hv : ∀ i v, Pv i v → ∃ x tk, zs[i]? = some x ∧ v = .str x tk) (few : zs.length + 1 < scanBound) :
    ∀ (k i : Nat) (s : Shared), n - i = k → i ≤ n → St i s → SetS w s.heap D (uniq [] (zs.take i)) → (∀ s', Moved (D :: wr) G s s' → SetS w s'.heap D (uniq [] zs) → R (.ok (.ret .none)) s') →
      codeAny (model P w) A (.builtin "set.update.loop" ⟨[.ref D, .ref I], []⟩) R s := by
  have hDw : D ∉ wr := fun z => hDf (W.sub _ z)
  have sub : ∀ b ∈ wr, b ∈ D :: wr := fun b hb => List.mem_cons_of_mem _ hb
  intro k
  induction k with
  | zero =>
    intro i s hk hi hst hS q
    have hin : i = zs.length := by omega
    rw [hin, List.take_length] at hS
    have hin' : i = n := by omega
    subst hin'
    refine codeAny_builtin F.entry_set_update_loop ?_
    rw [Around.under_plainId F.plain_set_update_loop _]
    show wpAny _ A.in1 (pyNext (.ref I) >>= _) _ _ s
    refine wpAny_bind (W.done s _ _ hst fun s' hm => ?_)
    show wpAny _ A.in1 (ret Value.none) _ _ s'
    exact wpAny_pure (q s' (hm.mono sub) (hS.at fun o e => hm.heap D o hDw e))
  | succ k ih =>
    intro i s hk hi hst hS q
    have hlt : i < n := by omega
    refine codeAny_builtin F.entry_set_update_loop ?_
    rw [Around.under_plainId F.plain_set_update_loop _]
    show wpAny _ A.in1 (pyNext (.ref I) >>= _) _ _ s
    refine wpAny_bind (W.item i s _ _ hlt hst fun v s' hP hst' hm => ?_)
    obtain ⟨x, tk, hx, rfl⟩ := hv i v hP
    have hS' : SetS w s'.heap D (uniq [] (zs.take i)) := hS.at fun o e => hm.heap D o hDw e
    show wpAny _ A.in1 (holding [Value.str x tk] (setAdd D (.str x tk)) >>= _) _ _ s'
    refine wpAny_bind (wpAny_holding ?_)
    unfold setAdd
    have me : (PySem.strKind P w).is x (.str x tk) = true := by
      show Value.isStrOf x (.str x tk) = true
      simp [Value.isStrOf]
    refine wpAny_holding (wpAny_bind ((PySem.strKind P w).pyHash me ?_))
    have room : (uniq [] (zs.take i)).length + 1 < scanBound := by
      have z := uniq_len (zs.take i) []
      rw [List.length_take] at z
      have z0 : ([] : List Str).length = 0 := rfl
      omega
    refine lay_in (s := { s' with toks := s'.toks + 1 }) hS' room fun h' sb R2 b => ?_
    rw [← uniq_snoc, show zs.take i ++ [x] = zs.take (i + 1) by rw [List.take_add_one, hx]; rfl] at R2
    refine wpAny_pure ⟨plainId_quiet F.plain_set_update_loop _, ih (i + 1) _ (by omega) hlt (W.frame _ s' _ _ hst' (Nat.le_add_right _ _) fun b hb o e => ?_) R2 fun s'' hm'' hS'' => ?_⟩
    · rw [sb.2 b (fun z : b = D => hDf (by rw [← z]; exact hb))]
      exact e
    · refine q s'' (Moved.trans W.gtrans ((hm.mono sub).then_heap (Nat.le_add_right _ _) fun b o hb e => ?_) hm'') hS''
      rw [sb.2 b (fun z : b = D => hb (by rw [z]; exact List.mem_cons_self))]
      exact e
end
section
variable {X : Cx}
/-- sorted(set of texts) -/
def rSortSS (w : World) : List V → Hp → VK → Prop := fun vs H Q => ∃ (a : Addr) (ks : List Str), vs = [V.ref a] ∧ H a = some (SetSO w a ks) ∧ ks.length < 64 ∧ ∀ (ys : List Str) (p : Addr), ys.Perm ks → sortedS ys = true → H p = none → Q (.ref p) (upd H p (.lst (ys.map V.str)))
theorem cr_sortSS (hc : X.calm = true) : CallR X (.builtin "sorted") (rSortSS X.w) := by
  intro pins s σ H vs us Q I r h
  obtain ⟨a, ks, rfl, ha, few, q⟩ := h
  rw [Vals.ref1 r]
  refine sorted_S (setSO_at I ha) (I.ok.hd hc) few fun s' p out c ys k g o hp hg hi pm hs => ?_
  have hn : H p = none := I.hok.fresh hp
  have hlen : (ys.map V.str).length ≤ sizeLine := by
    have z := pm.length_eq
    rw [List.length_map, sizeLine_eq]
    omega
  have J : Inv X pins σ (upd H p (.lst (ys.map V.str))) { s with heap := s'.heap, gens := s'.gens, drawn := s'.drawn, toks := s'.toks } :=
    I.call (ch := []) (Un.laid k hp hn) (I.hok.laid k hp ⟨hlen, out.toList, c, vals_of_strs hi, hg⟩) (by rw [g]; exact I.bare) (fun _ z => nomatch z)
  have e : s' = { s with heap := s'.heap, gens := s'.gens, drawn := s'.drawn, toks := s'.toks } := by
    cases s'
    cases s
    cases o
    rfl
  rw [e]
  exact ⟨.ref p, _, J, rfl, q ys p pm hs hn⟩
end
end Ev

/-! ## set(list of texts) -/
namespace Ev
open PySem PySem.Spec PyProof.Rows L2
section
variable {P : Program} {w : World} {A : Around} {E : Value → Shared → Prop} {s : Shared}
theorem strs_get : ∀ {vs : List Value} {zs : List Str} {i : Nat} {v : Value}, StrsAre vs zs → vs[i]? = some v → ∃ x tk, zs[i]? = some x ∧ v = .str x tk
  | _, _, _, _, .nil, e => by cases e
  | _, _, 0, _, .cons x tk _, e => by
    cases e
    exact ⟨x, tk, rfl, rfl⟩
  | _, _, i + 1, _, .cons _ _ h, e => strs_get (i := i) h e
/-- a new empty set behind the heap -/
abbrev emp (w : World) (h : Heap) : Heap := h.push { cls := .type "set", dict := none, data := .set #[] 0 (.fresh 0 0 (!w.params.followText "set-order")) }
theorem set_S {l : Addr} {items : Array Value} {zs : List Str} {Q : Value → Shared → Prop} (hh : A.handled = none) (hl : s.heap.IsList l items) (hit : StrsAre items.toList zs) (few : zs.length + 1 < scanBound)
    (q : ∀ (h' : Heap) (tk : Nat), SetS w h' s.heap.objs.size (uniq [] zs) → (∀ b o, s.heap.get? b = some o → h'.get? b = some o) → Q (.ref s.heap.objs.size) { s with heap := h', toks := tk }) :
    wpAny (model P w) A (call (.type "set") [.ref l]) Q E s := by
  have hz : items.size = zs.length := by
    have z := hit.length
    rw [Array.length_toList] at z
    exact z
  obtain ⟨c, tl, hmro⟩ := F.called_set.mro
  have f1 := F.called_set.made
  have f2 := F.called_set.sub
  have f3 := F.called_set.notType
  have f4 := F.called_set.canCreate
  have f5 := F.typeCall_set_1 (.ref l)
  refine wpAny_call (codeAny_of_tree ?_)
  show wpAny _ _ (callAny (.type "set") _) _ _ _
  refine wpAny_pure ⟨Code.quiet_builtin _ (by decide +kernel), codeAny_builtin F.entry_type_call ?_⟩
  rw [Around.under_plain (weight_type_call_type "set" [.ref l] []) rfl]
  repeat (any_goals (first | assumption | wp_step))
  refine codeAny_mono (code_set_led1 (.ref l) (E := E) (Q₁ := fun v s1 => v = .ref s.heap.objs.size ∧ s1 = { s with heap := emp w s.heap }) ⟨rfl, rfl⟩) fun r s1 hr => ?_
  match r, hr with
  | .error e, hr => exact hr
  | .ok (.ret v), hr =>
    obtain ⟨rfl, rfl⟩ := hr
    have hD : (emp w s.heap).get? s.heap.objs.size = some { cls := .type "set", dict := none, data := .set #[] 0 (.fresh 0 0 (!w.params.followText "set-order")) } := Heap.get?_push_size _ rfl
    have hT : Shared.TypeIs { s with heap := emp w s.heap } (.ref s.heap.objs.size) "set" := ⟨_, hD, rfl⟩
    have f6 := F.called_set.init.lookup
    have f7 := F.called_set.init.bind (.ref s.heap.objs.size)
    repeat (any_goals (first | assumption | wp_step))
    refine codeAny_mono (codeAny_call_builtin (R := wants (fun r s2 => r = .none ∧ ∃ h' tk, s2 = { s with heap := h', toks := tk } ∧ SetS w h' s.heap.objs.size (uniq [] zs) ∧ ∀ b o, s.heap.get? b = some o → h'.get? b = some o) E)
      F.called_set.init.plain F.entry_set_init (check_set_init_1 hT ?_)) fun r2 s2 hr2 => ?_
    · obtain ⟨⟨oc, od, odt, osl⟩, ho, hc, nl, hd⟩ := hl
      simp only at hc hd
      subst hc hd
      have ho1 : (emp w s.heap).get? l = some { cls := .type "list", dict := od, data := .seq items nl, slots := osl } := Heap.get?_push_of_some _ ho
      have l1 : (emp w s.heap).IsList l items := ⟨_, ho1, rfl, nl, rfl⟩
      have f8 := F.sub_list_set
      have f9 := F.sub_list_frozenset
      have f10 : (Value.type "list" == Value.type "dict") = false := by decide
      unfold Builtin.«set.__init__» noKeywords Builtin.Frozenset.updateFrom
      generalize hPI : pyIter = PI
      wp_walk
      subst hPI
      refine wpAny_pyIter_list l1 (wpAny_bind (wpAny_runValue ?_))
      have lt : l < s.heap.objs.size := Heap.lt_size ho
      have h3 : A.in1.in1.in1.handled = none := by simp [hh]
      have sz : (emp w s.heap).objs.size = s.heap.objs.size + 1 := Heap.size_push ..
      have neI : l ≠ (emp w s.heap).objs.size := by
        rw [sz]
        exact Nat.ne_of_lt (Nat.lt_succ_of_lt lt)
      have nf : s.heap.objs.size ∉ [(emp w s.heap).objs.size, l] := by
        rw [sz, List.mem_cons, List.mem_singleton, not_or]
        exact ⟨Nat.ne_of_lt (Nat.lt_succ_self _), Nat.ne_of_gt lt⟩
      have hv : ∀ (i : Nat) (v : Value), items[i]? = some v → ∃ x tk, zs[i]? = some x ∧ v = .str x tk := fun i v e => by
        have z : items.toList[i]? = some v := by
          rw [Array.getElem?_toList]
          exact e
        exact strs_get hit z
      refine update_S ((Walks.list h3 _ l neI items).toS) s.heap.objs.size nf zs hz hv few (items.size - 0) 0 _ (by omega) (Nat.zero_le _) ⟨⟨_, Heap.get?_push_size _ rfl, rfl, rfl⟩, l1.push _⟩
        ((setS_new w s.heap).at fun o e => Heap.get?_push_of_some _ e) fun s' hm hS' => ?_
      obtain ⟨h', g2, d', tk', os'⟩ := s'
      have eg : g2 = s.gens := hm.gens
      have ed : d' = s.drawn := hm.drawn
      have eo : os' = s.os := hm.os
      subst eg
      subst ed
      subst eo
      show wpAny _ _ _ _ _ _
      refine wpAny_pure ?_
      show wpAny _ _ (ret Value.none) _ _ _
      refine wpAny_pure ⟨rfl, h', tk', rfl, hS', fun b o e => ?_⟩
      have lb := Heap.lt_size e
      refine hm.heap b o (fun z => ?_) (Heap.get?_push_of_some _ (Heap.get?_push_of_some _ e))
      rcases List.mem_cons.mp z with z | z
      · rw [z] at lb
        exact Nat.lt_irrefl _ lb
      · have z := List.mem_singleton.mp z
        rw [z, sz] at lb
        exact Nat.not_lt_of_le (Nat.le_succ _) lb
    · match r2, hr2 with
      | .error e, hr2 => exact hr2
      | .ok (.ret v), hr2 =>
        obtain ⟨rfl, h', tk, rfl, hS', hk⟩ := hr2
        repeat (any_goals (first | assumption | wp_step))
        exact q _ _ hS' hk
      | .ok .next, hr2 => exact hr2.elim
      | .ok .brk, hr2 => exact hr2.elim
      | .ok .cont, hr2 => exact hr2.elim
  | .ok .next, hr => exact hr.elim
  | .ok .brk, hr => exact hr.elim
  | .ok .cont, hr => exact hr.elim
end
section
variable {X : Cx}
/-- set(list of texts) -/
def rSetS (K : PySem.W.Frag) (w : World) : List V → Hp → VK → Prop := fun xs H Q => ∃ (l : Addr) (zs : List Str), xs = [V.ref l] ∧ SqL K H l (zs.map V.str) ∧ zs.length < 4000 ∧ ∀ a, H a = none → Q (.ref a) (upd H a (SetSO w a (uniq [] zs)))
theorem cr_setS (hc : X.calm = true) : CallR X (.type "set") (rSetS X.K X.w) := by
  intro pins s σ H xs us Q I r h
  obtain ⟨l, zs, rfl, hl, few, q⟩ := h
  rw [Vals.ref1 r]
  obtain ⟨its, rv, pl, hz⟩ := I.list hl
  have hn : H s.heap.objs.size = none := I.hok.fresh (Nat.le_refl _)
  have hb : scanBound = 4096 := rfl
  refine set_S (P := X.prog) (w := X.w) (I.ok.hd hc) pl.isList (by simpa using rv.strs) (by omega) fun h' tk R k => ?_
  exact ⟨.ref s.heap.objs.size, upd H s.heap.objs.size (SetSO X.w s.heap.objs.size (uniq [] zs)), I.laid (t' := tk) k (Nat.le_refl _) (setSO_ok R), rfl, q _ hn⟩
end
end Ev

/-! ## Programs, pairs, and what comprehensions over them give -/
namespace Ev
open PySem PySem.Spec PyProof.Rows L2
/-- a statement that is never reached -/
theorem ps_dead {X : Cx} {st : Stmt} : PS X st (fun _ _ _ => False) := ⟨fun _ _ _ _ _ _ h => h.elim⟩
theorem pss_dead {X : Cx} {b : List Stmt} : PSs X b (fun _ _ _ => False) := ⟨fun _ _ _ _ _ _ h => h.elim⟩
inductive It where
  | line (x : Str) (t : Int)
  | loop (r : Int) (is : List It)
mutual
def It.d : It → PyData
  | .line x t => .tuple [.str "line", .str x, .int t]
  | .loop r is => .tuple [.str "loop", .int r, .tuple (Its.d is)]
def Its.d : List It → List PyData
  | [] => []
  | i :: is => It.d i :: Its.d is
end
theorem Its.d_map : ∀ is : List It, Its.d is = is.map It.d
  | [] => by rw [Its.d]; rfl
  | i :: is => by rw [Its.d, Its.d_map is]; rfl
/-- loops at most n deep, numbers from 0 below 2 ^ B -/
def Okp (B : Nat) : Nat → It → Prop
  | _, .line _ t => 0 ≤ t ∧ t < (2 ^ B : Nat)
  | 0, .loop _ _ => False
  | n + 1, .loop r is => 0 ≤ r ∧ r < (2 ^ B : Nat) ∧ ∀ i ∈ is, Okp B n i
theorem okp_line {B n : Nat} {x : Str} {t : Int} : Okp B n (.line x t) ↔ 0 ≤ t ∧ t < (2 ^ B : Nat) := by
  cases n <;> exact Iff.rfl
mutual
/-- the lines with their ticks, all rounds r times -/
def It.sp (r : Int) : It → List (Str × Int)
  | .line x t => [(x, r * t)]
  | .loop k is => Its.sp (r * k) is
def Its.sp (r : Int) : List It → List (Str × Int)
  | [] => []
  | i :: is => It.sp r i ++ Its.sp r is
end
theorem Its.sp_app (r : Int) : ∀ is js : List It, Its.sp r (is ++ js) = Its.sp r is ++ Its.sp r js
  | [], js => by
    rw [List.nil_append, Its.sp]
    rfl
  | i :: is, js => by
    rw [List.cons_append, Its.sp, Its.sp, Its.sp_app r is js, List.append_assoc]
theorem Its.sp_one (r : Int) (i : It) : Its.sp r [i] = It.sp r i := by
  rw [Its.sp, Its.sp, List.append_nil]
mutual
/-- how many lines there are -/
def It.nl : It → Nat
  | .line _ _ => 1
  | .loop _ is => Its.nl is
def Its.nl : List It → Nat
  | [] => 0
  | i :: is => It.nl i + Its.nl is
end
mutual
theorem It.sp_len (r : Int) : ∀ i : It, (It.sp r i).length = It.nl i
  | .line x t => by
    rw [It.sp, It.nl]
    rfl
  | .loop k is => by
    rw [It.sp, It.nl, Its.sp_len (r * k) is]
theorem Its.sp_len (r : Int) : ∀ is : List It, (Its.sp r is).length = Its.nl is
  | [] => by
    rw [Its.sp, Its.nl]
    rfl
  | i :: is => by
    rw [Its.sp, Its.nl, List.length_append, It.sp_len r i, Its.sp_len r is]
end
theorem Its.nl_app : ∀ is js : List It, Its.nl (is ++ js) = Its.nl is + Its.nl js
  | [], js => by
    rw [List.nil_append, Its.nl, Nat.zero_add]
  | i :: is, js => by
    rw [List.cons_append, Its.nl, Its.nl, Its.nl_app is js, Nat.add_assoc]
theorem Its.nl_mem : ∀ {is : List It} {i : It}, i ∈ is → It.nl i ≤ Its.nl is
  | j :: is, i, h => by
    rw [Its.nl]
    rcases List.mem_cons.mp h with rfl | h
    · exact Nat.le_add_right _ _
    · exact Nat.le_trans (Its.nl_mem h) (Nat.le_add_left _ _)
/-! ### pairs -/
def pairD (p : Str × Int) : PyData := .tuple [.str p.1, .int p.2]
/-- a list of pairs -/
def gPl (K : PySem.W.Frag) (ps : List (Str × Int)) : GP := ⟨fun H u => ∃ l us, u = .ref l ∧ H l = some (.lst us) ∧ DaAll K H us (ps.map pairD), fun s ⟨l, us, h1, h2, h3⟩ => ⟨l, us, h1, s _ _ h2, h3.mono s⟩⟩
section
variable {K : PySem.W.Frag} {H H' : Hp}
theorem da_app {us vs : List V} {ds es : List PyData} : DaAll K H us ds → DaAll K H vs es → DaAll K H (us ++ vs) (ds ++ es)
  | .nil, k => k
  | .cons h t, k => .cons h (da_app t k)
theorem daAll_len : ∀ {vs : List V} {ds : List PyData}, DaAll K H vs ds → vs.length = ds.length
  | _, _, .nil => rfl
  | _, _, .cons _ t => by
    rw [List.length_cons, List.length_cons, daAll_len t]
theorem daAll_at : ∀ {vs : List V} {ds : List PyData} {j : Nat} {x : V}, DaAll K H vs ds → vs[j]? = some x → ∃ d, ds[j]? = some d ∧ Da K H x d
  | _, _, _, _, .nil, e => by cases e
  | _, _, 0, _, .cons h _, e => by
    cases e
    exact ⟨_, rfl, h⟩
  | _, _, j + 1, _, .cons _ t, e => daAll_at (j := j) t e
mutual
/-- made of tuples alone -/
def tupD : PyData → Bool
  | .tuple ds => tupDs ds
  | .list _ => false
  | .dict _ => false
  | _ => true
def tupDs : List PyData → Bool
  | [] => true
  | d :: ds => tupD d && tupDs ds
end
/-- what is no list stays -/
def Kt (H H' : Hp) : Prop := ∀ b o, H b = some o → (∀ xs, o ≠ .lst xs) → H' b = some o
theorem Kt.of {H H' : Hp} (s : Same H H') : Kt H H' := fun b o e _ => s b o e
theorem Kt.put {H : Hp} {l : Addr} {xs : List V} {o : HO} (h : H l = some (.lst xs)) : Kt H (upd H l o) := fun b u e n => by
  have z : b ≠ l := fun z => by
    rw [z, h] at e
    cases e
    exact n xs rfl
  rw [upd_ne z]
  exact e
theorem Kt.trans {H1 H2 H3 : Hp} (a : Kt H1 H2) (b : Kt H2 H3) : Kt H1 H3 := fun x o e n => b x o (a x o e n) n
mutual
theorem Da.kt (k : Kt H H') : ∀ {v : V} {d : PyData}, tupD d = true → Da K H v d → Da K H' v d
  | _, _, _, .non => .non
  | _, _, _, .bl b => .bl b
  | _, _, _, .int i => .int i
  | _, _, _, .str x => .str x
  | _, _, n, .lst _ _ => by
    rw [tupD] at n
    cases n
  | _, _, n, .tup h t => by
    rw [tupD] at n
    refine .tup ?_ (DaAll.kt k n t)
    rcases h with (e | ⟨o, e⟩) | e
    · exact .inl (.inl (k _ _ e fun xs z => by cases z))
    · exact .inl (.inr ⟨o, k _ _ e fun xs z => by cases z⟩)
    · exact .inr e
  | _, _, n, .dic _ _ => by
    rw [tupD] at n
    cases n
theorem DaAll.kt (k : Kt H H') : ∀ {vs : List V} {ds : List PyData}, tupDs ds = true → DaAll K H vs ds → DaAll K H' vs ds
  | _, _, _, .nil => .nil
  | _, _, n, .cons h t => by
    rw [tupDs, Bool.and_eq_true] at n
    exact .cons (Da.kt k n.1 h) (DaAll.kt k n.2 t)
end
theorem tup_pairs : ∀ ps : List (Str × Int), tupDs (ps.map pairD) = true
  | [] => by rw [List.map_nil, tupDs]
  | p :: ps => by
    rw [List.map_cons, tupDs, tup_pairs ps, Bool.and_true]
    unfold pairD
    simp [tupD, tupDs]
theorem da_pair {x : V} {p : Str × Int} (h : Da K H x (pairD p)) : ∃ a, x = .ref a ∧ SqT K H a [.str p.1, .int p.2] := by
  unfold pairD at h
  cases h with
  | @tup a xs _ hs ha =>
  cases ha with
  | cons h1 ha =>
  cases ha with
  | cons h2 ha =>
  cases ha
  cases h1
  cases h2
  exact ⟨a, rfl, hs⟩
end
/-! ### comprehensions whose elements are plain values -/
section
variable {K : PySem.W.Frag} {H0 : Hp} {σ : L2.St} {te ti : TE} {tt : TT}
/-- over a list that an expression gives -/
theorem g_lcF {ds : List PyData} {f : Nat → Bool} {y : Nat → V} {g : TG} {vs : List Nat} (hi : ∀ (H : Hp) (Q : VK), Same H0 H → (∀ H' l us, Same H H' → SqL K H' l us → DaAll K H' us ds → Q (.ref l) H') → ti σ H Q) (hz : ds.length ≤ 1000000)
    (he : ∀ (j : Nat) (x : V) (d : PyData), ds[j]? = some d → ∀ (H : Hp) (R : VK) (N : Hp → Prop), Same H0 H → Da K H x d → (f j = true → ∀ H', Same H H' → R (y j) H') → (f j = false → ∀ H', Same H H' → N H') →
      g x (wipe σ vs) H fun σ2 H2 => wipe σ2 vs = wipe σ vs ∧ tt σ2 H2 fun b H3 => if b = true then te σ2 H3 R else N H3) :
    Gives H0 (tLc (iList K ti) g tt te vs) (gLst ((((List.range ds.length).filter f).map y).map gEq)) σ := fun H Q s q => by
  refine hi H _ s fun H1 l us s1 hl ha => ⟨l, rfl, ⟨us, hl⟩, fun D nD => ?_⟩
  have sl := sizeLine_eq
  have hlen := daAll_len ha
  refine lc_list (K := K) (a := l) (xs := us) (fun k H' => Same H1 H' ∧ H' D = some (.lst (((List.range k).filter f).map y))) ⟨same_put nD, upd_same⟩ (fun k H' _ ⟨s', _⟩ => s'.seq hl) ?_ ?_
  · rintro k x H' hk ⟨s', eD⟩
    obtain ⟨d, hd, hx⟩ := daAll_at ha hk
    have hkl : k < ds.length := (List.getElem?_eq_some_iff.mp hd).1
    have hll : (((List.range k).filter f).map y).length < sizeLine := by
      rw [List.length_map]
      have z := List.length_filter_le f (List.range k)
      rw [List.length_range] at z
      omega
    refine cast ?_ (he k x d hd H' (fun y' H4 => ∃ acc, H4 D = some (.lst acc) ∧ acc.length < sizeLine ∧ Same H1 (upd H4 D (.lst (acc ++ [y']))) ∧ upd H4 D (.lst (acc ++ [y'])) D = some (.lst (((List.range (k + 1)).filter f).map y)))
      (fun H4 => Same H1 H4 ∧ H4 D = some (.lst (((List.range (k + 1)).filter f).map y))) (s.trans (s1.trans s')) (hx.mono s') (fun e H4 s4 => ⟨_, s4 _ _ eD, hll, ?_, ?_⟩) (fun e H4 s4 => ⟨s'.trans s4, ?_⟩))
    · rfl
    · intro b o e
      rw [upd_ne (ne_of_none e nD)]
      exact s4 _ _ (s' _ _ e)
    · rw [upd_same, List.range_succ, List.filter_append, List.map_append]
      simp [e]
    · rw [List.range_succ, List.filter_append]
      simp [e]
      exact s4 _ _ eD
  · rintro H' ⟨s', eD⟩
    rw [hlen] at eD
    exact q H' _ (s1.trans s') ⟨D, _, rfl, eD, allEq⟩
theorem range_map {α β : Type} (l : List α) (f : α → β) (d : β) : (List.range l.length).map (fun j => ((l[j]?).map f).getD d) = l.map f := by
  apply List.ext_getElem
  · rw [List.length_map, List.length_range, List.length_map]
  · intro i h1 h2
    rw [List.getElem_map, List.getElem_range, List.getElem_map]
    rw [List.length_map] at h2
    rw [List.getElem?_eq_getElem h2]
    rfl
/-- sum of a list of numbers -/
theorem g_sum {ns : List Int} (h : Gives H0 te (gLst ((ns.map V.int).map gEq)) σ) : Gives H0 (tCB (rSum K) (tCons te tNil)) (gEq (.int ns.sum)) σ := fun H Q s q =>
  h H _ s fun H1 u s1 ⟨p, us, e, hp, ha⟩ => by
    have eu := all_eq ha
    subst eu
    subst e
    exact ⟨p, ns, rfl, .inl (.inl hp), q H1 _ s1 rfl⟩
end
end Ev

/-! ## Texts in order -/
namespace Ev
open PySem PySem.Spec PyProof.Rows
theorem lt_irr : ∀ a : List Nat, ltCps a a = false
  | [] => rfl
  | x :: a => by
    show (decide (x < x) || (x == x && ltCps a a)) = false
    rw [lt_irr a]
    simp
theorem lt_tri : ∀ a b : List Nat, ltCps a b = false → ltCps b a = false → a = b
  | [], [], _, _ => rfl
  | [], _ :: _, h, _ => by cases h
  | _ :: _, [], _, h => by cases h
  | x :: a, y :: b, h1, h2 => by
    have h1 : (decide (x < y) || (x == y && ltCps a b)) = false := h1
    have h2 : (decide (y < x) || (y == x && ltCps b a)) = false := h2
    rw [Bool.or_eq_false_iff, decide_eq_false_iff_not] at h1 h2
    have e : x = y := by omega
    subst e
    rw [beq_self_eq_true, Bool.true_and] at h1 h2
    rw [lt_tri a b h1.2 h2.2]
/-- not greater is transitive -/
theorem le_tr : ∀ a b c : List Nat, ltCps b a = false → ltCps c b = false → ltCps c a = false
  | [], [], c, _, h => h
  | [], _ :: _, [], _, h => by cases h
  | [], _ :: _, _ :: _, _, _ => rfl
  | _ :: _, [], _, h, _ => by cases h
  | _ :: _, _ :: _, [], _, h => by cases h
  | x :: a, y :: b, z :: c, h1, h2 => by
    have h1 : (decide (y < x) || (y == x && ltCps b a)) = false := h1
    have h2 : (decide (z < y) || (z == y && ltCps c b)) = false := h2
    show (decide (z < x) || (z == x && ltCps c a)) = false
    rw [Bool.or_eq_false_iff, decide_eq_false_iff_not] at h1 h2 ⊢
    refine ⟨by omega, ?_⟩
    by_cases e : z = x
    · subst e
      have e2 : y = z := by omega
      subst e2
      rw [beq_self_eq_true, Bool.true_and] at h1 h2 ⊢
      exact le_tr a b c h1.2 h2.2
    · have : (z == x) = false := by simpa using e
      rw [this, Bool.false_and]
def LeS (a b : Str) : Prop := ltCps b.cps.toList a.cps.toList = false
theorem LeS.rfl' (a : Str) : LeS a a := lt_irr _
theorem LeS.tr {a b c : Str} (h : LeS a b) (k : LeS b c) : LeS a c := le_tr _ _ _ h k
theorem LeS.anti {a b : Str} (h : LeS a b) (k : LeS b a) : a = b := by
  have e := lt_tri _ _ k h
  obtain ⟨x⟩ := a
  obtain ⟨y⟩ := b
  have e : x.toList = y.toList := e
  rw [Array.toList_inj.mp e]
theorem rising_pw : ∀ (r : List Str) (p : Str), risingS p r = true → (p :: r).Pairwise LeS
  | [], _, _ => List.pairwise_singleton _ _
  | x :: r, p, h => by
    have h : (!ltCps x.cps.toList p.cps.toList && risingS x r) = true := h
    rw [Bool.and_eq_true] at h
    have ih := rising_pw r x h.2
    have px : LeS p x := by
      show ltCps x.cps.toList p.cps.toList = false
      have := h.1
      revert this
      cases ltCps x.cps.toList p.cps.toList <;> simp
    refine List.pairwise_cons.mpr ⟨fun y hy => ?_, ih⟩
    rcases List.mem_cons.mp hy with rfl | hy
    · exact px
    · exact px.tr ((List.pairwise_cons.mp ih).1 y hy)
theorem sorted_pw : ∀ {l : List Str}, sortedS l = true → l.Pairwise LeS
  | [], _ => .nil
  | x :: r, h => rising_pw r x h
/-- two rows in order with the same members are one -/
theorem pw_same : ∀ {l m : List Str}, l.Pairwise LeS → m.Pairwise LeS → l.Perm m → l = m
  | [], m, _, _, p => p.nil_eq
  | x :: l, [], _, _, p => by
    have := p.length_eq
    cases this
  | x :: l, y :: m, h, k, p => by
    obtain ⟨h1, h2⟩ := List.pairwise_cons.mp h
    obtain ⟨k1, k2⟩ := List.pairwise_cons.mp k
    have e : x = y := by
      have xy : LeS x y := by
        rcases List.mem_cons.mp (p.mem_iff.mpr (List.mem_cons_self ..)) with e | e
        · rw [e]
          exact LeS.rfl' _
        · exact h1 y e
      have yx : LeS y x := by
        rcases List.mem_cons.mp (p.mem_iff.mp (List.mem_cons_self ..)) with e | e
        · rw [e]
          exact LeS.rfl' _
        · exact k1 x e
      exact xy.anti yx
    subst e
    rw [pw_same h2 k2 p.cons_inv]
theorem sorted_same {l m : List Str} (h : sortedS l = true) (k : sortedS m = true) (p : l.Perm m) : l = m := pw_same (sorted_pw h) (sorted_pw k) p
theorem lt_two : ∀ a b : List Nat, ltCps a b = true → ltCps b a = true → False
  | [], [], h, _ => by cases h
  | [], _ :: _, _, h => by cases h
  | _ :: _, [], h, _ => by cases h
  | x :: a, y :: b, h1, h2 => by
    have h1 : (decide (x < y) || (x == y && ltCps a b)) = true := h1
    have h2 : (decide (y < x) || (y == x && ltCps b a)) = true := h2
    rw [Bool.or_eq_true, decide_eq_true_iff, Bool.and_eq_true, beq_iff_eq] at h1 h2
    rcases h1 with h1 | h1
    · rcases h2 with h2 | h2
      · omega
      · omega
    · rcases h2 with h2 | h2
      · omega
      · exact lt_two a b h1.2 h2.2
def insS (x : Str) : List Str → List Str
  | [] => [x]
  | y :: r => if ltCps y.cps.toList x.cps.toList = true then y :: insS x r else x :: y :: r
theorem ins_perm (x : Str) : ∀ l : List Str, (insS x l).Perm (x :: l)
  | [] => .refl _
  | y :: r => by
    unfold insS
    split
    · exact ((ins_perm x r).cons y).trans (List.Perm.swap x y r)
    · exact .refl _
theorem ins_pw (x : Str) : ∀ l : List Str, l.Pairwise LeS → (insS x l).Pairwise LeS
  | [], _ => List.pairwise_singleton _ _
  | y :: r, h => by
    obtain ⟨h1, h2⟩ := List.pairwise_cons.mp h
    unfold insS
    split
    · rename_i c
      refine List.pairwise_cons.mpr ⟨fun z hz => ?_, ins_pw x r h2⟩
      rcases List.mem_cons.mp ((ins_perm x r).mem_iff.mp hz) with rfl | hz
      · show ltCps z.cps.toList y.cps.toList = false
        by_cases e : ltCps z.cps.toList y.cps.toList = true
        · exact (lt_two _ _ c e).elim
        · exact Bool.eq_false_iff.mpr e
      · exact h1 z hz
    · rename_i c
      have xy : LeS x y := Bool.eq_false_iff.mpr c
      refine List.pairwise_cons.mpr ⟨fun z hz => ?_, h⟩
      rcases List.mem_cons.mp hz with rfl | hz
      · exact xy
      · exact xy.tr (h1 z hz)
def srtS : List Str → List Str
  | [] => []
  | x :: l => insS x (srtS l)
theorem srt_perm : ∀ l : List Str, (srtS l).Perm l
  | [] => .refl _
  | x :: l => (ins_perm x _).trans ((srt_perm l).cons x)
theorem srt_pw : ∀ l : List Str, (srtS l).Pairwise LeS
  | [] => .nil
  | x :: l => ins_pw x _ (srt_pw l)
theorem srt_is {l ys : List Str} (p : ys.Perm l) (h : sortedS ys = true) : ys = srtS l := pw_same (sorted_pw h) (srt_pw l) (p.trans (srt_perm l).symm)
/-- the same members, in order -/
theorem srt_eq {l m : List Str} (h : l.Nodup) (k : m.Nodup) (e : ∀ x, x ∈ l ↔ x ∈ m) : srtS l = srtS m :=
  pw_same (srt_pw l) (srt_pw m) ((srt_perm l).trans (((List.perm_ext_iff_of_nodup h k).mpr e).trans (srt_perm m).symm))
end Ev

/-! ## Items, taken apart -/
namespace Ev
open PySem PySem.Spec PyProof.Rows L2
theorem dec_str (x : Str) : decide (V.str x = V.str x) = true := decide_eq_true rfl
theorem dec_ll : decide (V.str "loop" = V.str "line") = false := decide_eq_false fun h => absurd (V.str.inj h) (by decide)
theorem s_ret2 {r1 r2 : List V → Hp → VK → Prop} {te : TE} {D : Ends} {σ : L2.St} {H : Hp} (h : te σ H fun x H1 => r2 [x] H1 fun y H2 => r1 [y] H2 D.rt) : tRet (tCB r1 (tCons (tCB r2 (tCons te tNil)) tNil)) D σ H := h
theorem abs_lt {t : Int} {B : Nat} (h0 : 0 ≤ t) (h1 : t < (2 ^ B : Nat)) : t.natAbs < 2 ^ B := by omega
/-- an item, taken apart -/
theorem da_line {K : PySem.W.Frag} {H : Hp} {v : V} {x : Str} {t : Int} (h : Da K H v (It.d (.line x t))) : ∃ b, v = .ref b ∧ SqT K H b [.str "line", .str x, .int t] := by
  rw [It.d] at h
  cases h with
  | @tup b xs _ hs ha =>
  cases ha with
  | cons h1 ha =>
  cases ha with
  | cons h2 ha =>
  cases ha with
  | cons h3 ha =>
  cases ha
  cases h1
  cases h2
  cases h3
  exact ⟨b, rfl, hs⟩
theorem da_loop {K : PySem.W.Frag} {H : Hp} {v : V} {r : Int} {is : List It} (h : Da K H v (It.d (.loop r is))) : ∃ b w, v = .ref b ∧ SqT K H b [.str "loop", .int r, w] ∧ Da K H w (.tuple (is.map It.d)) := by
  rw [It.d, Its.d_map] at h
  cases h with
  | @tup b xs _ hs ha =>
  cases ha with
  | cons h1 ha =>
  cases ha with
  | cons h2 ha =>
  cases ha with
  | @cons w _ _ _ h3 ha =>
  cases ha
  cases h1
  cases h2
  exact ⟨b, w, rfl, hs, h3⟩
theorem da_prog {K : PySem.W.Frag} {H : Hp} {v : V} {ds : List PyData} (h : Da K H v (.tuple ds)) : ∃ a xs, v = .ref a ∧ SqT K H a xs ∧ DaAll K H xs ds := by
  cases h with
  | tup hs ha => exact ⟨_, _, rfl, hs, ha⟩
theorem sp_take {r : Int} {is : List It} {i : Nat} {it : It} (h : is[i]? = some it) : Its.sp r (is.take (i + 1)) = Its.sp r (is.take i) ++ It.sp r it := by
  rw [List.take_add_one, h, Its.sp_app]
  show _ ++ Its.sp r [it] = _
  rw [Its.sp_one]
theorem nl_take {is : List It} {i : Nat} {it : It} (h : is[i]? = some it) : Its.nl (is.take i) + It.nl it ≤ Its.nl is := by
  have e : is = is.take i ++ is.drop i := (List.take_append_drop i is).symm
  obtain ⟨hi, hx⟩ := List.getElem?_eq_some_iff.mp h
  rw [List.drop_eq_getElem_cons hi, hx] at e
  have z := congrArg Its.nl e
  rw [Its.nl_app, Its.nl] at z
  omega
section
variable {P : Program} {w : World} {K : PySem.W.Frag} {mg : Str → Option Value} {base : Heap}
theorem no_fn {CX : CXT} {k : Nat} {f : Addr} {fd : FuncData} {ps : List Str} : FnOk P w K mg base CX k f fd ps (fun _ _ _ _ => False) :=
  ⟨fun _ _ _ _ h => h.elim, fun _ _ _ _ _ _ _ _ _ _ _ _ _ h => h.elim⟩
/-- what a program must be, to be asked about -/
structure Prg (K : PySem.W.Frag) (B dep : Nat) (H : Hp) (x : V) (is : List It) : Prop where
  da : Da K H x (.tuple (is.map It.d))
  ok : ∀ i ∈ is, Okp B dep i
  few : Its.nl is ≤ 100000
theorem Prg.same {B dep : Nat} {H H' : Hp} {x : V} {is : List It} (h : Prg K B dep H x is) (s : Same H H') : Prg K B dep H' x is := ⟨h.da.mono s, h.ok, h.few⟩
/-- bounds for numbers -/
def Room2 (B dep : Nat) : Prop := 0 < B ∧ 64 + (dep + 1) * B ≤ 900000
def lenI (is : List It) : Int := ((Its.sp 1 is).map (·.2)).sum
end
def linesI (is : List It) : List Str := srtS (uniq [] ((Its.sp 1 is).map (·.1)))
end Ev

/-! ## How long a text of data is; whiles; items as tuples -/
namespace Ev
open PySem PySem.Spec PyProof.Rows L2
/-- a while by an invariant with a number that falls -/
theorem while_w {c : TT} {tb : TS} {D : Ends} {σ : L2.St} {H : Hp} (W : Nat → L2.St → Hp → Prop) (h0 : ∃ m, W m σ H)
    (hs : ∀ m σ H, W m σ H → c σ H fun b H1 => if b = true then tb { D with nx := fun σ' H' => ∃ m', m' < m ∧ W m' σ' H', ct := fun σ' H' => ∃ m', m' < m ∧ W m' σ' H', bk := D.nx } σ H1 else D.nx σ H1)
    (mono : ∀ σ H Q Q', (∀ b H1, Q b H1 → Q' b H1) → c σ H Q → c σ H Q') : tWhile c tb D σ H := by
  refine ⟨W, h0, fun m σ' H' w => mono σ' H' _ _ (fun b H1 h => ?_) (hs m σ' H' w)⟩
  by_cases e : b = true
  · rw [if_pos e] at h ⊢
    exact ⟨_, fun σ2 H2 n => n, h⟩
  · rw [if_neg e] at h ⊢
    exact h
mutual
def It.sz : It → Nat
  | .line _ _ => 1
  | .loop _ is => 1 + Its.sz is
def Its.sz : List It → Nat
  | [] => 0
  | i :: is => It.sz i + Its.sz is
end
theorem sz_mem : ∀ {is : List It} {i : It}, i ∈ is → It.sz i ≤ Its.sz is
  | j :: is, i, h => by
    rw [Its.sz]
    rcases List.mem_cons.mp h with rfl | h
    · exact Nat.le_add_right _ _
    · exact Nat.le_trans (sz_mem h) (Nat.le_add_left _ _)
theorem drop_one {is : List It} {i : Nat} {it : It} (h : is[i]? = some it) : (is.drop i).take 1 = [it] := by
  obtain ⟨hi, hx⟩ := List.getElem?_eq_some_iff.mp h
  rw [List.drop_eq_getElem_cons hi, hx]
  rfl
theorem atI_of {xs : List V} {i : Nat} {v : V} (h : xs[i]? = some v) : atI xs (i : Nat) = some v := atI_nat h
section
variable {K : PySem.W.Frag}
/-- a part of a program -/
theorem Prg.part {B dep : Nat} {H : Hp} {u x : V} {is js : List It} (hp : Prg K B dep H x is) (hu : Da K H u (.tuple (js.map It.d))) (hm : ∀ i ∈ js, i ∈ is) (hn : Its.nl js ≤ Its.nl is) : Prg K B dep H u js :=
  ⟨hu, fun i hi => hp.ok i (hm i hi), Nat.le_trans hn hp.few⟩
theorem nl_take_le (is : List It) (n : Nat) : Its.nl (is.take n) ≤ Its.nl is := by
  have z := congrArg Its.nl (List.take_append_drop n is)
  rw [Its.nl_app] at z
  omega
theorem nl_drop_le (is : List It) (n : Nat) : Its.nl (is.drop n) ≤ Its.nl is := by
  have z := congrArg Its.nl (List.take_append_drop n is)
  rw [Its.nl_app] at z
  omega
theorem map_take {α β : Type} (f : α → β) (l : List α) (n : Nat) : (l.map f).take n = (l.take n).map f := (List.map_take ..).symm
end
structure Sz (e w : Nat) (d : PyData) : Prop where
  sh : d.showable = true
  ls : d.leavesShort 1000 = true
  dp : d.depth ≤ e
  wt : d.weight ≤ w
theorem Sz.up {e e' w w' : Nat} {d : PyData} (h : Sz e w d) (he : e ≤ e') (hw : w ≤ w') : Sz e' w' d := ⟨h.sh, h.ls, Nat.le_trans h.dp he, Nat.le_trans h.wt hw⟩
theorem Sz.fits {e w : Nat} {d : PyData} (h : Sz e w d) (he : e ≤ 64) (hw : w ≤ 16000) : d.showable = true ∧ d.depth ≤ 64 ∧ d.shown.length ≤ sizeLine := by
  refine ⟨h.sh, Nat.le_trans h.dp he, ?_⟩
  have z := PyData.shown_le 1000 (by decide) d h.ls
  have y := sizeLine_eq
  have h1 : (1000 + 2) * d.weight ≤ 1002 * 16000 := Nat.mul_le_mul_left _ (Nat.le_trans h.wt hw)
  omega
theorem sz_int {i : Int} {k : Nat} (h : i.natAbs < 2 ^ k) (h0 : 0 < k) (hk : k ≤ 900) : Sz 0 k (.int i) := by
  have hl := PySem.Flt.log2_lt_of h0 h
  refine ⟨?_, ?_, ?_, ?_⟩
  · rw [PyData.showable]
    exact decide_eq_true (by omega)
  · rw [PyData.leavesShort]
    refine decide_eq_true ?_
    have z := int_text_length_le h0 hl
    have e : (PyData.shown (.int i)).length = (toString i).length := by
      rw [PyData.shown, PySem.ofString_length]
    omega
  · rw [PyData.depth]
    exact Nat.le_refl _
  · rw [PyData.weight]
    split <;> omega
theorem sz_str {x : Str} {n : Nat} (h : x.cps.size ≤ n) (hc : (x.cps.toList.all fun c => decide (c < 16 ^ 8)) = true) : Sz 0 n (.str x) := by
  refine ⟨by rw [PyData.showable], ?_, ?_, ?_⟩
  · rw [PyData.leavesShort]
    exact hc
  · rw [PyData.depth]
    exact Nat.le_refl _
  · rw [PyData.weight]
    exact h
theorem sz_all {e w : Nat} : ∀ {ds : List PyData}, (∀ d ∈ ds, Sz e w d) → PyData.showableAll ds = true ∧ PyData.leavesShortAll 1000 ds = true ∧ PyData.depthAll ds ≤ e ∧ PyData.weightAll ds ≤ ds.length * (w + 1)
  | [], _ => by
    refine ⟨by rw [PyData.showableAll], by rw [PyData.leavesShortAll], ?_, ?_⟩
    · rw [PyData.depthAll]
      exact Nat.zero_le _
    · rw [PyData.weightAll]
      exact Nat.zero_le _
  | d :: ds, h => by
    obtain ⟨h1, h2, h3, h4⟩ := h d (List.mem_cons_self ..)
    obtain ⟨k1, k2, k3, k4⟩ := sz_all fun x hx => h x (List.mem_cons_of_mem _ hx)
    refine ⟨by rw [PyData.showableAll, h1, k1]; rfl, by rw [PyData.leavesShortAll, h2, k2]; rfl, ?_, ?_⟩
    · rw [PyData.depthAll]
      exact Nat.max_le.mpr ⟨h3, k3⟩
    · rw [PyData.weightAll, List.length_cons, Nat.succ_mul]
      omega
theorem sz_tup {e w : Nat} {ds : List PyData} (h : ∀ d ∈ ds, Sz e w d) : Sz (e + 1) (ds.length * (w + 1)) (.tuple ds) := by
  obtain ⟨k1, k2, k3, k4⟩ := sz_all h
  refine ⟨by rw [PyData.showable]; exact k1, by rw [PyData.leavesShort]; exact k2, ?_, by rw [PyData.weight]; exact k4⟩
  rw [PyData.depth]
  omega
theorem sz_lst {e w : Nat} {ds : List PyData} (h : ∀ d ∈ ds, Sz e w d) : Sz (e + 1) (ds.length * (w + 1)) (.list ds) := by
  obtain ⟨k1, k2, k3, k4⟩ := sz_all h
  refine ⟨by rw [PyData.showable]; exact k1, by rw [PyData.leavesShort]; exact k2, ?_, by rw [PyData.weight]; exact k4⟩
  rw [PyData.depth]
  omega
def nmB (x : Str) : Bool := (decide (x.cps.size ≤ 8) && x.cps.toList.all fun c => decide (c < 16 ^ 8)) && PyData.strOk x
theorem nm_sz {x : Str} (h : nmB x = true) : Sz 0 8 (.str x) := by
  unfold nmB at h
  rw [Bool.and_eq_true, Bool.and_eq_true] at h
  exact sz_str (of_decide_eq_true h.1.1) h.1.2
theorem nm_ok {x : Str} (h : nmB x = true) : PyData.strOk x = true := by
  unfold nmB at h
  rw [Bool.and_eq_true] at h
  exact h.2
mutual
/-- names and numbers are short -/
def It.nm : It → Prop
  | .line x t => nmB x = true ∧ t.natAbs < 2 ^ 128
  | .loop r is => r.natAbs < 2 ^ 128 ∧ Its.nm is
def Its.nm : List It → Prop
  | [] => True
  | i :: is => It.nm i ∧ Its.nm is
end
mutual
def It.ni : It → Nat
  | .line _ _ => 1
  | .loop _ is => 1 + Its.ni is
def Its.ni : List It → Nat
  | [] => 0
  | i :: is => It.ni i + Its.ni is
end
theorem lit_sz : Sz 0 8 (.str "line") ∧ Sz 0 8 (.str "loop") := ⟨nm_sz (by decide +kernel), nm_sz (by decide +kernel)⟩
mutual
theorem It.szd : ∀ (n : Nat) (B : Nat) (i : It), Okp B n i → It.nm i → (It.d i).showable = true ∧ (It.d i).leavesShort 1000 = true ∧ (It.d i).depth ≤ 2 * n + 1 ∧ (It.d i).weight + 1 ≤ 165 * It.ni i
  | n, B, .line x t, _, h => by
    rw [It.nm] at h
    rw [It.d, It.ni]
    have z := sz_tup (e := 0) (w := 128) (ds := [.str "line", .str x, .int t]) fun d hd => by
      rcases List.mem_cons.mp hd with rfl | hd
      · exact lit_sz.1.up (Nat.le_refl _) (by decide)
      rcases List.mem_cons.mp hd with rfl | hd
      · exact (nm_sz h.1).up (Nat.le_refl _) (by decide)
      rcases List.mem_cons.mp hd with rfl | hd
      · exact sz_int h.2 (by decide) (by decide)
      cases hd
    refine ⟨z.sh, z.ls, Nat.le_trans z.dp (by omega), ?_⟩
    rw [PyData.weight, PyData.weightAll, PyData.weightAll, PyData.weightAll, PyData.weightAll]
    have w1 := lit_sz.1.wt
    have w2 := (nm_sz h.1).wt
    have w3 := (sz_int (i := t) h.2 (by decide) (by decide)).wt
    omega
  | 0, B, .loop r is, h, _ => h.elim
  | n + 1, B, .loop r is, ho, h => by
    rw [It.nm] at h
    obtain ⟨_, _, hj⟩ : 0 ≤ r ∧ r < (2 ^ B : Nat) ∧ ∀ i ∈ is, Okp B n i := ho
    obtain ⟨k1, k2, k3, k4⟩ := Its.szd n B is hj h.2
    have z1 := lit_sz.2
    have z2 := sz_int (i := r) h.1 (by decide) (by decide)
    rw [It.d, Its.d_map, It.ni]
    refine ⟨?_, ?_, ?_, ?_⟩
    · rw [PyData.showable, PyData.showableAll, PyData.showableAll, PyData.showableAll, PyData.showableAll, z1.sh, z2.sh]
      rw [PyData.showable, k1]
      rfl
    · rw [PyData.leavesShort, PyData.leavesShortAll, PyData.leavesShortAll, PyData.leavesShortAll, PyData.leavesShortAll, z1.ls, z2.ls]
      rw [PyData.leavesShort, k2]
      rfl
    · rw [PyData.depth, PyData.depthAll, PyData.depthAll, PyData.depthAll, PyData.depthAll]
      have d1 := z1.dp
      have d2 := z2.dp
      have d3 : (PyData.tuple (is.map It.d)).depth ≤ 2 * n + 2 := by
        rw [PyData.depth]
        omega
      have : max (PyData.str "loop").depth (max (PyData.int r).depth (max (PyData.tuple (is.map It.d)).depth 0)) ≤ 2 * n + 2 := by
        refine Nat.max_le.mpr ⟨by omega, Nat.max_le.mpr ⟨by omega, Nat.max_le.mpr ⟨d3, by omega⟩⟩⟩
      omega
    · rw [PyData.weight, PyData.weightAll, PyData.weightAll, PyData.weightAll, PyData.weightAll]
      rw [show (PyData.tuple (is.map It.d)).weight = PyData.weightAll (is.map It.d) by rw [PyData.weight]]
      have w1 := z1.wt
      have w2 := z2.wt
      have h5 : PyData.weightAll (is.map It.d) ≤ 165 * Its.ni is := k4
      omega
theorem Its.szd : ∀ (n : Nat) (B : Nat) (is : List It), (∀ i ∈ is, Okp B n i) → Its.nm is → PyData.showableAll (is.map It.d) = true ∧ PyData.leavesShortAll 1000 (is.map It.d) = true ∧ PyData.depthAll (is.map It.d) ≤ 2 * n + 1 ∧ PyData.weightAll (is.map It.d) ≤ 165 * Its.ni is
  | n, B, [], _, _ => by
    refine ⟨by rw [List.map_nil, PyData.showableAll], by rw [List.map_nil, PyData.leavesShortAll], ?_, ?_⟩
    · rw [List.map_nil, PyData.depthAll]
      exact Nat.zero_le _
    · rw [List.map_nil, PyData.weightAll]
      exact Nat.zero_le _
  | n, B, i :: is, ho, h => by
    rw [Its.nm] at h
    obtain ⟨h1, h2, h3, h4⟩ := It.szd n B i (ho i (List.mem_cons_self ..)) h.1
    obtain ⟨k1, k2, k3, k4⟩ := Its.szd n B is (fun j hj => ho j (List.mem_cons_of_mem _ hj)) h.2
    refine ⟨by rw [List.map_cons, PyData.showableAll, h1, k1]; rfl, by rw [List.map_cons, PyData.leavesShortAll, h2, k2]; rfl, ?_, ?_⟩
    · rw [List.map_cons, PyData.depthAll]
      exact Nat.max_le.mpr ⟨h3, k3⟩
    · rw [List.map_cons, PyData.weightAll, Its.ni]
      omega
end
theorem nm_of : ∀ {is : List It}, (∀ i ∈ is, It.nm i) → Its.nm is
  | [], _ => by
    rw [Its.nm]
    trivial
  | i :: is, h => by
    rw [Its.nm]
    exact ⟨h i (List.mem_cons_self ..), nm_of fun j hj => h j (List.mem_cons_of_mem _ hj)⟩
theorem ni_mul {W : Nat} : ∀ {is : List It}, (∀ i ∈ is, It.ni i ≤ W) → Its.ni is ≤ is.length * W
  | [], _ => by
    rw [Its.ni]
    exact Nat.zero_le _
  | i :: is, h => by
    rw [Its.ni, List.length_cons, Nat.succ_mul]
    have a := h i (List.mem_cons_self ..)
    have b := ni_mul fun j hj => h j (List.mem_cons_of_mem _ hj)
    omega
mutual
theorem It.nl_ni : ∀ i : It, It.nl i ≤ It.ni i
  | .line _ _ => by
    rw [It.nl, It.ni]
    exact Nat.le_refl _
  | .loop _ is => by
    rw [It.nl, It.ni]
    exact Nat.le_trans (Its.nl_ni is) (Nat.le_add_left _ _)
theorem Its.nl_ni : ∀ is : List It, Its.nl is ≤ Its.ni is
  | [] => by
    rw [Its.nl]
    exact Nat.zero_le _
  | i :: is => by
    rw [Its.nl, Its.ni]
    exact Nat.add_le_add (It.nl_ni i) (Its.nl_ni is)
end
mutual
theorem It.tupd : ∀ i : It, tupD (It.d i) = true
  | .line x t => by
    rw [It.d, tupD, tupDs, tupDs, tupDs, tupDs, tupD, tupD, tupD]
    rfl
    all_goals (intros; contradiction)
  | .loop r is => by
    rw [It.d, tupD, tupDs, tupDs, tupDs, tupDs, tupD, tupD, tupD, Its.tupd is]
    rfl
    all_goals (intros; contradiction)
theorem Its.tupd : ∀ is : List It, tupDs (Its.d is) = true
  | [] => by rw [Its.d, tupDs]
  | i :: is => by rw [Its.d, tupDs, It.tupd i, Its.tupd is]; rfl
end
theorem prog_tup (is : List It) : tupD (.tuple (is.map It.d)) = true := by
  rw [tupD, ← Its.d_map]
  exact Its.tupd is
theorem Bu.kt {p : Addr} {H H' : Hp} {xs : List V} (h : Bu p H H') (hp : H p = some (.lst xs)) : Kt H H' := fun b o e n => by
  refine h b o (fun z => ?_) e
  rw [z, hp] at e
  cases e
  exact n xs rfl
theorem Prg.kt {K : PySem.W.Frag} {B dep : Nat} {H H' : Hp} {x : V} {is : List It} (h : Prg K B dep H x is) (k : Kt H H') : Prg K B dep H' x is := ⟨h.da.kt k (prog_tup is), h.ok, h.few⟩
/-! ### the ticks, written out -/
mutual
def It.w : It → List Str
  | .line x t => List.replicate t.toNat x
  | .loop r is => (List.replicate r.toNat (Its.w is)).flatten
def Its.w : List It → List Str
  | [] => []
  | i :: is => It.w i ++ Its.w is
end
theorem w_app : ∀ is js : List It, Its.w (is ++ js) = Its.w is ++ Its.w js
  | [], js => by
    rw [List.nil_append, Its.w, List.nil_append]
  | i :: is, js => by
    rw [List.cons_append, Its.w, Its.w, w_app is js, List.append_assoc]
theorem w_one (i : It) : Its.w [i] = It.w i := by
  rw [Its.w, Its.w, List.append_nil]
mutual
/-- numbers from 0 -/
def It.nn : It → Prop
  | .line _ t => 0 ≤ t
  | .loop r is => 0 ≤ r ∧ Its.nn is
def Its.nn : List It → Prop
  | [] => True
  | i :: is => It.nn i ∧ Its.nn is
end
mutual
/-- numbers from 1, no empty loop -/
def It.ps : It → Prop
  | .line _ t => 1 ≤ t
  | .loop r is => 1 ≤ r ∧ is ≠ [] ∧ Its.ps is
def Its.ps : List It → Prop
  | [] => True
  | i :: is => It.ps i ∧ Its.ps is
end
mutual
theorem It.ps_nn : ∀ i : It, It.ps i → It.nn i
  | .line x t, h => by
    rw [It.ps] at h
    rw [It.nn]
    omega
  | .loop r is, h => by
    rw [It.ps] at h
    rw [It.nn]
    exact ⟨by omega, Its.ps_nn is h.2.2⟩
theorem Its.ps_nn : ∀ is : List It, Its.ps is → Its.nn is
  | [], _ => by
    rw [Its.nn]
    trivial
  | i :: is, h => by
    rw [Its.ps] at h
    rw [Its.nn]
    exact ⟨It.ps_nn i h.1, Its.ps_nn is h.2⟩
end
theorem ps_mem : ∀ {is : List It} {i : It}, Its.ps is → i ∈ is → It.ps i
  | j :: is, i, h, m => by
    rw [Its.ps] at h
    rcases List.mem_cons.mp m with rfl | m
    · exact h.1
    · exact ps_mem h.2 m
theorem ps_of : ∀ {is : List It}, (∀ i ∈ is, It.ps i) → Its.ps is
  | [], _ => by
    rw [Its.ps]
    trivial
  | i :: is, h => by
    rw [Its.ps]
    exact ⟨h i (List.mem_cons_self ..), ps_of fun j hj => h j (List.mem_cons_of_mem _ hj)⟩
theorem ps_take {is : List It} (h : Its.ps is) (n : Nat) : Its.ps (is.take n) := ps_of fun i hi => ps_mem h (List.mem_of_mem_take hi)
theorem ps_one {i : It} (h : It.ps i) : Its.ps [i] := ps_of fun j hj => by
  rw [List.mem_singleton.mp hj]
  exact h
theorem flat_count (x : Str) (l : List Str) : ∀ n : Nat, ((List.replicate n l).flatten.count x) = n * l.count x
  | 0 => by
    rw [List.replicate_zero, Nat.zero_mul]
    rfl
  | n + 1 => by
    rw [List.replicate_succ, List.flatten_cons, List.count_append, flat_count x l n, Nat.succ_mul]
    omega
theorem flat_len (l : List Str) : ∀ n : Nat, ((List.replicate n l).flatten.length) = n * l.length
  | 0 => by
    rw [List.replicate_zero, Nat.zero_mul]
    rfl
  | n + 1 => by
    rw [List.replicate_succ, List.flatten_cons, List.length_append, flat_len l n, Nat.succ_mul]
    omega
theorem mem_flat {x : Str} {l : List Str} {n : Nat} (h : 1 ≤ n) : x ∈ (List.replicate n l).flatten ↔ x ∈ l := by
  rw [List.mem_flatten]
  constructor
  · rintro ⟨m, h1, h2⟩
    rw [List.eq_of_mem_replicate h1] at h2
    exact h2
  · intro hx
    exact ⟨l, List.mem_replicate.mpr ⟨by omega, rfl⟩, hx⟩
mutual
theorem It.w_pos : ∀ i : It, It.ps i → 1 ≤ (It.w i).length
  | .line x t, h => by
    rw [It.ps] at h
    rw [It.w, List.length_replicate]
    omega
  | .loop r is, h => by
    rw [It.ps] at h
    rw [It.w, flat_len]
    have z := Its.w_pos is h.2.1 h.2.2
    have z2 : 1 * 1 ≤ r.toNat * (Its.w is).length := Nat.mul_le_mul (by omega) z
    omega
theorem Its.w_pos : ∀ is : List It, is ≠ [] → Its.ps is → 1 ≤ (Its.w is).length
  | [], n, _ => absurd rfl n
  | i :: is, _, h => by
    rw [Its.ps] at h
    rw [Its.w, List.length_append]
    have z := It.w_pos i h.1
    omega
end
/-- the ticks up to one within a loop -/
theorem flat_take {l : List Str} (hl : 1 ≤ l.length) : ∀ (n s : Nat), s < n * l.length → (List.replicate n l).flatten.take s = (List.replicate (s / l.length) l).flatten ++ l.take (s % l.length)
  | 0, s, h => by
    rw [Nat.zero_mul] at h
    omega
  | n + 1, s, h => by
    rw [List.replicate_succ, List.flatten_cons, List.take_append]
    by_cases c : s < l.length
    · rw [Nat.div_eq_of_lt c, Nat.mod_eq_of_lt c, Nat.sub_eq_zero_of_le (Nat.le_of_lt c)]
      simp
    · have e : s = (s - l.length) + l.length := by omega
      rw [Nat.succ_mul] at h
      have ih := flat_take hl n (s - l.length) (by omega)
      rw [List.take_of_length_le (by omega), ih]
      have d1 : s / l.length = (s - l.length) / l.length + 1 := by
        conv => lhs; rw [e]
        rw [Nat.add_div_right _ (by omega)]
      have d2 : s % l.length = (s - l.length) % l.length := by
        conv => lhs; rw [e]
        rw [Nat.add_mod_right]
      rw [d1, d2, List.replicate_succ, List.flatten_cons, List.append_assoc]
theorem flat_get {l : List Str} (hl : 1 ≤ l.length) : ∀ (n s : Nat), s < n * l.length → (List.replicate n l).flatten[s]? = l[s % l.length]?
  | 0, s, h => by
    rw [Nat.zero_mul] at h
    omega
  | n + 1, s, h => by
    rw [List.replicate_succ, List.flatten_cons]
    by_cases c : s < l.length
    · rw [List.getElem?_append_left c, Nat.mod_eq_of_lt c]
    · rw [Nat.succ_mul] at h
      rw [List.getElem?_append_right (by omega), flat_get hl n (s - l.length) (by omega)]
      congr 1
      exact (Nat.mod_eq_sub_mod (by omega)).symm
end Ev

/-! ## The numbers of a pot -/
namespace Ev
open PySem PySem.Spec PyProof.Rows L2
/-- the numbers of a pot out of which at most n draws came by reckoning -/
def PotL (n : Nat) (xs : List V) : Prop := ∃ x y c : Int, xs = [.int x, .int y, .int c] ∧ 0 ≤ x ∧ 0 ≤ y ∧ y < 2305843009213693921 ∧ 0 ≤ c ∧ c ≤ n
theorem own_nn (z m : Int) (b : Bool) (h : 0 < m) : 0 ≤ z % m * (if b = true then 1 else 0) := by
  refine Int.mul_nonneg (Int.emod_nonneg _ (by omega)) ?_
  cases b <;> decide
theorem flag_in (b : Bool) : -(2 ^ 64) < (if b = true then 1 else 0 : Int) ∧ (if b = true then 1 else 0 : Int) < 2 ^ 64 := by
  cases b <;> decide
theorem seq_nn {d : Int} {n : Nat} (h0 : 0 ≤ d) (h1 : d < n) : seqIndex? d n = some d.toNat := by
  unfold seqIndex?
  simp only []
  first
    | (rw [if_neg (by omega), if_pos (by omega)])
    | (split <;> simp_all <;> omega)
    | omega
/-- what len of a list or a tuple asks -/
def rLenK (K : PySem.W.Frag) : List V → Hp → VK → Prop := fun xs H Q => ∃ p ys, xs = [V.ref p] ∧ (SqL K H p ys ∨ SqT K H p ys) ∧ Q (.int (ys.length : Nat)) H
/-- what is tracked in H' and was not in H -/
def newer (H H' : Hp) : Hp := fun b => if H b = none then H' b else none
theorem newer_at {H H' : Hp} {b : Addr} (h : H b = none) : newer H H' b = H' b := if_pos h
theorem newer_le {A B A' B' : Hp} (h1 : ∀ b, A b = none → A' b = none) (h2 : ∀ b o, A b = none → B b = some o → B' b = some o) : Same (newer A B) (newer A' B') := fun b o e => by
  by_cases hb : A b = none
  · rw [newer_at hb] at e
    rw [newer_at (h1 b hb)]
    exact h2 b o hb e
  · have z : newer A B b = none := if_neg hb
    rw [z] at e
    cases e
theorem newer_sub {H H' : Hp} (h : ∀ b o, H b = none → H' b = some o → H' b = some o) : Same (newer H H') H' := fun b o e => by
  by_cases hb : H b = none
  · rw [newer_at hb] at e
    exact e
  · have z : newer H H' b = none := if_neg hb
    rw [z] at e
    cases e
theorem daAll_append {K : PySem.W.Frag} {H : Hp} {v : V} {d : PyData} (h : Da K H v d) : ∀ {vs : List V} {ds : List PyData}, DaAll K H vs ds → DaAll K H (vs ++ [v]) (ds ++ [d])
  | _, _, .nil => .cons h .nil
  | _, _, .cons a t => .cons a (daAll_append h t)
/-- tracked things stay tracked -/
theorem Bu.dom {p : Addr} {H H' : Hp} {o : HO} (h : Bu p H H') (hp : H' p = some o) (b : Addr) (e : H' b = none) : H b = none := by
  cases q : H b with
  | none => rfl
  | some u =>
    by_cases z : b = p
    · rw [z, hp] at e
      cases e
    · rw [h b u z q] at e
      cases e
theorem dom1 {p l : Addr} {H H' : Hp} {o1 o2 o3 : HO} (h : Bu p H H') (hp : H' p = some o1) (hl : H' l = some o2) {t : Addr} (e : H' t = none) : upd H l o3 t = none := by
  have ntl : t ≠ l := fun z => by
    rw [z, hl] at e
    cases e
  rw [upd_ne ntl]
  exact h.dom hp t e
theorem log_le {m : Int} (h1 : 1 ≤ m) (h2 : m ≤ 10 ^ 18) : m.natAbs.log2 < 9000 :=
  Nat.lt_of_lt_of_le (PySem.Flt.log2_lt_of (show 0 < 64 by decide) (show m.natAbs < 2 ^ 64 by omega)) (by decide)
theorem PotL.up {n m : Nat} {xs : List V} (h : PotL n xs) (k : n ≤ m) : PotL m xs := by
  obtain ⟨x, y, c, h1, h2, h3, h4, h5, h6⟩ := h
  exact ⟨x, y, c, h1, h2, h3, h4, h5, by omega⟩
theorem bu_seq {K : PySem.W.Frag} {p q : Addr} {H H' : Hp} {zs : List V} (n : q ≠ p) (h : Bu p H H') (s : SqL K H q zs) : SqL K H' q zs := by
  rcases s with (e | ⟨o, e⟩) | e
  · exact .inl (.inl (h _ _ n e))
  · exact .inl (.inr ⟨o, h _ _ n e⟩)
  · exact .inr e
end Ev

/-! ## isinstance of any datum; slices of tuples -/
namespace Ev
open PySem PySem.Spec PyProof.Rows L2
def tyD : PyData → String
  | .none => "NoneType"
  | .bool _ => "bool"
  | .int _ => "int"
  | .str _ => "str"
  | .list _ => "list"
  | .tuple _ => "tuple"
  | .dict _ => "dict"
theorem Da.ty {K : PySem.W.Frag} {H : Hp} {x : V} {d : PyData} (h : Da K H x d) : TyX K H x (.type (tyD d)) := by
  cases h with
  | non => exact .base .non
  | bl b => exact .base (.bl b)
  | int i => exact .base (.int i)
  | str x => exact .base (.str x)
  | lst hs ha =>
    rcases hs with (e | ⟨o, e⟩) | ⟨o, its, n, e, hc, _⟩
    · exact .base (.lst e)
    · exact .base (.frz e)
    · exact .kList e hc
  | tup hs ha =>
    rcases hs with (e | ⟨o, e⟩) | ⟨o, its, n, e, hc, _⟩
    · exact .base (.tup e)
    · exact .fTuple e
    · exact .kTuple e hc
  | dic e hk => exact .base (.dK e)
def isD (T : String) (d : PyData) : Bool := (kitB (tyD d) T).getD false
def OkT (T : String) : Prop := T = "int" ∨ T = "bool" ∨ T = "tuple" ∨ T = "str"
theorem kit_D {T : String} (hT : OkT T) (d : PyData) : kitB (tyD d) T = some (isD T d) := by
  rcases hT with rfl | rfl | rfl | rfl <;> cases d <;> kernel_rfl
theorem isD_int (d : PyData) : isD "int" d = (match d with | .int _ => true | .bool _ => true | _ => false) := by
  cases d <;> kernel_rfl
theorem isD_bool (d : PyData) : isD "bool" d = (match d with | .bool _ => true | _ => false) := by
  cases d <;> kernel_rfl
theorem isD_tuple (d : PyData) : isD "tuple" d = (match d with | .tuple _ => true | _ => false) := by
  cases d <;> kernel_rfl
theorem isD_str (d : PyData) : isD "str" d = (match d with | .str _ => true | _ => false) := by
  cases d <;> kernel_rfl
def tIsT (K : PySem.W.Frag) (T : String) (i : Nat) : TE := fun σ H Q => ∃ (x : V) (d : PyData), σ[i]? = some (some x) ∧ Da K H x d ∧ Q (.bl (isD T d)) H
section
variable {X : Cx} {x y : Str} {i : Nat} {p1 p2 q1 q2 : Pos}
theorem pe_isT {T : String} (hT : OkT T) (m : X.mg "isinstance" = none) (hv : ∀ pos, PE X (.Name y pos) (tVar i)) (hx : ∀ pos, PE X (.Name x pos) (tC (.ty T))) (hg : Gl X "isinstance" := by rfl) :
    PE X (.Call (.Name "isinstance" p1) [.Name y q1, .Name x q2] [] p2) (tIsT X.K T i) := by
  refine PE.imp (pe_callB call_isi hg m (by decide +kernel) (pa_cons (hv q1) (pa_cons (hx q2) pa_nil))) ?_
  rintro σ H Q ⟨x, d, h1, h2, h3⟩
  exact ⟨x, h1, x, .ty T, .type (tyD d), .type T, isD T d, rfl, .ty T, h2.ty, kit_ty (kit_D hT d), h3⟩
end
section
variable {K : PySem.W.Frag} {H0 : Hp} {σ : L2.St} {i : Nat} {x : V} {d : PyData} {T : String} {b c : Bool} {tt uu : TT} {t rest : TS} {D : Ends}
theorem t_isT (h : σ[i]? = some (some x)) (hd : Da K H0 x d) : GivesT H0 (tB (tIsT K T i)) (isD T d) σ := fun H Q s q => ⟨x, d, h, hd.mono s, _, rfl, q H Same.rfl'⟩
end
def intD (lo hi : Int) : PyData → Bool
  | .int i => decide (lo ≤ i) && decide (i ≤ hi)
  | _ => false
theorem ty_of {X : Cx} {x : Str} {T : String} {pos : Pos} (hg : Gl X x) (hm : X.mg x = none) (hb : bootBuiltins x = some (.type T)) (hn : x ≠ "__name__" := by decide) (hd : (x == ("__debug__" : Str)) = false := by decide) :
    PE X (.Name x pos) (tC (.ty T)) := pe_bltn (v := .ty T) hg hm hb (show RelV (.ty T) (.type T) from rfl) hn hd
def cutD (ds : List PyData) (lo hi : Option Int) : List PyData := (ds.drop (HT.sIx ds.length 0 lo)).take (HT.sIx ds.length ds.length hi - HT.sIx ds.length 0 lo)
theorem cut_to (ds : List PyData) (i : Nat) : cutD ds none (some (i : Nat)) = ds.take i := by
  unfold cutD
  rw [HT.sIx_none, HT.sIx_nat, List.drop_zero, Nat.sub_zero]
  by_cases h : i ≤ ds.length
  · rw [Nat.min_eq_left h]
  · rw [Nat.min_eq_right (by omega), List.take_of_length_le (by omega), List.take_of_length_le (by omega)]
theorem cut_mid (ds : List PyData) (i j : Nat) : cutD ds (some (i : Nat)) (some (j : Nat)) = (ds.drop i).take (j - i) := by
  unfold cutD
  rw [HT.sIx_nat, HT.sIx_nat]
  by_cases h : i ≤ ds.length
  · rw [Nat.min_eq_left h]
    by_cases k : j ≤ ds.length
    · rw [Nat.min_eq_left k]
    · rw [Nat.min_eq_right (by omega), List.take_of_length_le (by rw [List.length_drop]; omega), List.take_of_length_le (by rw [List.length_drop]; omega)]
  · have e : min i ds.length = ds.length := Nat.min_eq_right (by omega)
    rw [e, List.drop_of_length_le (Nat.le_refl _), List.drop_of_length_le (show ds.length ≤ i by omega), List.take_nil, List.take_nil]
theorem daAll_take {K : PySem.W.Frag} {H : Hp} : ∀ {vs : List V} {ds : List PyData} (n : Nat), DaAll K H vs ds → DaAll K H (vs.take n) (ds.take n)
  | _, _, 0, _ => .nil
  | _, _, _ + 1, .nil => .nil
  | _, _, n + 1, .cons a t => .cons a (daAll_take n t)
theorem daAll_drop {K : PySem.W.Frag} {H : Hp} : ∀ {vs : List V} {ds : List PyData} (n : Nat), DaAll K H vs ds → DaAll K H (vs.drop n) (ds.drop n)
  | _, _, 0, h => h
  | _, _, _ + 1, .nil => .nil
  | _, _, n + 1, .cons _ t => daAll_drop n t
/-- a slice of a tuple -/
theorem sl_val {K : PySem.W.Frag} {H : Hp} {x : V} {ds : List PyData} {lo hi : Option Int} {Q : VK} (hd : Da K H x (.tuple ds)) (q : ∀ H' u, Same H H' → Da K H' u (.tuple (cutD ds lo hi)) → Q u H') : rSlA K x lo hi H Q := by
  cases hd with
  | @tup a xs _ hs ha =>
  have hl := daAll_len ha
  refine ⟨a, xs, rfl, hs, fun e => ?_, fun e r nr => ?_⟩
  · refine q _ _ Same.rfl' ?_
    have z : cutD ds lo hi = ds := by
      unfold cutD
      rw [← hl, e.1, e.2, hl, List.drop_zero, Nat.sub_zero, List.take_length]
    rw [z]
    exact .tup hs ha
  · refine q _ _ (same_put nr) (.tup (xs := cutV xs lo hi) (.inl (.inl upd_same)) ?_)
    have z := (daAll_take (HT.sIx xs.length xs.length hi - HT.sIx xs.length 0 lo) (daAll_drop (HT.sIx xs.length 0 lo) ha)).mono (same_put (o := .tup (cutV xs lo hi)) nr)
    unfold cutV cutD
    rw [← hl]
    exact z
theorem cut_from (ds : List PyData) (i : Nat) : cutD ds (some (i : Nat)) none = ds.drop i := by
  unfold cutD
  rw [HT.sIx_none, HT.sIx_nat]
  by_cases h : i ≤ ds.length
  · rw [Nat.min_eq_left h, List.take_of_length_le (by rw [List.length_drop]; exact Nat.le_refl _)]
  · rw [Nat.min_eq_right (by omega), List.drop_of_length_le (Nat.le_refl _), List.drop_of_length_le (by omega), List.take_nil]
end Ev

/-! ## Defs by name: what stands there, and what it promises -/
namespace Ev
open PySem PySem.Spec PyProof.Rows L2
/-- a def of the module -/
structure Def (K : PySem.W.Frag) (mg : Str → Option Value) (x : Str) (st : Stmt) (ps : List Str) : Prop where
  ex : ∃ (f : Addr) (fd : FuncData), Fun K x x st f fd ∧ Binds K fd ps [] ∧ mg x = some (.ref f)
/-- a def that keeps a promise, ready to be called -/
structure Cal (P : Program) (w : World) (K : PySem.W.Frag) (mg : Str → Option Value) (base : Heap) (k : Nat) (x : Str) (ps : List Str) (sp : Sp) : Prop where
  ex : ∃ (f : Addr) (fd : FuncData), FnG P w K mg base CX0 k f fd ps sp ∧ Binds K fd ps [] ∧ mg x = some (.ref f) ∧ PySem.W.keepIn K (.ref f) = true
section
variable {P : Program} {w : World} {K : PySem.W.Frag} {mg : Str → Option Value} {base : Heap} {x : Str} {st : Stmt} {ps N : List Str} {sp : Sp} {k j : Nat}
theorem Cal.up (C : Cal P w K mg base j x ps sp) (h : j ≤ k) : Cal P w K mg base k x ps sp := by
  obtain ⟨f, fd, F, b, m, v⟩ := C.ex
  exact ⟨f, fd, F.up h, b, m, v⟩
theorem Cal.of {f : Addr} {fd : FuncData} (F : FnOk P w K mg base CX0 k f fd ps sp) (b : Binds K fd ps []) (m : mg x = some (.ref f)) (v : PySem.W.keepIn K (.ref f) = true) : Cal P w K mg base k x ps sp :=
  ⟨f, fd, .of F, b, m, v⟩
theorem Def.ok (D : Def K mg x st ps) (S : FnScope N ps (defScope st)) (len : ∀ vs H Q E, sp vs H Q E → vs.length = ps.length)
    (hbody : ∀ (f : Addr) (cdv : Value) (A : Around) (outer : List Env) (s : Shared) (H : Hp) (vs : List V) (Q : VK) (E : XK),
      Room k (A.deeper (envOfC x (defScope st) s.heap.objs.size f cdv)) → A.guards = some [] → sp vs H Q E →
      ∃ t, PSs (cxOf CX0 P w K mg base N x (defScope st) f cdv A outer s H E).nox (defBody st) t ∧
        t { nx := fun _ H' => Q .non H', rt := Q } (start N vs) H) : Cal P w K mg base (k + 1) x ps sp := by
  obtain ⟨f, fd, F, b, m⟩ := D.ex
  exact ⟨f, fd, okG F S len (hbody f), b, m, F.kp⟩
theorem no_cal (D : Def K mg x st ps) : Cal P w K mg base k x ps (fun _ _ _ _ => False) := by
  obtain ⟨f, fd, F, b, m⟩ := D.ex
  exact ⟨f, fd, .of no_fn, b, m, F.kp⟩
end
section
variable {X : Cx} {k : Nat} {ps : List Str} {sp : Sp} {x : Str} {p pos : Pos} {e : Expr} {es : List Expr} {t : TA}
theorem pcall (C : Cal X.prog X.w X.K X.mg X.base k x ps sp) (hr : Room k X.A) (gd : X.A.guards = some []) (hg : Gl X x) (ha : PA X (e :: es) t)
    (hdb : (x == ("__debug__" : Str)) = false := by decide) (he : starEach (e :: es) X.env = (false, eval e X.env) :: starEach es X.env := by rfl)
    (hpl : (backTo pos (starEach es X.env)).any (·.1) = false := by rfl) : PE X (.Call (.Name x p) (e :: es) [] pos) (tCall sp [] E0 t) := by
  obtain ⟨f, fd, F, hb, hm, hk⟩ := C.ex
  exact pe_callG F hr gd hg hm hk hb .nil pass0 ha hdb he hpl
theorem pcall0 (C : Cal X.prog X.w X.K X.mg X.base k x ps sp) (hr : Room k X.A) (gd : X.A.guards = some []) (hg : Gl X x)
    (hdb : (x == ("__debug__" : Str)) = false := by decide) : PE X (.Call (.Name x p) [] [] pos) (tCall sp [] E0 tNil) := by
  obtain ⟨f, fd, F, hb, hm, hk⟩ := C.ex
  exact pe_callG0 F hr gd hg hm hk hb .nil pass0 hdb
end
theorem hu70 {A : Around} {k : Nat} (hr : Room k A) : A.units + 70 < cLine := by
  have := hr.un
  omega
/-- built-in names that the module leaves alone -/
def nbs : List Str := ["len", "abs", "int", "bool", "isinstance", "range", "max", "min", "sum", "repr", "divmod", "tuple", "sorted", "set", "enumerate", "zip", "list", "dict", "any", "all", "str", "reversed"]
def NB (mg : Str → Option Value) : Prop := ∀ x ∈ nbs, mg x = none
theorem NB.at {mg : Str → Option Value} (h : NB mg) {x : Str} (hx : nbs.contains x = true := by decide +kernel) : mg x = none := h x (List.contains_iff_mem.mp hx)
/-! ### is_whole, is_integer_within -/
def spWh (K : PySem.W.Frag) : Sp := fun vs H Q _ => ∃ (x : V) (d : PyData), vs = [x] ∧ Da K H x d ∧ Q (.bl (isD "int" d && !isD "bool" d)) H
def spIn (K : PySem.W.Frag) : Sp := fun vs H Q _ => ∃ (x : V) (d : PyData) (lo hi : Int), vs = [x, .int lo, .int hi] ∧ Da K H x d ∧ ∀ H', Same H H' → Q (.bl (intD lo hi d)) H'
/-! ### tuple * 0, tuple * 1 -/
theorem tuple_mul1 (l : Addr) (items : Array Value) (n : Nat) (dd : Option Addr) (sl : Array (Option Value)) (x : Int) (u : Tok) (c0 : (decide (x < -(2 ^ 63)) || decide (x ≥ 2 ^ 63)) = false) (c1 : (items.isEmpty || x == 1) = true) :
    Meets (Builtin.«tuple.__mul__» ⟨[.ref l, .int x u], []⟩) (fun _ R s => s.heap.get? l = some { cls := .type "tuple", dict := dd, data := .seq items n, slots := sl } ∧
      R (.ok (.ret (Value.ref l))) s) :=
  .of_wp fun prog w A R s h => by
    obtain ⟨hp, g, d, tk, os⟩ := s
    obtain ⟨hl, h⟩ := h
    have f1 := AutoSeq1.idx_int
    wp_walk using wpAny_loadPart' hl
    repeat (first
      | (refine wpAny_ite_false (decide_eq_false (by rw [c0]; exact Bool.false_ne_true)) ?_; wp_walk using wpAny_loadPart' hl)
      | (refine wpAny_ite_true (decide_eq_true c1) ?_; wp_walk using wpAny_loadPart' hl))
    exact ⟨_, rfl, h⟩
theorem tuple_mul0 (l : Addr) (items : Array Value) (n : Nat) (dd : Option Addr) (sl : Array (Option Value)) (x : Int) (u : Tok) (c0 : (decide (x < -(2 ^ 63)) || decide (x ≥ 2 ^ 63)) = false) (c1 : (items.isEmpty || x == 1) = false)
    (c2 : (decide (x ≤ 0) || items.isEmpty) = true) :
    Meets (Builtin.«tuple.__mul__» ⟨[.ref l, .int x u], []⟩) (fun _ R s => s.heap.get? l = some { cls := .type "tuple", dict := dd, data := .seq items n, slots := sl } ∧
      R (.ok (.ret (Value.ref s.heap.objs.size))) { s with heap := s.heap.push { cls := Value.type "tuple", data := Data.seq #[] }, toks := s.toks }) :=
  .of_wp fun prog w A R s h => by
    obtain ⟨hp, g, d, tk, os⟩ := s
    obtain ⟨hl, h⟩ := h
    have f1 := AutoSeq1.idx_int
    wp_walk using wpAny_loadPart' hl
    repeat (first
      | (refine wpAny_ite_false (decide_eq_false (by rw [c0]; exact Bool.false_ne_true)) ?_; wp_walk using wpAny_loadPart' hl)
      | (refine wpAny_ite_false (decide_eq_false (by rw [c1]; exact Bool.false_ne_true)) ?_; wp_walk using wpAny_loadPart' hl)
      | (refine wpAny_ite_true (decide_eq_true c2) ?_; wp_walk using wpAny_loadPart' hl))
    exact ⟨_, rfl, h⟩
def rRepT01 (K : PySem.W.Frag) : R2 := fun x y H Q => ∃ l xs k, x = .ref l ∧ y = .int k ∧ SqT K H l xs ∧ xs ≠ [] ∧ ((k = 1 ∧ Q (.ref l) H) ∨ (k = 0 ∧ ∀ p, H p = none → Q (.ref p) (upd H p (.tup []))))
theorem op_repT01 {X : Cx} : OpR X (binaryOp .Mult) (rRepT01 X.K) := by
  intro pins s σ H x y v u Q I rx ry h
  obtain ⟨l, xs, k, rfl, rfl, hT, hne, h⟩ := h
  cases rx
  obtain ⟨t, rfl⟩ := ry
  obtain ⟨its, r, ⟨⟨cls, dd, data, sl⟩, ho, hc, n, hd⟩, hs⟩ := I.tuple hT
  simp only at hc hd
  subst hc hd
  have hle : its.length = xs.length := r.length.symm
  have hi : its.toArray.isEmpty = false := by
    cases its with
    | nil => exact absurd (List.eq_nil_of_length_eq_zero hle.symm) hne
    | cons a b => rfl
  rcases h with ⟨rfl, q⟩ | ⟨rfl, q⟩
  · refine wpAny_binaryOp_repeat_ref (T := "tuple") (U := "int") (by decide) ⟨_, ho, rfl⟩ (fun s' => typeIs_int s' 1 t) noFill_tuple_mul F.fills_int_mul F.slot_int_rmul repeat_tuple F.slot_int_index.lookup
      (call_meets F.slot_int_rmul (typeIs_int s 1 t) F.entry_int_rmul (F.args_int_rmul_2 _ _) (int_rmul_tuple 1 t l its.toArray n dd sl)
        ⟨ho, rfl, ⟨_, ho, rfl⟩, call_meets F.slot_tuple_mul ⟨_, ho, rfl⟩ F.entry_tuple_mul (F.args_tuple_mul_2 _ _) (tuple_mul1 l its.toArray n dd sl 1 t (by decide) (by rw [hi]; rfl)) ⟨ho, ?_⟩⟩)
    exact ⟨.ref l, H, I, rfl, q⟩
  · refine wpAny_binaryOp_repeat_ref (T := "tuple") (U := "int") (by decide) ⟨_, ho, rfl⟩ (fun s' => typeIs_int s' 0 t) noFill_tuple_mul F.fills_int_mul F.slot_int_rmul repeat_tuple F.slot_int_index.lookup
      (call_meets F.slot_int_rmul (typeIs_int s 0 t) F.entry_int_rmul (F.args_int_rmul_2 _ _) (int_rmul_tuple 0 t l its.toArray n dd sl)
        ⟨ho, rfl, ⟨_, ho, rfl⟩, call_meets F.slot_tuple_mul ⟨_, ho, rfl⟩ F.entry_tuple_mul (F.args_tuple_mul_2 _ _) (tuple_mul0 l its.toArray n dd sl 0 t (by decide) (by rw [hi]; rfl) (by simp)) ⟨ho, ?_⟩⟩)
    refine ⟨.ref s.heap.objs.size, _, I.laid (t' := s.toks) (o := .tup []) (fun b ob q => Heap.get?_push_of_some _ q) (Nat.le_refl _) ?_, rfl, q _ (I.hok.fresh (Nat.le_refl _))⟩
    exact ⟨Nat.zero_le _, [], .nil, IsTup.new _ _⟩
/-! ### pots -/
/-- at p stands a pot out of which at most n draws came by reckoning -/
def PotA (p : Addr) (n : Nat) (H : Hp) : Prop := ∃ xs, H p = some (.lst xs) ∧ PotL n xs
theorem PotA.up {p : Addr} {n m : Nat} {H : Hp} (h : PotA p n H) (k : n ≤ m) : PotA p m H := by
  obtain ⟨xs, e, q⟩ := h
  exact ⟨xs, e, q.up k⟩
theorem PotA.same {p : Addr} {n : Nat} {H H' : Hp} (h : PotA p n H) (s : Same H H') : PotA p n H' := by
  obtain ⟨xs, e, q⟩ := h
  exact ⟨xs, s _ _ e, q⟩
theorem PotA.new {p q : Addr} {n : Nat} {H : Hp} {o : HO} (h : PotA p n H) (nq : H q = none) : PotA p n (upd H q o) := h.same (same_put nq)
theorem PotA.ne {p q : Addr} {n : Nat} {H : Hp} (h : PotA p n H) (nq : H q = none) : p ≠ q := by
  obtain ⟨xs, e, _⟩ := h
  exact ne_of_none e nq
theorem PotA.put {p l : Addr} {n : Nat} {H : Hp} {o : HO} (h : PotA p n H) (ne : p ≠ l) : PotA p n (upd H l o) := by
  obtain ⟨xs, e, q⟩ := h
  exact ⟨xs, by rw [upd_ne ne]; exact e, q⟩
theorem PotA.kt {p : Addr} {n : Nat} {H H' : Hp} (h : PotA p n H) (b : Bu p H H') : Kt H H' := by
  obtain ⟨xs, e, _⟩ := h
  exact b.kt e
/-- tuples stay, while a pot is drawn from -/
theorem Da.bu {K : PySem.W.Frag} {p : Addr} {n : Nat} {H H' : Hp} {u : V} {d : PyData} (hd : Da K H u d) (ht : tupD d = true) (h : PotA p n H) (b : Bu p H H') : Da K H' u d := hd.kt (h.kt b) ht
theorem Bu.same {p : Addr} {H H1 H2 : Hp} (b : Bu p H H1) (s : Same H1 H2) : Bu p H H2 := b.trans (.of s)
def spDraw : Sp := fun vs H Q _ => ∃ (p : Addr) (m : Int) (n : Nat), vs = [.ref p, .int m] ∧ PotA p n H ∧ n < 10000000 ∧ 0 < m ∧ m.natAbs.log2 < 9000 ∧ ∀ H' d, Bu p H H' → PotA p (n + 1) H' → 0 ≤ d → d < m → Q (.int d) H'
def spPick (K : PySem.W.Frag) : Sp := fun vs H Q _ => ∃ (p q : Addr) (zs : List V) (n : Nat), vs = [.ref p, .ref q] ∧ PotA p n H ∧ n < 10000000 ∧ p ≠ q ∧ SqL K H q zs ∧ zs ≠ [] ∧ zs.length ≤ 1000000 ∧
  ∀ H' v, Bu p H H' → PotA p (n + 1) H' → v ∈ zs → Q v H'
def spPotS (K : PySem.W.Frag) : Sp := fun vs H Q _ => ∃ (a : Addr) (ns : List Int) (k : Int), vs = [.ref a, .int k] ∧ SqL K H a (ns.map V.int) ∧ 0 ≤ k ∧ k ≤ 1000 ∧ ∀ H' p, H p = none → Same H H' → PotA p 0 H' → Q (.ref p) H'
theorem log_i {m : Int} {k : Nat} (h1 : 0 ≤ m) (h2 : m < (2 ^ k : Nat)) (h0 : 0 < k) (hk : k ≤ 9000) : m.natAbs.log2 < 9000 :=
  Nat.lt_of_lt_of_le (PySem.Flt.log2_lt_of h0 (show m.natAbs < 2 ^ k by omega)) hk
/-! ### tuples joined; comprehensions whose elements are plain values -/
section
variable {K : PySem.W.Frag} {H0 : Hp} {σ : L2.St} {te ti : TE}
theorem cat_val {H : Hp} {x y : V} {ds es : List PyData} {Q : VK} (hx : Da K H x (.tuple ds)) (hy : Da K H y (.tuple es)) (hl : ds.length + es.length ≤ sizeLine)
    (q : ∀ H' u, Same H H' → Da K H' u (.tuple (ds ++ es)) → Q u H') : rCatA K x y H Q := by
  cases hx with
  | @tup a xs _ hs ha =>
  cases hy with
  | @tup b ys _ ht hb =>
  have l1 := daAll_len ha
  have l2 := daAll_len hb
  refine ⟨a, b, xs, ys, rfl, rfl, hs, ht, by omega, fun e => ?_, fun _ e => ?_, fun _ _ p np => ?_⟩
  · subst e
    cases ha
    exact q H _ Same.rfl' (.tup ht hb)
  · subst e
    cases hb
    refine q H _ Same.rfl' ?_
    rw [List.append_nil]
    exact .tup hs ha
  · exact q _ _ (same_put np) (.tup (xs := xs ++ ys) (.inl (.inl upd_same)) ((da_app ha hb).mono (same_put np)))
theorem g_lcT1 {ds : List PyData} {ys : List V} {g : TG} {vs : List Nat} (hi : ∀ (H : Hp) (Q : VK), Same H0 H → (∀ H' l us, Same H H' → SqT K H' l us → DaAll K H' us ds → Q (.ref l) H') → ti σ H Q) (hz : ds.length ≤ 1000000) (hl : ys.length = ds.length)
    (he : ∀ (j : Nat) (x y : V) (d : PyData), ds[j]? = some d → ys[j]? = some y → ∀ (H : Hp) (R : VK), Same H0 H → Da K H x d → (∀ H', Same H H' → R y H') → g x (wipe σ vs) H fun σ2 H2 => wipe σ2 vs = wipe σ vs ∧ te σ2 H2 R) :
    Gives H0 (tLc (iTup K ti) g tYes te vs) (gLst (ys.map gEq)) σ := fun H Q s q => by
  refine hi H _ s fun H1 l us s1 hl1 ha => ⟨l, rfl, ⟨us, hl1⟩, fun D nD => ?_⟩
  have sl := sizeLine_eq
  have hlen := daAll_len ha
  refine lc_tup (K := K) (a := l) (xs := us) (fun k H' => Same H1 H' ∧ H' D = some (.lst (ys.take k))) ⟨same_put nD, upd_same⟩ (fun k H' _ ⟨s', _⟩ => seqT_mono s' hl1) ?_ ?_
  · rintro k x H' hk ⟨s', eD⟩
    obtain ⟨d, hd, hx⟩ := daAll_at ha hk
    have hkl : k < ds.length := (List.getElem?_eq_some_iff.mp hd).1
    have hk' : k < ys.length := by omega
    have hy := List.getElem?_eq_getElem hk'
    refine cast ?_ (he k x ys[k] d hd hy H' (fun y' H4 => ∃ acc, H4 D = some (.lst acc) ∧ acc.length < sizeLine ∧ Same H1 (upd H4 D (.lst (acc ++ [y']))) ∧ upd H4 D (.lst (acc ++ [y'])) D = some (.lst (ys.take (k + 1))))
      (s.trans (s1.trans s')) (hx.mono s') (fun H4 s4 => ⟨_, s4 _ _ eD, ?_, ?_, ?_⟩))
    · rfl
    · rw [List.length_take]
      omega
    · intro b o e
      rw [upd_ne (ne_of_none e nD)]
      exact s4 _ _ (s' _ _ e)
    · rw [upd_same, List.take_add_one, hy]
      rfl
  · rintro H' ⟨s', eD⟩
    rw [hlen, ← hl, List.take_length] at eD
    exact q H' _ (s1.trans s') ⟨D, _, rfl, eD, allEq⟩
theorem g_lcL1 {ds : List PyData} {ys : List V} {g : TG} {vs : List Nat} (hi : ∀ (H : Hp) (Q : VK), Same H0 H → (∀ H' l us, Same H H' → SqL K H' l us → DaAll K H' us ds → Q (.ref l) H') → ti σ H Q) (hz : ds.length ≤ 1000000) (hl : ys.length = ds.length)
    (he : ∀ (j : Nat) (x y : V) (d : PyData), ds[j]? = some d → ys[j]? = some y → ∀ (H : Hp) (R : VK), Same H0 H → Da K H x d → (∀ H', Same H H' → R y H') → g x (wipe σ vs) H fun σ2 H2 => wipe σ2 vs = wipe σ vs ∧ te σ2 H2 R) :
    Gives H0 (tLc (iList K ti) g tYes te vs) (gLst (ys.map gEq)) σ := fun H Q s q => by
  refine hi H _ s fun H1 l us s1 hl1 ha => ⟨l, rfl, ⟨us, hl1⟩, fun D nD => ?_⟩
  have sl := sizeLine_eq
  have hlen := daAll_len ha
  refine lc_list (K := K) (a := l) (xs := us) (fun k H' => Same H1 H' ∧ H' D = some (.lst (ys.take k))) ⟨same_put nD, upd_same⟩ (fun k H' _ ⟨s', _⟩ => s'.seq hl1) ?_ ?_
  · rintro k x H' hk ⟨s', eD⟩
    obtain ⟨d, hd, hx⟩ := daAll_at ha hk
    have hkl : k < ds.length := (List.getElem?_eq_some_iff.mp hd).1
    have hk' : k < ys.length := by omega
    have hy := List.getElem?_eq_getElem hk'
    refine cast ?_ (he k x ys[k] d hd hy H' (fun y' H4 => ∃ acc, H4 D = some (.lst acc) ∧ acc.length < sizeLine ∧ Same H1 (upd H4 D (.lst (acc ++ [y']))) ∧ upd H4 D (.lst (acc ++ [y'])) D = some (.lst (ys.take (k + 1))))
      (s.trans (s1.trans s')) (hx.mono s') (fun H4 s4 => ⟨_, s4 _ _ eD, ?_, ?_, ?_⟩))
    · rfl
    · rw [List.length_take]
      omega
    · intro b o e
      rw [upd_ne (ne_of_none e nD)]
      exact s4 _ _ (s' _ _ e)
    · rw [upd_same, List.take_add_one, hy]
      rfl
  · rintro H' ⟨s', eD⟩
    rw [hlen, ← hl, List.take_length] at eD
    exact q H' _ (s1.trans s') ⟨D, _, rfl, eD, allEq⟩
theorem hi_tup {i : Nat} {x : V} {ds : List PyData} (hv : σ[i]? = some (some x)) (hd : Da K H0 x (.tuple ds)) :
    ∀ (H : Hp) (Q : VK), Same H0 H → (∀ H' l us, Same H H' → SqT K H' l us → DaAll K H' us ds → Q (.ref l) H') → tVar i σ H Q := fun H Q s q => by
  have z := hd.mono s
  cases z with
  | @tup a xs _ hs ha => exact ⟨_, hv, q H a xs Same.rfl' hs ha⟩
theorem hi_lst {i : Nat} {x : V} {ds : List PyData} (hv : σ[i]? = some (some x)) (hd : Da K H0 x (.list ds)) :
    ∀ (H : Hp) (Q : VK), Same H0 H → (∀ H' l us, Same H H' → SqL K H' l us → DaAll K H' us ds → Q (.ref l) H') → tVar i σ H Q := fun H Q s q => by
  have z := hd.mono s
  cases z with
  | @lst a xs _ hs ha => exact ⟨_, hv, q H a xs Same.rfl' hs ha⟩
end
end Ev

/-! ## Lines and their sums -/
namespace Ev
open PySem PySem.Spec PyProof.Rows L2
/-- a list of data made of tuples -/
def gLd (K : PySem.W.Frag) (es : List PyData) : GP := ⟨fun H u => ∃ l us, u = .ref l ∧ H l = some (.lst us) ∧ DaAll K H us es, fun s ⟨l, us, h1, h2, h3⟩ => ⟨l, us, h1, s _ _ h2, h3.mono s⟩⟩
section
variable {K : PySem.W.Frag} {H0 : Hp} {σ : L2.St} {te ti : TE}
theorem tupDs_take : ∀ {es : List PyData} (n : Nat), tupDs es = true → tupDs (es.take n) = true
  | [], n, h => by
    rw [List.take_nil]
    exact h
  | e :: es, 0, _ => by
    rw [List.take_zero, tupDs]
  | e :: es, n + 1, h => by
    rw [tupDs, Bool.and_eq_true] at h
    rw [List.take_succ_cons, tupDs, h.1, tupDs_take n h.2]
    rfl
/-- one more element of a comprehension's list -/
theorem lcD_more {H1 H4 H' : Hp} {D : Addr} {us : List V} {u : V} {es : List PyData} {e : PyData} {k : Nat} (nD : H1 D = none) (s' : Same H1 H') (s4 : Same H' H4) (eD : H' D = some (.lst us)) (ha : DaAll K H' us (es.take k)) (ht : tupDs es = true) (hk : es[k]? = some e) (hu : Da K H4 u e) :
    Same H1 (upd H4 D (.lst (us ++ [u]))) ∧ ∃ us', upd H4 D (.lst (us ++ [u])) D = some (.lst us') ∧ DaAll K (upd H4 D (.lst (us ++ [u]))) us' (es.take (k + 1)) := by
  have kt : Kt H4 (upd H4 D (.lst (us ++ [u]))) := Kt.put (s4 _ _ eD)
  have te : tupD e = true := by
    have z := tupDs_take (k + 1) ht
    rw [List.take_add_one, hk] at z
    exact tup_last z
  refine ⟨fun b o x => ?_, us ++ [u], upd_same, ?_⟩
  · rw [upd_ne (ne_of_none x nD)]
    exact s4 _ _ (s' _ _ x)
  · rw [List.take_add_one, hk]
    exact da_app (DaAll.kt ((Kt.of s4).trans kt) (tupDs_take k ht) ha) (.cons (Da.kt kt te hu) .nil)
where tup_last : ∀ {es : List PyData} {e : PyData}, tupDs (es ++ [e]) = true → tupD e = true
  | [], e, h => by
    rw [List.nil_append, tupDs, Bool.and_eq_true] at h
    exact h.1
  | d :: es, e, h => by
    rw [List.cons_append, tupDs, Bool.and_eq_true] at h
    exact tup_last h.2
theorem g_lcDL {ds es : List PyData} {g : TG} {vs : List Nat} (hi : ∀ (H : Hp) (Q : VK), Same H0 H → (∀ H' l us, Same H H' → SqL K H' l us → DaAll K H' us ds → Q (.ref l) H') → ti σ H Q) (hz : ds.length ≤ 1000000) (ht : tupDs es = true) (hl : es.length = ds.length)
    (he : ∀ (j : Nat) (x : V) (d e : PyData), ds[j]? = some d → es[j]? = some e → ∀ (H : Hp) (R : VK), Same H0 H → Da K H x d → (∀ H' u, Same H H' → Da K H' u e → R u H') → g x (wipe σ vs) H fun σ2 H2 => wipe σ2 vs = wipe σ vs ∧ te σ2 H2 R) :
    Gives H0 (tLc (iList K ti) g tYes te vs) (gLd K es) σ := fun H Q s q => by
  refine hi H _ s fun H1 l us s1 hl1 ha => ⟨l, rfl, ⟨us, hl1⟩, fun D nD => ?_⟩
  have sl := sizeLine_eq
  have hlen := daAll_len ha
  refine lc_list (K := K) (a := l) (xs := us) (fun k H' => Same H1 H' ∧ ∃ ws, H' D = some (.lst ws) ∧ DaAll K H' ws (es.take k)) ⟨same_put nD, [], upd_same, .nil⟩ (fun k H' _ ⟨s', _⟩ => s'.seq hl1) ?_ ?_
  · rintro k x H' hk ⟨s', ws, eD, hw⟩
    obtain ⟨d, hd, hx⟩ := daAll_at ha hk
    have hke : k < es.length := by
      have := (List.getElem?_eq_some_iff.mp hd).1
      omega
    have hek := List.getElem?_eq_getElem hke
    have hwl := daAll_len hw
    rw [List.length_take] at hwl
    refine cast ?_ (he k x d es[k] hd hek H' (fun y H4 => ∃ acc, H4 D = some (.lst acc) ∧ acc.length < sizeLine ∧ Same H1 (upd H4 D (.lst (acc ++ [y]))) ∧ ∃ ws, upd H4 D (.lst (acc ++ [y])) D = some (.lst ws) ∧ DaAll K (upd H4 D (.lst (acc ++ [y]))) ws (es.take (k + 1)))
      (s.trans (s1.trans s')) (hx.mono s') fun H4 u s4 hu => ⟨ws, s4 _ _ eD, by omega, lcD_more nD s' s4 eD hw ht hek hu⟩)
    rfl
  · rintro H' ⟨s', ws, eD, hw⟩
    rw [hlen, ← hl, List.take_length] at hw
    exact q H' _ (s1.trans s') ⟨D, ws, rfl, eD, hw⟩
theorem g_lcDT {a : Addr} {xs : List V} {es : List PyData} {g : TG} {vs : List Nat} {i : Nat} (hv : σ[i]? = some (some (.ref a))) (hx : SqT K H0 a xs) (hz : xs.length ≤ 1000000) (ht : tupDs es = true) (hl : es.length = xs.length)
    (he : ∀ (j : Nat) (x : V) (e : PyData), xs[j]? = some x → es[j]? = some e → ∀ (H : Hp) (R : VK), Same H0 H → (∀ H' u, Same H H' → Da K H' u e → R u H') → g x (wipe σ vs) H fun σ2 H2 => wipe σ2 vs = wipe σ vs ∧ te σ2 H2 R) :
    Gives H0 (tLc (iTup K (tVar i)) g tYes te vs) (gLd K es) σ := fun H Q s q => by
  refine ⟨_, hv, a, rfl, ⟨xs, seqT_mono s hx⟩, fun D nD => ?_⟩
  have sl := sizeLine_eq
  refine lc_tup (K := K) (a := a) (xs := xs) (fun k H' => Same H H' ∧ ∃ ws, H' D = some (.lst ws) ∧ DaAll K H' ws (es.take k)) ⟨same_put nD, [], upd_same, .nil⟩ (fun k H' _ ⟨s', _⟩ => seqT_mono (s.trans s') hx) ?_ ?_
  · rintro k x H' hk ⟨s', ws, eD, hw⟩
    have hke : k < es.length := by
      have := (List.getElem?_eq_some_iff.mp hk).1
      omega
    have hek := List.getElem?_eq_getElem hke
    have hwl := daAll_len hw
    rw [List.length_take] at hwl
    refine cast ?_ (he k x es[k] hk hek H' (fun y H4 => ∃ acc, H4 D = some (.lst acc) ∧ acc.length < sizeLine ∧ Same H (upd H4 D (.lst (acc ++ [y]))) ∧ ∃ ws, upd H4 D (.lst (acc ++ [y])) D = some (.lst ws) ∧ DaAll K (upd H4 D (.lst (acc ++ [y]))) ws (es.take (k + 1)))
      (s.trans s') fun H4 u s4 hu => ⟨ws, s4 _ _ eD, by omega, lcD_more nD s' s4 eD hw ht hek hu⟩)
    rfl
  · rintro H' ⟨s', ws, eD, hw⟩
    rw [← hl, List.take_length] at hw
    exact q H' _ s' ⟨D, ws, rfl, eD, hw⟩
end
def cntD (names : List Str) (c : Str → Int) : List (Key × V) := names.map fun n => (.inr n, .int (c n))
theorem cnt_val {names : List Str} {c : Str → Int} {x : Str} (h : x ∈ names) : valV (cntD names c) (.inr x) = some (.int (c x)) := by
  induction names with
  | nil => cases h
  | cons n names ih =>
    by_cases e : n = x
    · subst e
      exact valV_pos rfl
    · rw [show cntD (n :: names) c = ((.inr n, .int (c n)) : Key × V) :: cntD names c from rfl, valV_neg (fun z => e (Sum.inr.inj z))]
      exact ih ((List.mem_cons.mp h).resolve_left fun z => e z.symm)
theorem cnt_any {names : List Str} {c : Str → Int} {x : Str} : ((cntD names c).any fun kv => decide (kv.1 = .inr x)) = decide (x ∈ names) := by
  induction names with
  | nil => rfl
  | cons n names ih =>
    rw [show cntD (n :: names) c = ((.inr n, .int (c n)) : Key × V) :: cntD names c from rfl, List.any_cons, ih]
    by_cases e : n = x
    · subst e
      simp
    · have h1 : decide ((Sum.inr n : Key) = Sum.inr x) = false := decide_eq_false fun z => e (Sum.inr.inj z)
      have h2 : ¬ x = n := fun z => e z.symm
      show (decide ((Sum.inr n : Key) = Sum.inr x) || decide (x ∈ names)) = _
      rw [h1, Bool.false_or]
      exact decide_eq_decide.mpr ⟨fun z => List.mem_cons_of_mem _ z, fun z => (List.mem_cons.mp z).resolve_left h2⟩
theorem cnt_put {names : List Str} {c : Str → Int} {x : Str} {v : Int} (h : x ∈ names) : putK (cntD names c) (.inr x) (.int v) = cntD names fun n => if n = x then v else c n := by
  unfold putK
  rw [cnt_any, decide_eq_true h, if_pos rfl]
  unfold cntD
  rw [List.map_map]
  refine List.map_congr_left fun n _ => ?_
  show (if (Sum.inr n : Key) = Sum.inr x then _ else _) = ((.inr n, .int (if n = x then v else c n)) : Key × V)
  by_cases e : n = x
  · subst e
    rw [if_pos rfl]
    simp
  · rw [if_neg fun z => e (Sum.inr.inj z), if_neg e]
theorem cnt_new {names : List Str} {c : Str → Int} {x : Str} {v : Int} (h : x ∉ names) : putK (cntD names c) (.inr x) (.int v) = cntD names c ++ [(.inr x, .int v)] := by
  unfold putK
  rw [cnt_any, decide_eq_false h, if_neg Bool.false_ne_true]
/-- the sum of the numbers with the name n -/
def sumN (ps : List (Str × Int)) (n : Str) : Int := ((ps.filter fun p => decide (p.1 = n)).map (·.2)).sum
theorem sumN_snoc (ps : List (Str × Int)) (p : Str × Int) (n : Str) : sumN (ps ++ [p]) n = if n = p.1 then sumN ps n + p.2 else sumN ps n := by
  unfold sumN
  rw [List.filter_append, List.map_append, List.sum_append]
  by_cases e : p.1 = n
  · rw [if_pos e.symm]
    simp [e]
  · rw [if_neg fun z => e z.symm]
    simp [e]
theorem sumN_app (ps qs : List (Str × Int)) (n : Str) : sumN (ps ++ qs) n = sumN ps n + sumN qs n := by
  unfold sumN
  rw [List.filter_append, List.map_append, List.sum_append]
def totD (is : List It) (c : Str → Int) : PyData := .tuple ((linesI is).map fun n => pairD (n, c n))
theorem uniq_nd (xs : List Str) : (uniq [] xs).Nodup := uniq_nodup xs [] .nil
theorem lines_nd (is : List It) : (linesI is).Nodup := (srt_perm _).nodup_iff.mpr (uniq_nd _)
theorem lines_mem {is : List It} {x : Str} : x ∈ linesI is ↔ x ∈ (Its.sp 1 is).map (·.1) := by
  unfold linesI
  rw [(srt_perm _).mem_iff, uniq_mem]
  simp
theorem lines_len {is : List It} : (linesI is).length ≤ Its.nl is := by
  unfold linesI
  rw [(srt_perm _).length_eq]
  have z := uniq_len ((Its.sp 1 is).map (·.1)) []
  rw [List.length_map, Its.sp_len] at z
  have z0 : ([] : List Str).length = 0 := rfl
  omega
theorem sumN_nil (n : Str) : sumN [] n = 0 := rfl
mutual
/-- a line's ticks, r times -/
theorem It.sp_count (n : Str) (r : Int) : ∀ i : It, It.nn i → sumN (It.sp r i) n = r * ((It.w i).count n : Nat)
  | .line x t, h => by
    rw [It.nn] at h
    rw [It.sp, It.w]
    unfold sumN
    by_cases e : x = n
    · subst e
      rw [List.count_replicate_self]
      simp
      rw [Int.max_eq_left h]
    · rw [List.count_replicate, if_neg (by simpa using e)]
      simp [e]
  | .loop k is, h => by
    rw [It.nn] at h
    rw [It.sp, It.w, Its.sp_count n (r * k) is h.2, flat_count, Int.natCast_mul, Int.toNat_of_nonneg h.1, Int.mul_assoc]
theorem Its.sp_count (n : Str) (r : Int) : ∀ is : List It, Its.nn is → sumN (Its.sp r is) n = r * ((Its.w is).count n : Nat)
  | [], _ => by
    rw [Its.sp, Its.w, sumN_nil]
    simp
  | i :: is, h => by
    rw [Its.nn] at h
    rw [Its.sp, Its.w, sumN_app, It.sp_count n r i h.1, Its.sp_count n r is h.2, List.count_append, Int.natCast_add, Int.mul_add]
end
mutual
theorem It.sp_sum (r : Int) : ∀ i : It, It.nn i → ((It.sp r i).map (·.2)).sum = r * ((It.w i).length : Nat)
  | .line x t, h => by
    rw [It.nn] at h
    rw [It.sp, It.w, List.length_replicate, Int.toNat_of_nonneg h]
    simp
  | .loop k is, h => by
    rw [It.nn] at h
    rw [It.sp, It.w, Its.sp_sum (r * k) is h.2, flat_len, Int.natCast_mul, Int.toNat_of_nonneg h.1, Int.mul_assoc]
theorem Its.sp_sum (r : Int) : ∀ is : List It, Its.nn is → ((Its.sp r is).map (·.2)).sum = r * ((Its.w is).length : Nat)
  | [], _ => by
    rw [Its.sp, Its.w]
    simp
  | i :: is, h => by
    rw [Its.nn] at h
    rw [Its.sp, Its.w, List.map_append, List.sum_append, It.sp_sum r i h.1, Its.sp_sum r is h.2, List.length_append, Int.natCast_add, Int.mul_add]
end
theorem len_w {is : List It} (h : Its.nn is) : lenI is = ((Its.w is).length : Nat) := by
  unfold lenI
  rw [Its.sp_sum 1 is h, Int.one_mul]
theorem len_one {i : It} (h : It.nn i) : lenI [i] = ((It.w i).length : Nat) := by
  rw [len_w (by rw [Its.nn, Its.nn]; exact ⟨h, trivial⟩), w_one]
mutual
theorem It.sp_mem (x : Str) (r : Int) : ∀ i : It, It.ps i → (x ∈ (It.sp r i).map (·.1) ↔ x ∈ It.w i)
  | .line z t, h => by
    rw [It.ps] at h
    rw [It.sp, It.w, List.mem_replicate]
    simp
    intro e
    omega
  | .loop k is, h => by
    rw [It.ps] at h
    rw [It.sp, It.w, Its.sp_mem x (r * k) is h.2.2, mem_flat (by omega)]
theorem Its.sp_mem (x : Str) (r : Int) : ∀ is : List It, Its.ps is → (x ∈ (Its.sp r is).map (·.1) ↔ x ∈ Its.w is)
  | [], _ => by
    rw [Its.sp, Its.w]
    simp
  | i :: is, h => by
    rw [Its.ps] at h
    rw [Its.sp, Its.w, List.map_append, List.mem_append, List.mem_append, It.sp_mem x r i h.1, Its.sp_mem x r is h.2]
end
theorem lines_w {is : List It} (h : Its.ps is) {x : Str} : x ∈ linesI is ↔ x ∈ Its.w is := by
  rw [lines_mem, Its.sp_mem x 1 is h]
theorem lines_eq {is : List It} (h : Its.ps is) : linesI is = srtS (uniq [] (Its.w is)) := by
  unfold linesI
  refine srt_eq (uniq_nd _) (uniq_nd _) fun x => ?_
  rw [uniq_mem, uniq_mem, Its.sp_mem x 1 is h]
end Ev

/-! ## The row -/
namespace Ev
open PySem
def topS (i : Nat) : Stmt := PySem.Challenge.pw_evensamples_k62_arguments_by_name.main.body.getD i (.Pass ⟨0, 0, 0, 0⟩)
end Ev

/-! ## is_whole, is_integer_within -/
namespace Ev
open PySem PySem.Spec PyProof.Rows L2
theorem scWh : FnScope ["value"] ["value"] (defScope (topS 15)) := ⟨rfl, rfl, rfl, by decide +kernel, rfl, by decide +kernel, by decide +kernel⟩
theorem scIn : FnScope ["value", "least", "most"] ["value", "least", "most"] (defScope (topS 16)) := ⟨rfl, rfl, rfl, by decide +kernel, rfl, by decide +kernel, by decide +kernel⟩
section
variable {P : Program} {w : World} {K : PySem.W.Frag} {mg : Str → Option Value} {base : Heap} {f fW : Addr} {fd fdW : FuncData}
theorem ok_wh (F : Fun K "is_whole" "is_whole" (topS 15) f fd) (mI : mg "isinstance" = none) (mi : mg "int" = none) (mb : mg "bool" = none) : FnOk P w K mg base CX0 1 f fd ["value"] (spWh K) := by
  refine F.ok scWh (fun vs H Q E h => ?_) (fun cdv A outer s H vs Q E hr h => ?_)
  · obtain ⟨x, d, rfl, _⟩ := h
    rfl
  · obtain ⟨x, d, rfl, hd, q⟩ := h
    refine ⟨_, pss_one (ps_ret (pe_and (pe_isT (.inl rfl) mI (fun _ => pv 0) (fun _ => ty_of rfl mi (by decide +kernel))) (pe_one (pe_not (pe_isT (.inr (.inl rfl)) mI (fun _ => pv 0) (fun _ => ty_of rfl mb (by decide +kernel))))))), ?_⟩
    refine ⟨x, d, rfl, hd, _, rfl, ite2 (fun e => ?_) (fun e => ?_)⟩
    · rw [e, Bool.true_and] at q
      exact ⟨x, d, rfl, hd, _, rfl, q⟩
    · rw [Bool.eq_false_iff.mpr e, Bool.false_and] at q
      exact q
theorem ok_in (F : Fun K "is_integer_within" "is_integer_within" (topS 16) f fd) (GW : FnOk P w K mg base CX0 1 fW fdW ["value"] (spWh K)) (bW : Binds K fdW ["value"] []) (mW : mg "is_whole" = some (.ref fW)) (vW : PySem.W.keepIn K (.ref fW) = true) :
    FnOk P w K mg base CX0 2 f fd ["value", "least", "most"] (spIn K) := by
  refine F.ok scIn (fun vs H Q E h => ?_) (fun cdv A outer s H vs Q E hr h => ?_)
  · obtain ⟨x, d, lo, hi, rfl, _⟩ := h
    rfl
  · obtain ⟨x, d, lo, hi, rfl, hd, q⟩ := h
    refine ⟨_, pss_one (ps_ret (pe_and (pe_call GW hr (by rfl) mW vW bW .nil pass0 (pa_cons (pv 0) pa_nil)) (pe_one (pe_chain op_le op_le (pv 1) (pv 0) (pv 2))))), ?_⟩
    have qq := q H Same.rfl'
    refine ⟨_, rfl, x, d, rfl, hd, _, rfl, ite2 (fun e => ?_) (fun e => ?_)⟩
    · rw [isD_int, isD_bool] at e
      obtain ⟨i, rfl⟩ : ∃ i, d = .int i := by
        cases d <;> first | exact ⟨_, rfl⟩ | simp at e
      have ex : x = .int i := by
        cases hd
        rfl
      subst ex
      refine ⟨_, rfl, _, rfl, _, _, rfl, rfl, _, rfl, ?_⟩
      refine ite2 (fun z => ?_) (fun z => ?_)
      · refine ⟨_, rfl, _, _, rfl, rfl, ?_⟩
        have y : intD lo hi (.int i) = decide (i ≤ hi) := by
          show (decide (lo ≤ i) && decide (i ≤ hi)) = _
          rw [z, Bool.true_and]
        rw [y] at qq
        exact qq
      · have y : intD lo hi (.int i) = false := by
          show (decide (lo ≤ i) && decide (i ≤ hi)) = _
          rw [Bool.eq_false_iff.mpr z, Bool.false_and]
        rw [y] at qq
        exact qq
    · have z : intD lo hi d = false := by
        rw [isD_int, isD_bool] at e
        cases d <;> first | rfl | simp at e
      rw [z] at qq
      exact qq
end
end Ev

/-! ## == and != of any data with a text, == of a tuple with () -/
namespace PySem.SeqAt
open AutoSeq1 (wpAny_loadPart')
open MeetsSeq
section
variable {A : Around} {s : Shared}
theorem ev_sub_sd : isSubtype (.type "str") (.type "dict") = pure false := by rw [isSubtype_type]; kernel_rfl
theorem ev_dict_eq_str (l : Addr) (es : Array DictEntry) (n : Nat) (dd : Option Addr) (sl : Array (Option Value)) (b : Str) (u : Tok) :
    Meets (Builtin.«dict.__eq__» ⟨[.ref l, .str b u], []⟩)
      (fun _ R s => s.heap.get? l = some { cls := .type "dict", dict := dd, data := .dict es n, slots := sl } ∧ R (.ok (.ret .notImplemented)) s) :=
  .of_wp fun prog w A R s h => by
    obtain ⟨hp, g, d, tk, os⟩ := s
    obtain ⟨hl, h⟩ := h
    have f1 := ev_sub_sd
    wp_walk using wpAny_loadPart' hl, wpAny_load hl
    exact ⟨_, rfl, h⟩
theorem ev_dict_ne_str (l : Addr) (es : Array DictEntry) (n : Nat) (dd : Option Addr) (sl : Array (Option Value)) (b : Str) (u : Tok) :
    Meets (Builtin.«dict.__ne__» ⟨[.ref l, .str b u], []⟩)
      (fun _ R s => s.heap.get? l = some { cls := .type "dict", dict := dd, data := .dict es n, slots := sl } ∧ R (.ok (.ret .notImplemented)) s) :=
  .of_wp fun prog w A R s h => by
    obtain ⟨hp, g, d, tk, os⟩ := s
    obtain ⟨hl, h⟩ := h
    have f1 := ev_sub_sd
    wp_walk using wpAny_loadPart' hl, wpAny_load hl
    exact ⟨_, rfl, h⟩
theorem ev_str_eq_dict (b : Str) (u : Tok) (l : Addr) (c : Value) (es : Array DictEntry) (n : Nat) (dd : Option Addr) (sl : Array (Option Value)) :
    Meets (Builtin.«str.__eq__» ⟨[.str b u, .ref l], []⟩) (fun _ R s => s.heap.get? l = some { cls := c, dict := dd, data := .dict es n, slots := sl } ∧ R (.ok (.ret .notImplemented)) s) :=
  .of_wp fun prog w A R s h => by
    obtain ⟨hp, g, d, tk, os⟩ := s
    obtain ⟨hl, h⟩ := h
    wp_walk using wpAny_loadPart' hl, wpAny_load hl
    exact ⟨_, rfl, h⟩
theorem ev_str_ne_dict (b : Str) (u : Tok) (l : Addr) (c : Value) (es : Array DictEntry) (n : Nat) (dd : Option Addr) (sl : Array (Option Value)) :
    Meets (Builtin.«str.__ne__» ⟨[.str b u, .ref l], []⟩) (fun _ R s => s.heap.get? l = some { cls := c, dict := dd, data := .dict es n, slots := sl } ∧ R (.ok (.ret .notImplemented)) s) :=
  .of_wp fun prog w A R s h => by
    obtain ⟨hp, g, d, tk, os⟩ := s
    obtain ⟨hl, h⟩ := h
    wp_walk using wpAny_loadPart' hl, wpAny_load hl
    exact ⟨_, rfl, h⟩
theorem ev_rc_dict_str {l : Addr} {o : Obj} {es : Array DictEntry} {n : Nat} (b : Str) (u : Tok) (ho : s.heap.get? l = some o) (hc : o.cls = .type "dict") (hd : o.data = .dict es n) (hu : A.units < cLine) :
    RcAt A s (.ref l) (.str b u) false := fun prog w E Q h => by
  obtain ⟨cls, dd, data, sl⟩ := o
  simp only at hc hd
  subst hc hd
  exact rc_eq_decline_or (k := false) ⟨_, ho, rfl⟩ (typeIs_str s b u) (by decide) ev_sub_sd F.slot_dict_eq F.slot_str_eq_refl
    (fun _ hq => call_meets F.slot_dict_eq ⟨_, ho, rfl⟩ F.entry_dict_eq (F.args_dict_eq_2 _ _) (ev_dict_eq_str l es n dd sl b u) ⟨ho, hq⟩)
    (fun _ hq => call_meets F.slot_str_eq_refl (typeIs_str s b u) F.entry_str_eq (F.args_str_eq_2 _ _) (ev_str_eq_dict b u l (.type "dict") es n dd sl) ⟨ho, hq⟩)
    (fun _ hq => wpAny_of_eq (rfl : isSame (.ref l) (.str b u) = pure false) hq) (.inr hu) h
theorem ev_rn_dict_str {l : Addr} {o : Obj} {es : Array DictEntry} {n : Nat} (b : Str) (u : Tok) (ho : s.heap.get? l = some o) (hc : o.cls = .type "dict") (hd : o.data = .dict es n) (hu : A.units < cLine) :
    RcNeAt A s (.ref l) (.str b u) true := fun prog w E Q h => by
  obtain ⟨cls, dd, data, sl⟩ := o
  simp only at hc hd
  subst hc hd
  exact rc_ne_decline_or (k := false) ⟨_, ho, rfl⟩ (typeIs_str s b u) (by decide) ev_sub_sd F.slot_dict_ne F.slot_str_ne_refl
    (fun _ hq => call_meets F.slot_dict_ne ⟨_, ho, rfl⟩ F.entry_dict_ne (F.args_dict_ne_2 _ _) (ev_dict_ne_str l es n dd sl b u) ⟨ho, hq⟩)
    (fun _ hq => call_meets F.slot_str_ne_refl (typeIs_str s b u) F.entry_str_ne (F.args_str_ne_2 _ _) (ev_str_ne_dict b u l (.type "dict") es n dd sl) ⟨ho, hq⟩)
    (fun _ hq => wpAny_of_eq (rfl : isSame (.ref l) (.str b u) = pure false) hq) (.inr hu) h
end
end PySem.SeqAt
namespace Ev
open PySem PySem.Spec PyProof.Rows L2
def isStrD (t : Str) : PyData → Bool
  | .str x => x == t
  | _ => false
def rEqS (K : PySem.W.Frag) : R2 := fun x y H Q => ∃ (d : PyData) (t : Str), Da K H x d ∧ y = .str t ∧ Q (.bl (isStrD t d)) H
def rNeS (K : PySem.W.Frag) : R2 := fun x y H Q => ∃ (d : PyData) (t : Str), Da K H x d ∧ y = .str t ∧ Q (.bl (!isStrD t d)) H
section
variable {X : Cx}
theorem op_eqS (hu : X.A.units < cLine) : OpR X (compareOp .Eq) (rEqS X.K) := by
  intro pins s σ H x y v u Q I rx ry h
  obtain ⟨d, t, hd, rfl, q⟩ := h
  obtain ⟨tk, rfl⟩ := ry
  have fin : ∀ b, b = isStrD t d → EP X pins σ Q (.bool b) s := fun b e => ⟨.bl b, H, I, rfl, by rw [e]; exact q⟩
  cases hd with
  | non =>
    cases rx
    exact SeqAt.RcAt.none_str t tk _ _ _ _ (fin _ rfl)
  | bl b =>
    cases rx
    exact SeqAt.RcAt.bool_str b t tk _ _ _ _ (fin _ rfl)
  | int i =>
    obtain ⟨tk', rfl⟩ := rx
    exact SeqAt.RcAt.int_str i tk' t tk _ _ _ _ (fin _ rfl)
  | str x =>
    obtain ⟨tk', rfl⟩ := rx
    exact SeqAt.RcAt.str_str x tk' t tk _ _ _ _ (fin _ rfl)
  | lst hs ha =>
    cases rx
    obtain ⟨its, rv, ⟨o, n, ho, hc, _, hd⟩, _⟩ := I.list hs
    exact SeqAt.RcAt.list_str t tk ⟨o, ho, hc, n, hd⟩ hu _ _ _ _ (fin _ rfl)
  | tup hs ha =>
    cases rx
    obtain ⟨its, rv, ⟨o, ho, hc, n, hd⟩, _⟩ := I.tuple hs
    exact SeqAt.RcAt.tuple_str t tk ⟨o, ho, hc, n, hd⟩ hu _ _ _ _ (fin _ rfl)
  | @dic a kvs _ he hk =>
    cases rx
    have ok : ObjOk X.prog X.w H s.heap a (.dK kvs) := I.hok a _ he
    obtain ⟨_, ns, vs, kv, o, es, ep, ho, ex, hd, _⟩ := ok
    exact SeqAt.ev_rc_dict_str t tk ho ex.1 hd hu _ _ _ _ (fin _ rfl)
theorem op_neS (hu : X.A.units < cLine) : OpR X (compareOp .NotEq) (rNeS X.K) := by
  intro pins s σ H x y v u Q I rx ry h
  obtain ⟨d, t, hd, rfl, q⟩ := h
  obtain ⟨tk, rfl⟩ := ry
  have fin : ∀ b, b = (!isStrD t d) → EP X pins σ Q (.bool b) s := fun b e => ⟨.bl b, H, I, rfl, by rw [e]; exact q⟩
  cases hd with
  | non =>
    cases rx
    exact SeqAt.RcNeAt.none_str t tk _ _ _ _ (fin _ rfl)
  | bl b =>
    cases rx
    exact SeqAt.RcNeAt.bool_str b t tk _ _ _ _ (fin _ rfl)
  | int i =>
    obtain ⟨tk', rfl⟩ := rx
    exact SeqAt.RcNeAt.int_str i tk' t tk _ _ _ _ (fin _ rfl)
  | str x =>
    obtain ⟨tk', rfl⟩ := rx
    exact SeqAt.RcNeAt.str_str x tk' t tk _ _ _ _ (fin _ rfl)
  | lst hs ha =>
    cases rx
    obtain ⟨its, rv, ⟨o, n, ho, hc, _, hd⟩, _⟩ := I.list hs
    exact SeqAt.RcNeAt.list_str t tk ⟨o, ho, hc, n, hd⟩ hu _ _ _ _ (fin _ rfl)
  | tup hs ha =>
    cases rx
    obtain ⟨its, rv, ⟨o, ho, hc, n, hd⟩, _⟩ := I.tuple hs
    exact SeqAt.RcNeAt.tuple_str t tk ⟨o, ho, hc, n, hd⟩ hu _ _ _ _ (fin _ rfl)
  | @dic a kvs _ he hk =>
    cases rx
    have ok : ObjOk X.prog X.w H s.heap a (.dK kvs) := I.hok a _ he
    obtain ⟨_, ns, vs, kv, o, es, ep, ho, ex, hd, _⟩ := ok
    exact SeqAt.ev_rn_dict_str t tk ho ex.1 hd hu _ _ _ _ (fin _ rfl)
/-- t == () -/
def rEqT0 (K : PySem.W.Frag) : R2 := fun x y H Q => ∃ (a b : Addr) (xs : List V), x = .ref a ∧ y = .ref b ∧ SqT K H a xs ∧ SqT K H b [] ∧ Q (.bl (decide (xs = []))) H
theorem op_eqT0 (hu : X.A.units < cLine) : OpR X (compareOp .Eq) (rEqT0 X.K) := by
  intro pins s σ H x y v u Q I rx ry h
  obtain ⟨a, b, xs, rfl, rfl, h1, h2, q⟩ := h
  cases rx
  cases ry
  obtain ⟨i1, r1, ⟨o1, ho1, hc1, n1, hd1⟩, _⟩ := I.tuple h1
  obtain ⟨i2, r2, ⟨o2, ho2, hc2, n2, hd2⟩, _⟩ := I.tuple h2
  have e2 : i2 = [] := by
    have z := Paired.length r2
    exact List.length_eq_zero_iff.mp z.symm
  subst e2
  have l1 : i1.length = xs.length := (Paired.length r1).symm
  refine SeqAt.rcIn_tuples (e := fun _ => true) ⟨o1, ho1, hc1, n1, hd1⟩ ⟨o2, ho2, hc2, n2, hd2⟩ hu (fun j j1 j2 => absurd j2 (by simp)) ?_
  have z : ((List.range (min i1.toArray.size ([] : List Value).toArray.size)).all (fun _ => true) && i1.toArray.size == ([] : List Value).toArray.size) = decide (xs = []) := by
    cases xs with
    | nil =>
      have : i1 = [] := List.length_eq_zero_iff.mp l1
      subst this
      rfl
    | cons x r =>
      have : i1.length = r.length + 1 := l1
      simp [this]
  rw [z]
  exact ⟨.bl _, H, I, rfl, q⟩
end
end Ev

/-! ## is_name, room_behind, room_behind_items, is_program -/
namespace Ev
open PySem PySem.Spec PyProof.Rows L2
/-! ## Which values are programs -/
section
variable {X : Cx} {x y : Str} {i : Nat} {p1 p2 q1 q2 : Pos}
end
section
variable {K : PySem.W.Frag} {H0 : Hp} {σ : L2.St} {i : Nat} {x : V} {d : PyData} {T : String} {b c : Bool} {tt uu : TT} {t rest : TS} {D : Ends}
end
def nameD : PyData → Bool
  | .str x => decide (1 ≤ x.length) && (decide (x.length ≤ 8) && x.cps.toList.all fun c => decide (97 ≤ c) && decide (c ≤ 122))
  | _ => false
mutual
/-- its texts are not long -/
def okS : PyData → Bool
  | .str x => decide (x.length ≤ 1000)
  | .list xs | .tuple xs => okSs xs
  | .dict kvs => okSk kvs
  | _ => true
def okSs : List PyData → Bool
  | [] => true
  | x :: xs => okS x && okSs xs
def okSk : List (PyData × PyData) → Bool
  | [] => true
  | (k, v) :: r => okS k && (okS v && okSk r)
end
theorem okSs_mem : ∀ {ds : List PyData}, okSs ds = true → ∀ d ∈ ds, okS d = true
  | [], _, _, h => nomatch h
  | x :: xs, h, d, hd => by
    rw [okSs, Bool.and_eq_true] at h
    rcases List.mem_cons.mp hd with rfl | hd
    · exact h.1
    · exact okSs_mem h.2 d hd
def spName (K : PySem.W.Frag) : Sp := fun vs H Q _ => ∃ (x : V) (d : PyData), vs = [x] ∧ Da K H x d ∧ okS d = true ∧ ∀ H', Same H H' → Q (.bl (nameD d)) H'
section
variable {P : Program} {w : World} {K : PySem.W.Frag} {mg : Str → Option Value} {base : Heap} {f fW : Addr} {fd fdW : FuncData}
/-! ### names -/
abbrev rLeS : R2 := fun x y H Q => ∃ i j, x = .str i ∧ y = .str j ∧ Q (.bl (!decide (j.cps.toList < i.cps.toList))) H
abbrev rLenS : List V → Hp → VK → Prop := fun xs H Q => ∃ z, xs = [.str z] ∧ z.length ≤ sizeLine ∧ Q (.int z.length) H
theorem t_chainI {H0 : Hp} {σ : L2.St} {tb : TE} {a b c : Int} (h : Gives H0 tb (gEq (.int b)) σ) :
    GivesT H0 (tTest (tChain rLeI rLeI (tC (.int a)) tb (tC (.int c)))) (decide (a ≤ b) && decide (b ≤ c)) σ := fun H Q s q =>
  h H _ s fun H1 u s1 e => by
    have e : u = .int b := e
    subst e
    refine ⟨_, _, rfl, rfl, _, rfl, ite2 (fun z => ?_) (fun z => ?_)⟩
    · refine ⟨_, _, rfl, rfl, _, rfl, ?_⟩
      have qq := q H1 s1
      rw [z, Bool.true_and] at qq
      exact qq
    · refine ⟨_, rfl, ?_⟩
      have qq := q H1 s1
      rw [Bool.eq_false_iff.mpr z, Bool.false_and] at qq
      exact qq
theorem g_lenS {H0 : Hp} {σ : L2.St} {i : Nat} {x : Str} (h : σ[i]? = some (some (.str x))) (hx : x.length ≤ 1000) : Gives H0 (tCB rLenS (tCons (tVar i) tNil)) (gEq (.int x.length)) σ := fun H Q s q => by
  have y := sizeLine_eq
  exact ⟨_, h, x, rfl, by omega, q H _ Same.rfl' rfl⟩
theorem lt_one (a b : Nat) : decide (([a] : List Nat) < [b]) = decide (a < b) := by
  rw [decide_eq_decide]
  constructor
  · intro h
    cases h with
    | rel h => exact h
    | cons h => cases h
  · intro h
    exact List.Lex.rel h
theorem g_lcS {H0 : Hp} {σ : L2.St} {te : TE} {x : Str} {ys : List V} {i : Nat} {g : TG} {vs : List Nat} (hi : σ[i]? = some (some (.str x))) (hz : x.cps.size ≤ 1000) (hl : ys.length = x.cps.size)
    (he : ∀ (j c : Nat) (y : V), x.cps[j]? = some c → ys[j]? = some y → ∀ (H : Hp) (R : VK), Same H0 H → R y H →
      g (.str ⟨#[c]⟩) (wipe σ vs) H fun σ2 H2 => wipe σ2 vs = wipe σ vs ∧ te σ2 H2 R) :
    Gives H0 (tLc (iStr (tVar i)) g tYes te vs) (gLst (ys.map gEq)) σ := fun H Q s q => by
  have y := sizeLine_eq
  refine ⟨_, hi, x, rfl, fun D nD => ⟨fun k m H' => m = x.cps.size - k ∧ k ≤ x.cps.size ∧ Same H H' ∧ H' D = some (.lst (ys.take k)), ⟨_, rfl, Nat.zero_le _, same_put nD, upd_same⟩, ?_⟩⟩
  rintro k m H' ⟨rfl, hk, s', eD⟩
  by_cases hlt : k < x.cps.size
  · have hky : k < ys.length := by omega
    have hy := List.getElem?_eq_getElem hky
    refine .inr ⟨hlt, fun H'' => Same H H'' ∧ H'' D = some (.lst (ys.take (k + 1))), fun H'' p' => ⟨x.cps.size - (k + 1), by omega, rfl, hlt, p'.1, p'.2⟩, ?_⟩
    rintro v H'' ⟨rfl, c, hc, rfl⟩
    refine cast ?_ (he k c ys[k] hc hy H'' (fun y H4 => ∃ acc, H4 D = some (.lst acc) ∧ acc.length < sizeLine ∧ Same H (upd H4 D (.lst (acc ++ [y]))) ∧ upd H4 D (.lst (acc ++ [y])) D = some (.lst (ys.take (k + 1)))) (s.trans s') ⟨_, eD, ?_, ?_, ?_⟩)
    · rfl
    · rw [List.length_take]
      omega
    · intro b o e
      rw [upd_ne (ne_of_none e nD)]
      exact s' _ _ e
    · rw [upd_same, List.take_add_one, hy]
      rfl
  · refine .inl ⟨by show x.cps.size ≤ k; omega, ?_⟩
    have hk' : k = ys.length := by omega
    rw [hk', List.take_length] at eD
    exact q H' _ s' ⟨D, ys, rfl, eD, allEq⟩
theorem scName : FnScope ["value", "letter"] ["value"] (defScope (topS 31)) := ⟨rfl, rfl, rfl, by decide +kernel, rfl, by decide +kernel, by decide +kernel⟩
theorem ok_name (F : Fun K "is_name" "is_name" (topS 31) f fd) (mI : mg "isinstance" = none) (ms : mg "str" = none) (ml : mg "len" = none) (ma : mg "all" = none) {tML : Tok} (gML : mg "MOST_LETTERS" = some (.int 8 tML)) :
    FnOk P w K mg base CX0 1 f fd ["value"] (spName K) := by
  refine F.ok scName (fun vs H Q E h => ?_) (fun cdv A outer s H vs Q E hr h => ?_)
  · obtain ⟨x, d, rfl, _⟩ := h
    rfl
  · obtain ⟨x, d, rfl, hd, ho, q⟩ := h
    refine ⟨_, pss_cons (ps_if (PW.pt (pw_or (pt_not (pt_val (pe_isT (.inr (.inr (.inr rfl))) mI (fun _ => pv 0) (fun _ => ty_of rfl ms (by decide +kernel)))))
        (pw_or1 (pt_not (pt_chain op_le op_le pe_int (pe_callB call_len_str (by rfl) ml PySem.boot_len (pa_cons (pv 0) pa_nil)) (pe_glob (v := .int 8) rfl gML ⟨_, rfl⟩)))))) (pss_one (ps_ret pe_bl)) pss_nil)
      (pss_one (ps_ret (pe_callB (cr_all rfl) (by rfl) ma (by decide +kernel) (pa_cons (pe_lc (own := [("letter", 1)]) (g := gName 1) (tt := tYes) (te := tChain rLeS rLeS (tC (.str "a")) (tVar 1) (tC (.str "z"))) rfl scName.nd (pi_str (pv 0))
        (blkOk_by (N := ["value", "letter"]) (sc := defScope (topS 31)) (by decide +kernel)) (fun _ _ _ _ _ => pg_name (i := 1) scName.nd rfl (Or.inl rfl)) (fun _ _ _ _ _ => pts_nil) (fun _ _ _ _ _ => pe_chain op_le_str op_le_str pe_str (pv 1) pe_str)) pa_nil)))), ?_⟩
    by_cases hs : ∃ z, d = .str z
    · obtain ⟨z, rfl⟩ := hs
      have ex : x = .str z := by
        cases hd
        rfl
      subst ex
      have hz : z.length ≤ 1000 := by
        rw [okS] at ho
        exact of_decide_eq_true ho
      refine s_ifB (t_or (t_not (t_isT rfl hd)) fun _ => t_not (t_chainI (g_lenS rfl hz))) (fun e H' s' => ?_) (fun e H' s' => ?_)
      · rw [isD_str] at e
        have e' : (decide ((1 : Int) ≤ z.length) && decide ((z.length : Int) ≤ 8)) = false := by
          revert e
          cases (decide ((1 : Int) ≤ z.length) && decide ((z.length : Int) ≤ 8)) <;> simp
        have w0 : nameD (.str z) = false := by
          show (decide (1 ≤ z.length) && (decide (z.length ≤ 8) && _)) = false
          rw [← Bool.and_assoc]
          have e2 : (decide (1 ≤ z.length) && decide (z.length ≤ 8)) = false := by
            rw [Bool.and_eq_false_iff] at e' ⊢
            rcases e' with h | h
            · left
              have := of_decide_eq_false h
              exact decide_eq_false (by omega)
            · right
              have := of_decide_eq_false h
              exact decide_eq_false (by omega)
          rw [e2, Bool.false_and]
        have qq := q H' s'
        rw [w0] at qq
        exact qq
      · rw [isD_str] at e
        have e' : (decide ((1 : Int) ≤ z.length) && decide ((z.length : Int) ≤ 8)) = true := by
          revert e
          cases (decide ((1 : Int) ≤ z.length) && decide ((z.length : Int) ≤ 8)) <;> simp
        rw [Bool.and_eq_true] at e'
        have l1 := of_decide_eq_true e'.1
        have l2 := of_decide_eq_true e'.2
        let bs : List Bool := z.cps.toList.map fun c => decide (97 ≤ c) && decide (c ≤ 122)
        have hlc : Gives H' (tLc (iStr (tVar 0)) (gName 1) tYes (tChain rLeS rLeS (tC (.str "a")) (tVar 1) (tC (.str "z"))) [1]) (gLst ((bs.map V.bl).map gEq)) [some (.str z), none] := by
          refine g_lcS rfl hz (by simp [bs]) fun j c y hc hy HH R sH hR => ⟨rfl, ?_⟩
          have ey : y = .bl (decide (97 ≤ c) && decide (c ≤ 122)) := by
            rw [List.getElem?_map, List.getElem?_map, Array.getElem?_toList, hc] at hy
            exact (Option.some.inj hy).symm
          have b1 : (!decide (([c] : List Nat) < [97])) = decide (97 ≤ c) := by
            rw [lt_one, ← decide_not, decide_eq_decide]
            omega
          have b2 : (!decide (([122] : List Nat) < [c])) = decide (c ≤ 122) := by
            rw [lt_one, ← decide_not, decide_eq_decide]
            omega
          refine ⟨_, rfl, _, _, rfl, rfl, _, rfl, ?_⟩
          show if (!decide (([c] : List Nat) < [97])) = true then _ else _
          rw [b1]
          refine ite2 (fun h => ?_) (fun h => ?_)
          · refine ⟨_, _, rfl, rfl, ?_⟩
            show R (.bl (!decide (([122] : List Nat) < [c]))) HH
            rw [b2]
            rw [ey, h, Bool.true_and] at hR
            exact hR
          · rw [ey, Bool.eq_false_iff.mpr h, Bool.false_and] at hR
            exact hR
        have hlc : Gives H' (tLc (iStr (tVar 0)) (gName 1) tYes (tChain rLeS rLeS (tC (.str "a")) (tVar 1) (tC (.str "z"))) [1]) (gLst (bs.map fun b => gEq (.bl b))) [some (.str z), none] := by
          rw [List.map_map] at hlc
          exact hlc
        refine s_ret (g_all (K := K) hlc) fun H2 u s2 g2 => ?_
        have eu : u = .bl (bs.all id) := g2
        subst eu
        have w1 : nameD (.str z) = bs.all id := by
          show (decide (1 ≤ z.length) && (decide (z.length ≤ 8) && _)) = _
          rw [decide_eq_true (show 1 ≤ z.length by omega), decide_eq_true (show z.length ≤ 8 by omega), Bool.true_and, Bool.true_and, List.all_map]
          rfl
        have qq := q H2 (s'.trans s2)
        rw [w1] at qq
        exact qq
    · have w0 : nameD d = false := by
        cases d <;> first | rfl | exact absurd ⟨_, rfl⟩ hs
      have w1 : isD "str" d = false := by
        rw [isD_str]
        cases d <;> first | rfl | exact absurd ⟨_, rfl⟩ hs
      have t1 := t_not (t_isT (T := "str") (σ := [some x, none]) (i := 0) rfl hd)
      rw [w1] at t1
      refine s_ifB (b := true) (t_or (c := true) t1 fun z => (nomatch z)) (fun e H' s' => ?_) (fun e => nomatch e)
      have qq := q H' s'
      rw [w0] at qq
      exact qq
end
/-! ## room_behind, room_behind_items, is_program -/
section
variable {K : PySem.W.Frag} {H0 : Hp} {σ : L2.St} {te tf : TE} {i : Nat} {x : V} {d : PyData} {b c : Bool}
theorem g_lenT {a : Addr} {ds : List PyData} (h : σ[i]? = some (some (.ref a))) (hd : Da K H0 (.ref a) (.tuple ds)) : Gives H0 (tCB (rLenK K) (tCons (tVar i) tNil)) (gEq (.int (ds.length : Nat))) σ := fun H Q s q => by
  cases hd.mono s with
  | @tup _ xs _ hs ha =>
    have hl : xs.length = ds.length := daAll_len ha
    refine ⟨_, h, a, xs, rfl, .inr hs, ?_⟩
    rw [hl]
    exact q H _ Same.rfl' rfl
theorem t_eqS {t : Str} (h : σ[i]? = some (some x)) (hd : Da K H0 x d) : GivesT H0 (tTest (tOp (rEqS K) (tVar i) (tC (.str t)))) (isStrD t d) σ := fun H Q s q =>
  ⟨_, h, d, t, hd.mono s, rfl, _, rfl, q H Same.rfl'⟩
theorem t_neSt {t : Str} (h : σ[i]? = some (some x)) (hd : Da K H0 x d) : GivesT H0 (tTest (tOp (rNeS K) (tVar i) (tC (.str t)))) (!isStrD t d) σ := fun H Q s q =>
  ⟨_, h, d, t, hd.mono s, rfl, _, rfl, q H Same.rfl'⟩
theorem g_in {lo hi : Int} (h : σ[i]? = some (some x)) (hd : Da K H0 x d) : Gives H0 (tCall (spIn K) [] E0 (tCons (tVar i) (tCons (tC (.int lo)) (tCons (tC (.int hi)) tNil)))) (gEq (.bl (intD lo hi d))) σ := fun H Q s q =>
  ⟨_, h, x, d, lo, hi, rfl, hd.mono s, fun H' s' => q H' _ s' rfl⟩
theorem g_name (h : σ[i]? = some (some x)) (hd : Da K H0 x d) (ho : okS d = true) : Gives H0 (tCall (spName K) [] E0 (tCons (tVar i) tNil)) (gEq (.bl (nameD d))) σ := fun H Q s q =>
  ⟨_, h, x, d, rfl, hd.mono s, ho, fun H' s' => q H' _ s' rfl⟩
end
/-! ### the mirror -/
def foldR (f : PyData → Int → Option Int) : List PyData → Int → Option Int
  | [], r => some r
  | d :: ds, r => (f d r).bind (foldR f ds)
def itemR (rec : PyData → Int → Option Int) (dep : Nat) (d : PyData) (room : Int) : Option Int :=
  if room = 0 then none else match d with
  | .tuple [k, a, b] =>
    if isStrD "line" k = true then (if (nameD a && intD 1 1000000000000 b) = true then some (room - 1) else none)
    else if (!isStrD "loop" k || (decide (dep = 0) || !intD 1 1000000000000000000 a)) = true then none else rec b (room - 1)
  | _ => none
def itemsW (rec : PyData → Int → Option Int) (dep : Nat) (d : PyData) (room : Int) : Option Int := match d with
  | .tuple ds => if (decide ((1 : Int) ≤ (ds.length : Nat)) && decide (((ds.length : Nat) : Int) ≤ 20)) = true then foldR (itemR rec dep) ds room else none
  | _ => none
def itemsR : Nat → PyData → Int → Option Int
  | 0 => itemsW (fun _ _ => none) 0
  | n + 1 => itemsW (itemsR n) (n + 1)
def recR : Nat → PyData → Int → Option Int
  | 0 => fun _ _ => none
  | n + 1 => itemsR n
theorem itemsR_eq (dep : Nat) : itemsR dep = itemsW (recR dep) dep := by
  cases dep <;> rfl
def optV : Option Int → V
  | none => .non
  | some r => .int r
theorem itemR_bound {rec : PyData → Int → Option Int} {dep : Nat} (hrec : ∀ d r r', 0 ≤ r → rec d r = some r' → 0 ≤ r' ∧ r' ≤ r) {d : PyData} {r r' : Int} (h0 : 0 ≤ r) (h : itemR rec dep d r = some r') : 0 ≤ r' ∧ r' ≤ r := by
  unfold itemR at h
  by_cases hr : r = 0
  · rw [if_pos hr] at h
    cases h
  · rw [if_neg hr] at h
    split at h
    · split at h
      · split at h
        · cases h
          omega
        · cases h
      · split at h
        · cases h
        · have z := hrec _ _ _ (by omega) h
          omega
    · cases h
theorem foldR_bound {f : PyData → Int → Option Int} (hf : ∀ d r r', 0 ≤ r → f d r = some r' → 0 ≤ r' ∧ r' ≤ r) : ∀ {ds : List PyData} {r r' : Int}, 0 ≤ r → foldR f ds r = some r' → 0 ≤ r' ∧ r' ≤ r
  | [], r, r', h0, h => by
    cases h
    omega
  | d :: ds, r, r', h0, h => by
    unfold foldR at h
    cases e : f d r with
    | none =>
      rw [e] at h
      cases h
    | some r1 =>
      rw [e] at h
      have z1 := hf d r r1 h0 e
      have z2 := foldR_bound hf z1.1 h
      omega
theorem itemsR_bound : ∀ (dep : Nat) (d : PyData) (r r' : Int), 0 ≤ r → itemsR dep d r = some r' → 0 ≤ r' ∧ r' ≤ r := by
  have key : ∀ (rec : PyData → Int → Option Int) (dep : Nat), (∀ d r r', 0 ≤ r → rec d r = some r' → 0 ≤ r' ∧ r' ≤ r) → ∀ d r r', 0 ≤ r → itemsW rec dep d r = some r' → 0 ≤ r' ∧ r' ≤ r := by
    intro rec dep hrec d r r' h0 h
    unfold itemsW at h
    split at h
    · split at h
      · exact foldR_bound (fun d r r' a b => itemR_bound hrec a b) h0 h
      · cases h
    · cases h
  intro dep
  induction dep with
  | zero => exact key _ 0 fun d r r' _ h => (nomatch h)
  | succ n ih => exact key _ (n + 1) ih
def spRB (K : PySem.W.Frag) (dep : Nat) : Sp := fun vs H Q _ => ∃ (x : V) (d : PyData) (room : Int), vs = [x, .int (dep : Nat), .int room] ∧ Da K H x d ∧ okS d = true ∧ 0 ≤ room ∧ room ≤ 1000 ∧
  ∀ H', Same H H' → Q (optV (itemR (recR dep) dep d room)) H'
def spRI (K : PySem.W.Frag) (dep : Nat) : Sp := fun vs H Q _ => ∃ (x : V) (d : PyData) (room : Int), vs = [x, .int (dep : Nat), .int room] ∧ Da K H x d ∧ okS d = true ∧ 0 ≤ room ∧ room ≤ 1000 ∧
  ∀ H', Same H H' → Q (optV (itemsR dep d room)) H'
theorem scRB : FnScope ["item", "depth", "room", "kind", "first", "second", "is_line"] ["item", "depth", "room"] (defScope (topS 30)) := ⟨rfl, rfl, rfl, by decide +kernel, rfl, by decide +kernel, by decide +kernel⟩
theorem scRI : FnScope ["items", "depth", "room", "item"] ["items", "depth", "room"] (defScope (topS 29)) := ⟨rfl, rfl, rfl, by decide +kernel, rfl, by decide +kernel, by decide +kernel⟩
section
variable {P : Program} {w : World} {K : PySem.W.Frag} {mg : Str → Option Value} {base : Heap} {f fN fW fI : Addr} {fd fdN fdW fdI : FuncData}
theorem rb_step {k dep : Nat} {spR : Sp} {tT tR : Tok} (F : Fun K "room_behind" "room_behind" (topS 30) f fd) (GN : FnOk P w K mg base CX0 1 fN fdN ["value"] (spName K)) (bN : Binds K fdN ["value"] []) (gN : mg "is_name" = some (.ref fN)) (kN : PySem.W.keepIn K (.ref fN) = true)
    (GW : FnOk P w K mg base CX0 2 fW fdW ["value", "least", "most"] (spIn K)) (bW : Binds K fdW ["value", "least", "most"] []) (gW : mg "is_integer_within" = some (.ref fW)) (kW : PySem.W.keepIn K (.ref fW) = true)
    (GI : FnOk P w K mg base CX0 k fI fdI ["items", "depth", "room"] spR) (bI : Binds K fdI ["items", "depth", "room"] []) (gI : mg "room_behind_items" = some (.ref fI)) (kI : PySem.W.keepIn K (.ref fI) = true)
    (hk : 2 ≤ k) (hR : dep = 0 ∨ ∃ d, dep = d + 1 ∧ spR = spRI K d) (mI : mg "isinstance" = none) (mt : mg "tuple" = none) (ml : mg "len" = none) (gT : mg "MOST_TICKS" = some (.int 1000000000000 tT)) (gR : mg "MOST_ROUNDS" = some (.int 1000000000000000000 tR)) :
    FnOk P w K mg base CX0 (k + 1) f fd ["item", "depth", "room"] (spRB K dep) := by
  refine F.ok scRB (fun vs H Q E h => ?_) (fun cdv A outer s H vs Q E hr h => ?_)
  · obtain ⟨x, d, room, rfl, _⟩ := h
    rfl
  · obtain ⟨x, d, room, rfl, hd, ho, r0, r1, q⟩ := h
    have hr1 : Room 1 _ := hr.mono (Nat.le_trans (by decide) hk)
    have hr2 : Room 2 _ := hr.mono hk
    have hu : (A.deeper (envOfC "room_behind" (defScope (topS 30)) s.heap.objs.size f cdv)).units < cLine := hr.units0
    refine ⟨_, (pss_cons (ps_if (PW.pt (pw_or (pt_cmpR op_eq (pv 2) pe_int (nomark _)) (pw_or (pt_not (pt_val (pe_isT (.inr (.inr (.inl rfl))) mI (fun _ => pv 0) (fun _ => ty_of rfl mt (by decide +kernel))))) (pw_or1 (pt_cmpR op_ne (pe_callB call_len_seq (by rfl) ml PySem.boot_len (pa_cons (pv 0) pa_nil)) pe_int (nomark _)))))) (pss_one (ps_ret pe_non)) pss_nil) (pss_cons (ps_asg (pv 0) (pg_tup rfl (pgs_cons (pg_name (i := 3) scRB.nd rfl (.inl rfl)) (pgs_cons (pg_name (i := 4) scRB.nd rfl (.inl rfl)) (pgs_cons (pg_name (i := 5) scRB.nd rfl (.inl rfl)) pgs_nil))))) (pss_cons (ps_if (pt_cmpR (op_eqS hu) (pv 3) pe_str (nomark _)) (pss_cons (ps_set (i := 6) scRB.nd rfl (.inl rfl) (pe_and (pe_call GN hr1 (by rfl) gN kN bN .nil pass0 (pa_cons (pv 4) pa_nil)) (pe_one (pe_call GW hr2 (by rfl) gW kW bW .nil pass0 (pa_cons (pv 5) (pa_cons pe_int (pa_cons (pe_glob (v := .int 1000000000000) rfl gT ⟨_, rfl⟩) pa_nil))))))) (pss_one (ps_ret (pe_ifExp (pt_val (pv 6)) (pe_op op_sub (pv 2) pe_int) pe_non)))) pss_nil) (pss_cons (ps_if (PW.pt (pw_or (pt_cmpR (op_neS hu) (pv 3) pe_str (nomark _)) (pw_or (pt_cmpR op_eq (pv 1) pe_int (nomark _)) (pw_or1 (pt_not (pt_val (pe_call GW hr2 (by rfl) gW kW bW .nil pass0 (pa_cons (pv 4) (pa_cons pe_int (pa_cons (pe_glob (v := .int 1000000000000000000) rfl gR ⟨_, rfl⟩) pa_nil)))))))))) (pss_one (ps_ret pe_non)) pss_nil) (pss_one (ps_ret (pe_call GI hr (by rfl) gI kI bI .nil pass0 (pa_cons (pv 5) (pa_cons (pe_op op_sub (pv 1) pe_int) (pa_cons (pe_op op_sub (pv 2) pe_int) pa_nil)))))))))), ?_⟩
    by_cases ht : ∃ ds, d = .tuple ds
    · obtain ⟨ds, rfl⟩ := ht
      obtain ⟨a, rfl⟩ : ∃ a, x = .ref a := by
        cases hd
        exact ⟨_, rfl⟩
      have e1 : isD "tuple" (.tuple ds) = true := isD_tuple _
      refine s_ifB (t_or (t_eqI rfl) fun _ => t_or (t_not (t_isT rfl hd)) fun _ => t_neI (g_lenT rfl hd)) (fun e H' s' => ?_) (fun e H' s' => ?_)
      · rw [e1] at e
        have w0 : itemR (recR dep) dep (.tuple ds) room = none := by
          unfold itemR
          by_cases hz : room = 0
          · rw [if_pos hz]
          · rw [if_neg hz]
            have h3 : ds.length ≠ 3 := fun z => by
              rw [decide_eq_false hz, decide_eq_true (show ((ds.length : Nat) : Int) = 3 by omega)] at e
              cases e
            match ds, h3 with
            | [], _ => rfl
            | [_], _ => rfl
            | [_, _], _ => rfl
            | [_, _, _], h => exact absurd rfl h
            | _ :: _ :: _ :: _ :: _, _ => rfl
        have qq := q H' s'
        rw [w0] at qq
        exact qq
      · rw [e1] at e
        have hz : room ≠ 0 := fun z => by
          rw [decide_eq_true z] at e
          cases e
        have h3 : ds.length = 3 := by
          rw [decide_eq_false hz] at e
          by_cases z : ((ds.length : Nat) : Int) = 3
          · omega
          · rw [decide_eq_false z] at e
            cases e
        match ds, h3, hd, ho, q with
        | [kd, ad, bd], _, hd, ho, q =>
        have hd' := hd.mono s'
        cases hd' with
        | @tup _ xs _ hs ha =>
        cases ha with
        | @cons v1 _ _ _ d1 ha =>
        cases ha with
        | @cons v2 _ _ _ d2 ha =>
        cases ha with
        | @cons v3 _ _ _ d3 ha =>
        cases ha
        have o2 : okS ad = true := okSs_mem (ds := [kd, ad, bd]) (by rw [okS] at ho; exact ho) ad (by simp)
        have o3 : okS bd = true := okSs_mem (ds := [kd, ad, bd]) (by rw [okS] at ho; exact ho) bd (by simp)
        refine ⟨_, rfl, a, [v1, v2, v3], rfl, hs, rfl, v1, [v2, v3], rfl, v2, [v3], rfl, v3, [], rfl, rfl, ?_⟩
        have w0 : itemR (recR dep) dep (.tuple [kd, ad, bd]) room = (if isStrD "line" kd = true then (if (nameD ad && intD 1 1000000000000 bd) = true then some (room - 1) else none)
            else if (!isStrD "loop" kd || (decide (dep = 0) || !intD 1 1000000000000000000 ad)) = true then none else recR dep bd (room - 1)) := by
          unfold itemR
          rw [if_neg hz]
        rw [w0] at q
        dsimp only
        refine s_ifB (t_eqS (K := K) (x := v1) (d := kd) rfl d1) (fun eL H2 s2 => ?_) (fun eL H2 s2 => ?_)
        · rw [if_pos eL] at q
          refine s_set (i := 6) (g_and (g_name (K := K) (x := v2) (d := ad) rfl (d2.mono s2) o2) fun _ => g_in (K := K) (x := v3) (d := bd) rfl (d3.mono s2)) fun H3 u s3 gu => ?_
          have eu : u = .bl (nameD ad && intD 1 1000000000000 bd) := gu
          subst eu
          have qq := q H3 ((s'.trans s2).trans s3)
          refine ⟨_, rfl, _, rfl, ?_⟩
          by_cases hb : (nameD ad && intD 1 1000000000000 bd) = true
          · rw [if_pos hb] at qq ⊢
            exact ⟨_, rfl, _, _, rfl, rfl, qq⟩
          · rw [if_neg hb] at qq ⊢
            exact qq
        · rw [eL, if_neg Bool.false_ne_true] at q
          refine s_ifB (t_or (t_neSt (K := K) (x := v1) (d := kd) rfl (d1.mono s2)) fun _ => t_or (t_eqI (r := (dep : Nat)) (k := 0) rfl) fun _ => t_not (t_valB (g_in (K := K) (x := v2) (d := ad) rfl (d2.mono s2)))) (fun e5 H3 s3 => ?_) (fun e5 H3 s3 => ?_)
          · have qq := q H3 ((s'.trans s2).trans s3)
            have e6 : (!isStrD "loop" kd || (decide (dep = 0) || !intD 1 1000000000000000000 ad)) = true := by
              rw [← e5]
              congr 2
              rw [decide_eq_decide]
              omega
            rw [if_pos e6] at qq
            exact qq
          · have e6 : (!isStrD "loop" kd || (decide (dep = 0) || !intD 1 1000000000000000000 ad)) = false := by
              rw [← e5]
              congr 2
              rw [decide_eq_decide]
              omega
            rw [e6, if_neg Bool.false_ne_true] at q
            have hdep : dep ≠ 0 := fun z => by
              rw [z] at e6
              simp at e6
            obtain ⟨dd, rfl, rfl⟩ : ∃ dd, dep = dd + 1 ∧ spR = spRI K dd := by
              rcases hR with h | h
              · exact absurd h hdep
              · exact h
            refine ⟨_, rfl, _, rfl, _, _, rfl, rfl, _, rfl, _, _, rfl, rfl, v3, bd, room - 1, ?_, d3.mono (s2.trans s3), o3, by omega, by omega, fun H4 s4 => q H4 (((s'.trans s2).trans s3).trans s4)⟩
            show [v3, V.int (((dd + 1 : Nat) : Int) - 1), V.int (room - 1)] = [v3, V.int (dd : Nat), V.int (room - 1)]
            have z : (((dd + 1 : Nat) : Int) - 1) = (dd : Nat) := by omega
            rw [z]
    · have w0 : itemR (recR dep) dep d room = none := by
        unfold itemR
        by_cases hz : room = 0
        · rw [if_pos hz]
        · rw [if_neg hz]
          cases d <;> first | rfl | exact absurd ⟨_, rfl⟩ ht
      have w1 : isD "tuple" d = false := by
        rw [isD_tuple]
        cases d <;> first | rfl | exact absurd ⟨_, rfl⟩ ht
      have t1 := t_not (t_isT (T := "tuple") (σ := [some x, some (.int (dep : Nat)), some (.int room), none, none, none, none]) (i := 0) rfl hd)
      rw [w1] at t1
      refine s_ifB (b := decide (room = 0) || (true || true)) (t_or (t_eqI rfl) fun _ => t_or (c := true) t1 fun z => (nomatch z)) (fun e H' s' => ?_) (fun e => ?_)
      · have qq := q H' s'
        rw [w0] at qq
        exact qq
      · rw [Bool.true_or, Bool.or_true] at e
        cases e
theorem fold_at {f : PyData → Int → Option Int} {ds : List PyData} {i : Nat} {d : PyData} {r : Int} (h : ds[i]? = some d) : foldR f (ds.drop i) r = (f d r).bind (foldR f (ds.drop (i + 1))) := by
  obtain ⟨hi, e⟩ := List.getElem?_eq_some_iff.mp h
  rw [List.drop_eq_getElem_cons hi, e]
  rfl
theorem daAll_get {H : Hp} : ∀ {vs : List V} {ds : List PyData} {i : Nat} {v : V}, DaAll K H vs ds → vs[i]? = some v → ∃ d, ds[i]? = some d ∧ Da K H v d
  | _, _, _, _, .nil, h => by simp at h
  | _, _, 0, _, .cons a _, h => by
    simp at h
    subst h
    exact ⟨_, rfl, a⟩
  | _, _, i + 1, _, .cons _ t, h => daAll_get (i := i) t (by simpa using h)
theorem recR_bound (dep : Nat) : ∀ d r r', 0 ≤ r → recR dep d r = some r' → 0 ≤ r' ∧ r' ≤ r := by
  cases dep with
  | zero => exact fun d r r' _ h => (nomatch h)
  | succ n => exact itemsR_bound n
theorem ri_step {k dep : Nat} {tB : Tok} {fB : Addr} {fdB : FuncData} (F : Fun K "room_behind_items" "room_behind_items" (topS 29) f fd) (GB : FnOk P w K mg base CX0 k fB fdB ["item", "depth", "room"] (spRB K dep)) (bB : Binds K fdB ["item", "depth", "room"] []) (gB : mg "room_behind" = some (.ref fB))
    (kB : PySem.W.keepIn K (.ref fB) = true) (mI : mg "isinstance" = none) (mt : mg "tuple" = none) (ml : mg "len" = none) (gE : mg "MOST_BESIDE" = some (.int 20 tB)) :
    FnOk P w K mg base CX0 (k + 1) f fd ["items", "depth", "room"] (spRI K dep) := by
  refine F.ok scRI (fun vs H Q E h => ?_) (fun cdv A outer s H vs Q E hr h => ?_)
  · obtain ⟨x, d, room, rfl, _⟩ := h
    rfl
  · obtain ⟨x, d, room, rfl, hd, ho, r0, r1, q⟩ := h
    refine ⟨_, (pss_cons (ps_if (PW.pt (pw_or (pt_not (pt_val (pe_isT (.inr (.inr (.inl rfl))) mI (fun _ => pv 0) (fun _ => ty_of rfl mt (by decide +kernel))))) (pw_or1 (pt_not (pt_chain op_le op_le pe_int (pe_callB call_len_seq (by rfl) ml PySem.boot_len (pa_cons (pv 0) pa_nil)) (pe_glob (v := .int 20) rfl gE ⟨_, rfl⟩)))))) (pss_one (ps_ret pe_non)) pss_nil) (pss_cons (ps_for PassesOwn.never rfl (pi_tup (pv 0)) (pg_name (i := 3) scRI.nd rfl (.inl rfl)) (pss_cons (ps_set (i := 2) scRI.nd rfl (.inl rfl) (pe_call GB hr (by rfl) gB kB bB .nil pass0 (pa_cons (pv 3) (pa_cons (pv 1) (pa_cons (pv 2) pa_nil))))) (pss_one (ps_if (pt_cmpR op_isN (pv 2) pe_non (nomark _)) (pss_one (ps_ret pe_non)) pss_nil)))) (pss_one (ps_ret (pv 2))))), ?_⟩
    rw [itemsR_eq] at q
    by_cases ht : ∃ ds, d = .tuple ds
    · obtain ⟨ds, rfl⟩ := ht
      obtain ⟨a, rfl⟩ : ∃ a, x = .ref a := by
        cases hd
        exact ⟨_, rfl⟩
      have e1 : isD "tuple" (.tuple ds) = true := isD_tuple _
      refine s_ifB (t_or (t_not (t_isT rfl hd)) fun _ => t_not (t_chainI (g_lenT rfl hd))) (fun e H' s' => ?_) (fun e H' s' => ?_)
      · rw [e1, Bool.not_true, Bool.false_or, Bool.not_eq_true'] at e
        have w0 : itemsW (recR dep) dep (.tuple ds) room = none := by
          unfold itemsW
          dsimp only
          rw [e, if_neg Bool.false_ne_true]
        have qq := q H' s'
        rw [w0] at qq
        exact qq
      · rw [e1, Bool.not_true, Bool.false_or, Bool.not_eq_false'] at e
        have w0 : itemsW (recR dep) dep (.tuple ds) room = foldR (itemR (recR dep) dep) ds room := by
          unfold itemsW
          dsimp only
          rw [if_pos e]
        rw [w0] at q
        have hd' := hd.mono s'
        cases hd' with
        | @tup _ xs _ hs ha =>
        refine ⟨_, rfl, a, rfl, ⟨_, hs⟩, for_tup (K := K) (a := a) (xs := xs) (fun i σ' H'' => ∃ (r : Int) (y3 : Option V), σ' = [some (.ref a), some (.int (dep : Nat)), some (.int r), y3] ∧ 0 ≤ r ∧ r ≤ 1000 ∧
          foldR (itemR (recR dep) dep) ds room = foldR (itemR (recR dep) dep) (ds.drop i) r ∧ Same H' H'') ⟨room, none, rfl, r0, r1, rfl, Same.rfl'⟩ (fun i σ' H'' _ ⟨_, _, _, _, _, _, sA⟩ => seqT_mono sA hs) ?_ ?_⟩
        · rintro i y σ' HA hi ⟨r, y3, rfl, q0, q1, qf, sA⟩
          obtain ⟨di, hdi, hDi⟩ := daAll_get ha hi
          have hoi : okS di = true := okSs_mem (by rw [okS] at ho; exact ho) di (List.mem_of_getElem? hdi)
          refine ⟨_, rfl, _, rfl, _, rfl, y, di, r, rfl, hDi.mono sA, hoi, q0, q1, fun HB sB => ?_⟩
          have st := fold_at (f := itemR (recR dep) dep) (r := r) hdi
          rw [st] at qf
          cases er : itemR (recR dep) dep di r with
          | none =>
            rw [er] at qf
            refine ⟨_, rfl, rfl, _, rfl, ?_⟩
            refine iteT ?_
            have qq := q HB ((s'.trans sA).trans sB)
            rw [qf] at qq
            exact qq
          | some r' =>
            rw [er] at qf
            have hb := itemR_bound (recR_bound dep) q0 er
            refine ⟨_, rfl, rfl, _, rfl, ?_⟩
            refine iteF ?_
            exact ⟨r', _, rfl, hb.1, by omega, qf, sA.trans sB⟩
        · rintro σ' HA ⟨r, y3, rfl, q0, q1, qf, sA⟩
          have hl := daAll_len ha
          rw [hl, List.drop_length] at qf
          have qq := q HA (s'.trans sA)
          rw [qf] at qq
          exact ⟨_, rfl, qq⟩
    · have w0 : itemsW (recR dep) dep d room = none := by
        unfold itemsW
        cases d <;> first | rfl | exact absurd ⟨_, rfl⟩ ht
      have w1 : isD "tuple" d = false := by
        rw [isD_tuple]
        cases d <;> first | rfl | exact absurd ⟨_, rfl⟩ ht
      have t1 := t_not (t_isT (T := "tuple") (σ := [some x, some (.int (dep : Nat)), some (.int room), none]) (i := 0) rfl hd)
      rw [w1] at t1
      refine s_ifB (b := true || true) (t_or (c := true) t1 fun z => (nomatch z)) (fun e H' s' => ?_) (fun e => nomatch e)
      have qq := q H' s'
      rw [w0] at qq
      exact qq
/-- both, at every depth -/
theorem ok_ri {tT tR tB : Tok} {fB : Addr} {fdB : FuncData} (FI : Fun K "room_behind_items" "room_behind_items" (topS 29) fI fdI) (FB : Fun K "room_behind" "room_behind" (topS 30) fB fdB)
    (GN : FnOk P w K mg base CX0 1 fN fdN ["value"] (spName K)) (bN : Binds K fdN ["value"] []) (gN : mg "is_name" = some (.ref fN)) (kN : PySem.W.keepIn K (.ref fN) = true)
    (GW : FnOk P w K mg base CX0 2 fW fdW ["value", "least", "most"] (spIn K)) (bW : Binds K fdW ["value", "least", "most"] []) (gW : mg "is_integer_within" = some (.ref fW)) (kW : PySem.W.keepIn K (.ref fW) = true)
    (bI : Binds K fdI ["items", "depth", "room"] []) (gI : mg "room_behind_items" = some (.ref fI)) (bB : Binds K fdB ["item", "depth", "room"] []) (gB : mg "room_behind" = some (.ref fB))
    (mI : mg "isinstance" = none) (mt : mg "tuple" = none) (ml : mg "len" = none) (gT : mg "MOST_TICKS" = some (.int 1000000000000 tT)) (gR : mg "MOST_ROUNDS" = some (.int 1000000000000000000 tR)) (gE : mg "MOST_BESIDE" = some (.int 20 tB)) :
    ∀ dep : Nat, FnOk P w K mg base CX0 (2 * dep + 4) fI fdI ["items", "depth", "room"] (spRI K dep)
  | 0 => ri_step FI (rb_step (k := 2) FB GN bN gN kN GW bW gW kW no_fn bI gI FI.kp (Nat.le_refl 2) (.inl rfl) mI mt ml gT gR) bB gB FB.kp mI mt ml gE
  | n + 1 => ri_step FI (rb_step (k := 2 * n + 4) FB GN bN gN kN GW bW gW kW (ok_ri FI FB GN bN gN kN GW bW gW kW bI gI bB gB mI mt ml gT gR gE n) bI gI FI.kp (by omega) (.inr ⟨n, rfl, rfl⟩) mI mt ml gT gR) bB gB FB.kp mI mt ml gE
def spProg (K : PySem.W.Frag) : Sp := fun vs H Q _ => ∃ (x : V) (d : PyData), vs = [x] ∧ Da K H x d ∧ okS d = true ∧ ∀ H', Same H H' → Q (.bl (itemsR 5 d 60).isSome) H'
theorem scProg : FnScope ["value"] ["value"] (defScope (topS 28)) := ⟨rfl, rfl, rfl, by decide +kernel, rfl, by decide +kernel, by decide +kernel⟩
theorem ok_prog {tD tI : Tok} (F : Fun K "is_program" "is_program" (topS 28) f fd) (GI : FnOk P w K mg base CX0 14 fI fdI ["items", "depth", "room"] (spRI K 5)) (bI : Binds K fdI ["items", "depth", "room"] []) (gI : mg "room_behind_items" = some (.ref fI)) (kI : PySem.W.keepIn K (.ref fI) = true)
    (gD : mg "MOST_DEEP" = some (.int 5 tD)) (gM : mg "MOST_ITEMS" = some (.int 60 tI)) : FnOk P w K mg base CX0 15 f fd ["value"] (spProg K) := by
  refine F.ok scProg (fun vs H Q E h => ?_) (fun cdv A outer s H vs Q E hr h => ?_)
  · obtain ⟨x, d, rfl, _⟩ := h
    rfl
  · obtain ⟨x, d, rfl, hd, ho, q⟩ := h
    refine ⟨_, pss_one (ps_ret (pe_cmpR op_notN (pe_call GI hr (by rfl) gI kI bI .nil pass0 (pa_cons (pv 0) (pa_cons (pe_glob (v := .int 5) rfl gD ⟨_, rfl⟩) (pa_cons (pe_glob (v := .int 60) rfl gM ⟨_, rfl⟩) pa_nil)))) pe_non (nomark _))), ?_⟩
    refine ⟨_, rfl, x, d, 60, rfl, hd, ho, by decide, by decide, fun H' s' => ⟨rfl, ?_⟩⟩
    have qq := q H' s'
    have z : (!decide (optV (itemsR 5 d 60) = V.non)) = (itemsR 5 d 60).isSome := by
      cases itemsR 5 d 60 with
      | none => rfl
      | some r => rfl
    rw [z]
    exact qq
end
end Ev

/-! ## Sums over classes -/
namespace Ev
open PySem
def sumK (h : Nat → Int) : Nat → Int
  | 0 => 0
  | n + 1 => sumK h n + h n
theorem sumK_congr {g h : Nat → Int} : ∀ {n : Nat}, (∀ k, k < n → g k = h k) → sumK g n = sumK h n
  | 0, _ => rfl
  | n + 1, e => by
    show sumK g n + g n = sumK h n + h n
    rw [sumK_congr fun k hk => e k (Nat.lt_succ_of_lt hk), e n (Nat.lt_succ_self n)]
theorem sumK_left (h : Nat → Int) : ∀ n : Nat, sumK h (n + 1) = h 0 + sumK (fun k => h (k + 1)) n
  | 0 => by
    show 0 + h 0 = h 0 + 0
    omega
  | n + 1 => by
    show sumK h (n + 1) + h (n + 1) = h 0 + (sumK (fun k => h (k + 1)) n + h (n + 1))
    rw [sumK_left h n]
    omega
theorem sumK_app (h : Nat → Int) (m : Nat) : ∀ n : Nat, sumK h (m + n) = sumK h m + sumK (fun k => h (m + k)) n
  | 0 => by
    show sumK h m = sumK h m + 0
    omega
  | n + 1 => by
    show sumK h (m + n) + h (m + n) = sumK h m + (sumK (fun k => h (m + k)) n + h (m + n))
    rw [sumK_app h m n]
    omega
theorem sumK_zero : ∀ n : Nat, sumK (fun _ => 0) n = 0
  | 0 => rfl
  | n + 1 => by
    show sumK _ n + 0 = 0
    rw [sumK_zero n]
    rfl
theorem sumK_plus (g h : Nat → Int) : ∀ n : Nat, sumK (fun k => g k + h k) n = sumK g n + sumK h n
  | 0 => rfl
  | n + 1 => by
    show sumK _ n + (g n + h n) = (sumK g n + g n) + (sumK h n + h n)
    rw [sumK_plus g h n]
    omega
theorem sumK_mul (c : Int) (h : Nat → Int) : ∀ n : Nat, sumK (fun k => c * h k) n = c * sumK h n
  | 0 => (Int.mul_zero c).symm
  | n + 1 => by
    show sumK _ n + c * h n = c * (sumK h n + h n)
    rw [sumK_mul c h n, Int.mul_add]
theorem sumK_mulR (c : Int) (h : Nat → Int) (n : Nat) : sumK (fun k => h k * c) n = sumK h n * c := by
  rw [Int.mul_comm, ← sumK_mul]
  exact sumK_congr fun k _ => Int.mul_comm _ _
theorem sumK_swap (h : Nat → Nat → Int) (m : Nat) : ∀ n : Nat, sumK (fun a => sumK (fun b => h a b) m) n = sumK (fun b => sumK (fun a => h a b) n) m
  | 0 => (sumK_zero m).symm
  | n + 1 => by
    show sumK (fun a => sumK (fun b => h a b) m) n + sumK (fun b => h n b) m = sumK (fun b => sumK (fun a => h a b) n + h n b) m
    rw [sumK_swap h m n, sumK_plus]
theorem sumK_shift1 (h : Nat → Int) (m : Nat) : sumK (fun a => h ((a + 1) % (m + 1))) (m + 1) = sumK h (m + 1) := by
  show sumK (fun a => h ((a + 1) % (m + 1))) m + h ((m + 1) % (m + 1)) = _
  rw [sumK_left h m, Nat.mod_self, sumK_congr (h := fun k => h (k + 1)) fun k hk => by rw [Nat.mod_eq_of_lt (by omega)]]
  omega
theorem sumK_shift {m : Nat} (hm : 0 < m) (h : Nat → Int) : ∀ s : Nat, sumK (fun a => h ((a + s) % m)) m = sumK h m
  | 0 => sumK_congr fun k hk => by rw [Nat.add_zero, Nat.mod_eq_of_lt hk]
  | s + 1 => by
    rw [← sumK_shift hm h s]
    obtain ⟨m', rfl⟩ : ∃ m', m = m' + 1 := ⟨m - 1, by omega⟩
    rw [← sumK_shift1 (fun a => h ((a + s) % (m' + 1))) m']
    exact sumK_congr fun k _ => by rw [Nat.mod_add_mod, show k + (s + 1) = k + 1 + s by omega]
theorem sumK_rev (h : Nat → Int) : ∀ n : Nat, sumK (fun k => h (n - 1 - k)) n = sumK h n
  | 0 => rfl
  | n + 1 => by
    rw [sumK_left]
    show h (n + 1 - 1 - 0) + sumK (fun k => h (n + 1 - 1 - (k + 1))) n = sumK h n + h n
    rw [← sumK_rev h n, sumK_congr (g := fun k => h (n + 1 - 1 - (k + 1))) (h := fun k => h (n - 1 - k)) fun k _ => by rw [show n + 1 - 1 - (k + 1) = n - 1 - k by omega]]
    rw [show n + 1 - 1 - 0 = n by omega]
    omega
theorem sumK_pick {c : Nat} (h : Nat → Int) : ∀ {m : Nat}, c < m → sumK (fun b => h b * (if b = c then 1 else 0)) m = h c
  | m + 1, hc => by
    show sumK _ m + h m * (if m = c then 1 else 0) = h c
    by_cases e : m = c
    · subst e
      rw [if_pos rfl, sumK_congr (h := fun _ => 0) fun k hk => by rw [if_neg (by omega), Int.mul_zero], sumK_zero]
      omega
    · rw [if_neg e, sumK_pick h (show c < m by omega)]
      omega
theorem sumK_le {h : Nat → Int} {M : Int} : ∀ {n : Nat}, (∀ k, k < n → (h k).natAbs ≤ M) → (sumK h n).natAbs ≤ n * M
  | 0, _ => by
    show ((0 : Int).natAbs : Int) ≤ 0 * M
    rw [Int.zero_mul]
    decide
  | n + 1, e => by
    show ((sumK h n + h n).natAbs : Int) ≤ ((n + 1 : Nat) : Int) * M
    have a := sumK_le fun k hk => e k (Nat.lt_succ_of_lt hk)
    have b := e n (Nat.lt_succ_self n)
    have c := Int.natAbs_add_le (sumK h n) (h n)
    rw [show ((n + 1 : Nat) : Int) * M = n * M + M by rw [Int.natCast_add, Int.add_mul]; simp]
    omega
theorem sumK_nn {h : Nat → Int} : ∀ {n : Nat}, (∀ k, k < n → 0 ≤ h k) → 0 ≤ sumK h n
  | 0, _ => Int.le_refl 0
  | n + 1, e => by
    have a := sumK_nn fun k hk => e k (Nat.lt_succ_of_lt hk)
    have b := e n (Nat.lt_succ_self n)
    show 0 ≤ sumK h n + h n
    omega
/-! ### classes, turned back -/
def rot (m c k : Nat) : Nat := (((c : Int) - (k : Int)) % (m : Int)).toNat
section
variable {m : Nat}
theorem rot_int (hm : 0 < m) (c k : Nat) : ((rot m c k : Nat) : Int) = ((c : Int) - k) % m := Int.toNat_of_nonneg (Int.emod_nonneg _ (by omega))
theorem rot_lt (hm : 0 < m) (c k : Nat) : rot m c k < m := by
  have a := rot_int hm c k
  have b := Int.emod_lt_of_pos ((c : Int) - k) (show (0 : Int) < m by omega)
  omega
theorem emod_of {a b : Int} {q : Int} (h : a - b = m * q) : a % (m : Int) = b % m := by
  rw [show a = b + m * q by omega, Int.add_mul_emod_self_left]
/-- what is r modulo m -/
theorem rot_eq (hm : 0 < m) {c k r : Nat} {q : Int} (hr : r < m) (h : (c : Int) - k - r = m * q) : rot m c k = r := by
  have a := rot_int hm c k
  rw [emod_of h, Int.emod_eq_of_lt (by omega) (by omega)] at a
  omega
theorem div_mod (a : Int) (m : Nat) : a % (m : Int) = a - m * (a / m) := by
  have := Int.emod_add_mul_ediv a m
  omega
theorem rot_back (hm : 0 < m) {a k : Nat} (ha : a < m) : rot m ((a + k) % m) k = a := by
  refine rot_eq hm ha (q := -(((a + k : Nat) : Int) / m)) ?_
  have z := div_mod ((a + k : Nat) : Int) m
  rw [Int.natCast_emod, z, Int.mul_neg]
  omega
theorem reindex (hm : 0 < m) (f g : Nat → Int) (s : Nat) : sumK (fun b => f (rot m b s) * g b) m = sumK (fun a => f a * g ((a + s) % m)) m := by
  rw [← sumK_shift hm (fun b => f (rot m b s) * g b) s]
  exact sumK_congr fun a ha => by rw [rot_back hm ha]
theorem rot_per (hm : 0 < m) (c k : Nat) : rot m c (k + m) = rot m c k := by
  refine rot_eq hm (rot_lt hm _ _) (q := ((c : Int) - k) / m - 1) ?_
  rw [rot_int hm, div_mod]
  rw [Int.mul_sub, Int.mul_one]
  omega
theorem rot_zero (hm : 0 < m) {c : Nat} (hc : c < m) : rot m c 0 = c := rot_eq hm hc (q := 0) (by omega)
theorem rot_self (hm : 0 < m) {c : Nat} (hc : c < m) : rot m c m = c := rot_eq hm hc (q := -1) (by omega)
theorem rot_succ (hm : 0 < m) (c k : Nat) : rot m ((c + 1) % m) (k + 1) = rot m c k := by
  refine rot_eq hm (rot_lt hm _ _) (q := ((c : Int) - k) / m - ((c + 1 : Nat) : Int) / m) ?_
  rw [rot_int hm, div_mod, Int.natCast_emod, div_mod]
  rw [Int.mul_sub]
  omega
end
/-! ### what is begun again and again -/
def repF (m s t : Nat) (f : Nat → Int) (c : Nat) : Int := sumK (fun k => f (rot m c (k * s))) t
def mvF (m s : Nat) (f : Nat → Int) (c : Nat) : Int := f (rot m c s)
section
variable {m : Nat} {g : Nat → Int}
theorem sumK_per {h : Nat → Int} (L : Nat) (hp : ∀ k, h (k + L) = h k) (r : Nat) : ∀ q : Nat, sumK h (q * L + r) = q * sumK h L + sumK h r
  | 0 => by
    rw [Nat.zero_mul, Nat.zero_add]
    simp
  | q + 1 => by
    rw [show (q + 1) * L + r = L + (q * L + r) by rw [Nat.succ_mul]; omega, sumK_app, sumK_congr (h := h) (n := q * L + r) fun k _ => by rw [Nat.add_comm L k, hp], sumK_per L hp r q, Int.natCast_add, Int.add_mul]
    simp
    omega
/-- a window that moves on by one -/
theorem slide (hm : 0 < m) (r c : Nat) : sumK (fun k => g (rot m ((c + 1) % m) k)) r = sumK (fun k => g (rot m c k)) r + g ((c + 1) % m) - g (rot m ((c + 1) % m) r) := by
  have a := sumK_left (fun k => g (rot m ((c + 1) % m) k)) r
  have b : sumK (fun k => g (rot m ((c + 1) % m) k)) (r + 1) = sumK (fun k => g (rot m ((c + 1) % m) k)) r + g (rot m ((c + 1) % m) r) := rfl
  rw [sumK_congr (g := fun k => g (rot m ((c + 1) % m) (k + 1))) (h := fun k => g (rot m c k)) fun k _ => by rw [rot_succ hm]] at a
  rw [rot_zero hm (Nat.mod_lt _ hm)] at a
  omega
theorem win_all (hm : 0 < m) : ∀ c : Nat, c < m → sumK (fun k => g (rot m c k)) m = sumK g m
  | 0, _ => by
    have a := slide (g := g) hm m (m - 1)
    rw [show m - 1 + 1 = m by omega, Nat.mod_self, rot_self hm hm] at a
    have b : sumK (fun k => g (rot m (m - 1) k)) m = sumK g m := by
      rw [← sumK_rev g m]
      exact sumK_congr fun k hk => by rw [rot_eq hm (r := m - 1 - k) (q := 0) (by omega) (by omega)]
    omega
  | c + 1, hc => by
    have a := slide (g := g) hm m c
    rw [Nat.mod_eq_of_lt hc, rot_self hm hc, win_all hm c (by omega)] at a
    omega
theorem rep1 (hm : 0 < m) {c : Nat} (hc : c < m) (t : Nat) : repF m 1 t g c = (t / m : Nat) * sumK g m + sumK (fun k => g (rot m c k)) (t % m) := by
  unfold repF
  rw [sumK_congr (h := fun k => g (rot m c k)) fun k _ => by rw [Nat.mul_one]]
  have e : t = t / m * m + t % m := by rw [Nat.mul_comm]; exact (Nat.div_add_mod t m).symm
  conv => lhs; rw [e]
  rw [sumK_per m (fun k => by rw [rot_per hm]), win_all hm c hc]
/-- the last r of a ring -/
theorem tail_sum (hm : 0 < m) {r : Nat} (hr : r ≤ m) : sumK (fun k => g (m - r + k)) r = sumK (fun k => g (rot m (m - 1) k)) r := by
  rw [← sumK_rev (fun k => g (m - r + k)) r]
  exact sumK_congr fun k hk => by rw [rot_eq hm (r := m - 1 - k) (q := 0) (by omega) (by omega), show m - r + (r - 1 - k) = m - 1 - k by omega]
end
/-! ### cycles -/
theorem bezout (a b : Nat) : ∃ x y : Int, (a : Int) * x + b * y = (Nat.gcd a b : Nat) := by
  induction a, b using Nat.gcd.induction with
  | H0 b => exact ⟨0, 1, by simp⟩
  | H1 a b h ih =>
    obtain ⟨x, y, e⟩ := ih
    refine ⟨y - (b / a : Nat) * x, x, ?_⟩
    rw [Nat.gcd_rec, ← e]
    have z : ((b : Nat) : Int) = a * (b / a : Nat) + (b % a : Nat) := by
      have := Nat.div_add_mod b a
      rw [← Int.natCast_mul, ← Int.natCast_add, this]
    rw [Int.mul_sub]
    conv => lhs; rw [z]
    rw [Int.add_mul, Int.mul_assoc]
    omega
section
variable {m s : Nat} {f : Nat → Int}
theorem cyc_len (s m : Nat) : s * (m / Nat.gcd s m) = m * (s / Nat.gcd s m) := by
  obtain ⟨u, hu⟩ := Nat.gcd_dvd_left s m
  obtain ⟨v, hv⟩ := Nat.gcd_dvd_right s m
  by_cases h : Nat.gcd s m = 0
  · rw [h]
    simp
  · have h : 0 < Nat.gcd s m := Nat.pos_of_ne_zero h
    rw [Nat.div_eq_of_eq_mul_right h hv, Nat.div_eq_of_eq_mul_right h hu]
    have gen : ∀ g : Nat, s = g * u → m = g * v → s * v = m * u := fun g h1 h2 => by
      rw [h1, h2, Nat.mul_assoc, Nat.mul_assoc, Nat.mul_comm u v]
    exact gen _ hu hv
theorem cyc_lenI (s m : Nat) : (s : Int) * (m / Nat.gcd s m : Nat) = m * (s / Nat.gcd s m : Nat) := by
  rw [← Int.natCast_mul, cyc_len, Int.natCast_mul]
theorem cyc_pos (hm : 0 < m) : 0 < Nat.gcd s m ∧ 0 < m / Nat.gcd s m ∧ Nat.gcd s m ≤ m ∧ m / Nat.gcd s m ≤ m := by
  have h : 0 < Nat.gcd s m := Nat.gcd_pos_of_pos_right s hm
  exact ⟨h, Nat.div_pos (Nat.le_of_dvd hm (Nat.gcd_dvd_right s m)) h, Nat.le_of_dvd hm (Nat.gcd_dvd_right s m), Nat.div_le_self _ _⟩
/-- steps within a cycle are steps of classes -/
theorem cyc_rot (hm : 0 < m) (first at' k : Nat) : (first + s * rot (m / Nat.gcd s m) at' k) % m = rot m ((first + s * at') % m) (k * s) := by
  obtain ⟨_, hL, _, _⟩ := cyc_pos (s := s) hm
  refine (rot_eq hm (Nat.mod_lt _ hm) (q := ((first + s * rot (m / Nat.gcd s m) at' k : Nat) : Int) / m - ((first + s * at' : Nat) : Int) / m + (s / Nat.gcd s m : Nat) * (((at' : Int) - k) / (m / Nat.gcd s m : Nat))) ?_).symm
  have hl := cyc_len s m
  have e1 := rot_int hL at' k
  rw [div_mod] at e1
  have z : (s : Int) * rot (m / Nat.gcd s m) at' k = s * at' - s * k - m * ((s / Nat.gcd s m : Nat) * (((at' : Int) - k) / (m / Nat.gcd s m : Nat))) := by
    rw [e1, Int.mul_sub, Int.mul_sub, ← Int.mul_assoc (s : Int) ((m / Nat.gcd s m : Nat) : Int), cyc_lenI, Int.mul_assoc]
  rw [Int.natCast_emod, Int.natCast_emod, div_mod, div_mod, Int.mul_add, Int.mul_sub]
  simp only [Int.natCast_add, Int.natCast_mul]
  rw [z, Int.mul_comm (k : Int) s]
  omega
theorem cyc_all (hm : 0 < m) {c : Nat} (hc : c < m) : ∃ first at', first < Nat.gcd s m ∧ at' < m / Nat.gcd s m ∧ (first + s * at') % m = c := by
  obtain ⟨hg, hL, _, _⟩ := cyc_pos (s := s) hm
  obtain ⟨x, y, e⟩ := bezout s m
  have hl := cyc_len s m
  refine ⟨c % Nat.gcd s m, ((x * (c / Nat.gcd s m : Nat)) % (m / Nat.gcd s m : Nat)).toNat, Nat.mod_lt _ hg, ?_, ?_⟩
  · have a := Int.emod_lt_of_pos (x * (c / Nat.gcd s m : Nat)) (show (0 : Int) < (m / Nat.gcd s m : Nat) by omega)
    have b := Int.emod_nonneg (x * (c / Nat.gcd s m : Nat)) (show ((m / Nat.gcd s m : Nat) : Int) ≠ 0 by omega)
    omega
  · have b := Int.emod_nonneg (x * (c / Nat.gcd s m : Nat)) (show ((m / Nat.gcd s m : Nat) : Int) ≠ 0 by omega)
    have cd : ((c : Nat) : Int) = (Nat.gcd s m : Nat) * (c / Nat.gcd s m : Nat) + (c % Nat.gcd s m : Nat) := by
      have := Nat.div_add_mod c (Nat.gcd s m)
      rw [← Int.natCast_mul, ← Int.natCast_add, this]
    have key : (((c % Nat.gcd s m + s * ((x * (c / Nat.gcd s m : Nat)) % (m / Nat.gcd s m : Nat)).toNat : Nat) : Int)) % m = c := by
      rw [show ((c : Nat) : Int) = ((c : Nat) : Int) % m from (Int.emod_eq_of_lt (by omega) (by omega)).symm]
      refine emod_of (q := -(y * (c / Nat.gcd s m : Nat)) - (s / Nat.gcd s m : Nat) * (x * (c / Nat.gcd s m : Nat) / (m / Nat.gcd s m : Nat))) ?_
      rw [Int.natCast_add, Int.natCast_mul, Int.toNat_of_nonneg b, div_mod, Int.mul_sub, ← Int.mul_assoc (s : Int) x, ← Int.mul_assoc (s : Int) ((m / Nat.gcd s m : Nat) : Int), cyc_lenI]
      have e2 : (s : Int) * x = (Nat.gcd s m : Nat) - m * y := by omega
      rw [e2, Int.sub_mul, Int.mul_sub, Int.mul_neg]
      rw [Int.mul_assoc (m : Int), Int.mul_assoc (m : Int)]
      omega
    omega
end
/-! ### ticks by class -/
/-- the ticks of line n in class c, the first tick being o -/
def cf (n : Str) (m c : Nat) : List Str → Nat → Int
  | [], _ => 0
  | x :: l, o => (if x = n ∧ o % m = c then 1 else 0) + cf n m c l (o + 1)
section
variable {n : Str} {m c : Nat}
theorem cf_app : ∀ (l k : List Str) (o : Nat), cf n m c (l ++ k) o = cf n m c l o + cf n m c k (o + l.length)
  | [], k, o => by
    show cf n m c k o = 0 + cf n m c k (o + 0)
    rw [Nat.add_zero]
    omega
  | x :: l, k, o => by
    show _ + cf n m c (l ++ k) (o + 1) = (_ + cf n m c l (o + 1)) + cf n m c k (o + (l.length + 1))
    rw [cf_app l k (o + 1), show o + 1 + l.length = o + (l.length + 1) by omega]
    omega
theorem cf_mod : ∀ (l : List Str) {o o' : Nat}, o % m = o' % m → cf n m c l o = cf n m c l o'
  | [], _, _, _ => rfl
  | x :: l, o, o', h => by
    show (if x = n ∧ o % m = c then 1 else 0) + cf n m c l (o + 1) = (if x = n ∧ o' % m = c then 1 else 0) + cf n m c l (o' + 1)
    rw [h, cf_mod l (o := o + 1) (o' := o' + 1) (by rw [Nat.add_mod, h, ← Nat.add_mod])]
theorem cf_nn : ∀ (l : List Str) (o : Nat), 0 ≤ cf n m c l o ∧ cf n m c l o ≤ l.length
  | [], _ => ⟨Int.le_refl 0, Int.le_refl 0⟩
  | x :: l, o => by
    have h := cf_nn l (o + 1)
    show 0 ≤ (if x = n ∧ o % m = c then 1 else 0) + cf n m c l (o + 1) ∧ (if x = n ∧ o % m = c then 1 else 0) + cf n m c l (o + 1) ≤ ((l.length + 1 : Nat) : Int)
    split <;> omega
theorem cf_flat (l : List Str) (o : Nat) : ∀ r : Nat, cf n m c (List.replicate r l).flatten o = sumK (fun k => cf n m c l (o + k * l.length)) r
  | 0 => rfl
  | r + 1 => by
    rw [List.replicate_succ', List.flatten_append, cf_app, cf_flat l o r, flat_len]
    show _ + cf n m c (l ++ []) _ = sumK _ r + _
    rw [List.append_nil]
end
mutual
def It.cols (m : Nat) : It → (Nat → Int) → List (Str × (Nat → Int))
  | .line x t, f => [(x, repF m 1 t.toNat f)]
  | .loop r js, f => Its.cols m js (repF m (Its.w js).length r.toNat f)
def Its.cols (m : Nat) : List It → (Nat → Int) → List (Str × (Nat → Int))
  | [], _ => []
  | i :: is, f => It.cols m i f ++ Its.cols m is (mvF m (It.w i).length f)
end
def colS (n : Str) (c : Nat) : List (Str × (Nat → Int)) → Int
  | [] => 0
  | p :: ps => (if p.1 = n then p.2 c else 0) + colS n c ps
theorem colS_app {n : Str} {c : Nat} : ∀ ps qs : List (Str × (Nat → Int)), colS n c (ps ++ qs) = colS n c ps + colS n c qs
  | [], qs => by
    show colS n c qs = 0 + _
    omega
  | p :: ps, qs => by
    show _ + colS n c (ps ++ qs) = (_ + colS n c ps) + _
    rw [colS_app ps qs]
    omega
theorem cf_line {n x : Str} {m c : Nat} (hm : 0 < m) (hc : c < m) (f : Nat → Int) : ∀ t : Nat, sumK (fun a => f a * cf n m c (List.replicate t x) a) m = if x = n then repF m 1 t f c else 0
  | 0 => by
    have : sumK (fun a => f a * cf n m c (List.replicate 0 x) a) m = 0 := by
      rw [sumK_congr (h := fun _ => 0) fun a _ => by show f a * 0 = 0; omega, sumK_zero]
    rw [this]
    split <;> rfl
  | t + 1 => by
    have step : ∀ a, cf n m c (List.replicate (t + 1) x) a = cf n m c (List.replicate t x) a + (if x = n ∧ (a + t) % m = c then 1 else 0) := fun a => by
      rw [List.replicate_succ', cf_app, List.length_replicate]
      show _ + ((if x = n ∧ (a + t) % m = c then 1 else 0) + 0) = _
      omega
    rw [sumK_congr (h := fun a => f a * cf n m c (List.replicate t x) a + f a * (if x = n ∧ (a + t) % m = c then 1 else 0)) fun a _ => by rw [step a, Int.mul_add], sumK_plus, cf_line hm hc f t]
    by_cases e : x = n
    · rw [if_pos e, if_pos e]
      have z := reindex hm f (fun b => if b = c then 1 else 0) t
      rw [sumK_pick (m := m) (fun b => f (rot m b t)) hc] at z
      rw [sumK_congr (h := fun a => f a * (if (a + t) % m = c then 1 else 0)) fun a _ => by simp [e], ← z]
      show repF m 1 t f c + _ = repF m 1 t f c + f (rot m c (t * 1))
      rw [Nat.mul_one]
    · rw [if_neg e, if_neg e, sumK_congr (h := fun _ => 0) fun a _ => by rw [if_neg (by simp [e]), Int.mul_zero], sumK_zero]
      rfl
mutual
theorem It.cols_cf {n : Str} {m c : Nat} (hm : 0 < m) (hc : c < m) : ∀ (i : It) (f : Nat → Int), It.nn i → colS n c (It.cols m i f) = sumK (fun a => f a * cf n m c (It.w i) a) m
  | .line x t, f, _ => by
    rw [It.cols, It.w, cf_line hm hc]
    show (if x = n then repF m 1 t.toNat f c else 0) + 0 = _
    omega
  | .loop r js, f, h => by
    rw [It.nn] at h
    rw [It.cols, It.w, Its.cols_cf hm hc js _ h.2]
    rw [sumK_congr (h := fun b => sumK (fun k => f (rot m b (k * (Its.w js).length)) * cf n m c (Its.w js) b) r.toNat) fun b _ => by
      show sumK _ _ * _ = _
      rw [sumK_mulR], sumK_swap]
    rw [sumK_congr (h := fun k => sumK (fun a => f a * cf n m c (Its.w js) (a + k * (Its.w js).length)) m) fun k _ => by
      rw [reindex hm f (fun b => cf n m c (Its.w js) b) (k * (Its.w js).length)]
      exact sumK_congr fun a _ => by rw [cf_mod (Its.w js) (o := (a + k * (Its.w js).length) % m) (o' := a + k * (Its.w js).length) (Nat.mod_mod _ _)]]
    rw [sumK_swap]
    exact sumK_congr fun a _ => by rw [sumK_mul, cf_flat]
theorem Its.cols_cf {n : Str} {m c : Nat} (hm : 0 < m) (hc : c < m) : ∀ (is : List It) (f : Nat → Int), Its.nn is → colS n c (Its.cols m is f) = sumK (fun a => f a * cf n m c (Its.w is) a) m
  | [], f, _ => by
    rw [Its.cols, Its.w]
    show 0 = sumK (fun a => f a * 0) m
    rw [sumK_congr (h := fun _ => 0) fun a _ => Int.mul_zero _, sumK_zero]
  | i :: is, f, h => by
    rw [Its.nn] at h
    rw [Its.cols, Its.w, colS_app, It.cols_cf hm hc i f h.1, Its.cols_cf hm hc is _ h.2]
    rw [show sumK (fun a => mvF m (It.w i).length f a * cf n m c (Its.w is) a) m = sumK (fun a => f a * cf n m c (Its.w is) (a + (It.w i).length)) m from (reindex hm f (fun b => cf n m c (Its.w is) b) (It.w i).length).trans
      (sumK_congr fun a _ => by rw [cf_mod (Its.w is) (o := (a + (It.w i).length) % m) (o' := a + (It.w i).length) (Nat.mod_mod _ _)])]
    rw [← sumK_plus]
    exact sumK_congr fun a _ => by rw [cf_app, Int.mul_add]
end
/-- one start, at tick 0 -/
def one0 (a : Nat) : Int := if a = 0 then 1 else 0
theorem cols_one {n : Str} {m c : Nat} (hm : 0 < m) (hc : c < m) {is : List It} (h : Its.nn is) : colS n c (Its.cols m is one0) = cf n m c (Its.w is) 0 := by
  rw [Its.cols_cf hm hc is _ h, sumK_congr (g := fun a => one0 a * cf n m c (Its.w is) a) (h := fun b => cf n m c (Its.w is) b * (if b = 0 then 1 else 0)) fun b _ => Int.mul_comm _ _]
  exact sumK_pick (m := m) (fun b => cf n m c (Its.w is) b) hm
end Ev

/-! ## When rows of lines are even -/
namespace Ev
open PySem
theorem sumK_one {P : Prop} [Decidable P] {k : Nat} : ∀ {m : Nat}, sumK (fun c => if P ∧ k = c then 1 else 0) m = if P ∧ k < m then 1 else 0
  | 0 => by
    rw [if_neg (fun z => absurd z.2 (Nat.not_lt_zero k))]
    rfl
  | m + 1 => by
    show sumK _ m + (if P ∧ k = m then 1 else 0) = _
    rw [sumK_one (m := m)]
    by_cases h : P
    · by_cases h1 : k < m
      · rw [if_pos ⟨h, h1⟩, if_neg (fun z => by have := z.2; omega), if_pos ⟨h, by omega⟩]
        rfl
      · by_cases h2 : k = m
        · rw [if_neg (fun z => h1 z.2), if_pos ⟨h, h2⟩, if_pos ⟨h, by omega⟩]
          rfl
        · rw [if_neg (fun z => h1 z.2), if_neg (fun z => h2 z.2), if_neg (fun z => by have := z.2; omega)]
          rfl
    · rw [if_neg (fun z => h z.1), if_neg (fun z => h z.1), if_neg (fun z => h z.1)]
      rfl
theorem cf_sum {n : Str} {m : Nat} (hm : 0 < m) : ∀ (l : List Str) (o : Nat), sumK (fun c => cf n m c l o) m = (l.count n : Nat)
  | [], _ => by
    show sumK (fun _ => 0) m = _
    rw [sumK_zero]
    rfl
  | x :: l, o => by
    show sumK (fun c => (if x = n ∧ o % m = c then 1 else 0) + cf n m c l (o + 1)) m = _
    rw [sumK_plus, sumK_one, cf_sum hm l (o + 1), List.count_cons]
    have := Nat.mod_lt o hm
    by_cases h : x = n
    · rw [if_pos ⟨h, this⟩, if_pos (beq_iff_eq.mpr h)]
      omega
    · rw [if_neg (fun z => h z.1), if_neg (fun z => h (beq_iff_eq.mp z))]
      omega
theorem sumK_const (k : Int) : ∀ m : Nat, sumK (fun _ => k) m = m * k
  | 0 => by
    show (0 : Int) = 0 * k
    omega
  | m + 1 => by
    show sumK _ m + k = _
    rw [sumK_const k m, Int.natCast_add, Int.add_mul]
    omega
/-- equal classes: the modulus divides how many there are -/
theorem even_dvd {n : Str} {m : Nat} (hm : 0 < m) {l : List Str} {o : Nat} (h : ∀ c, c < m → cf n m c l o = cf n m 0 l o) : m ∣ l.count n := by
  have z := cf_sum (n := n) hm l o
  rw [sumK_congr (h := fun _ => cf n m 0 l o) (fun c hc => h c hc), sumK_const] at z
  have h0 := (cf_nn (n := n) (m := m) (c := 0) l o).1
  refine ⟨(cf n m 0 l o).toNat, ?_⟩
  have e : ((m * (cf n m 0 l o).toNat : Nat) : Int) = (l.count n : Nat) := by
    rw [Int.natCast_mul, Int.toNat_of_nonneg h0, z]
  omega
theorem cf_short {n x : Str} {m c : Nat} : ∀ k : Nat, k ≤ m → cf n m c (List.replicate k x) 0 = if x = n ∧ c < k then 1 else 0
  | 0, _ => by
    rw [if_neg (fun z => absurd z.2 (Nat.not_lt_zero c))]
    rfl
  | k + 1, h => by
    rw [List.replicate_succ', cf_app, cf_short k (by omega), List.length_replicate]
    show _ + ((if x = n ∧ (0 + k) % m = c then 1 else 0) + 0) = _
    rw [Nat.zero_add, Nat.mod_eq_of_lt (by omega)]
    by_cases h1 : x = n
    · by_cases h2 : c < k
      · rw [if_pos ⟨h1, h2⟩, if_neg (fun z => by have := z.2; omega), if_pos ⟨h1, by omega⟩]
        rfl
      · by_cases h3 : k = c
        · rw [if_neg (fun z => h2 z.2), if_pos ⟨h1, h3⟩, if_pos ⟨h1, by omega⟩]
          rfl
        · rw [if_neg (fun z => h2 z.2), if_neg (fun z => h3 z.2), if_neg (fun z => by have := z.2; omega)]
          rfl
    · rw [if_neg (fun z => h1 z.1), if_neg (fun z => h1 z.1), if_neg (fun z => h1 z.1)]
      rfl
/-- one tick later -/
theorem cf_next {n x : Str} {m c f : Nat} (o : Nat) : cf n m c (List.replicate f x) (o + 1) = cf n m c (List.replicate f x) o - (if x = n ∧ o % m = c then 1 else 0) + (if x = n ∧ (o + f) % m = c then 1 else 0) := by
  have e1 : cf n m c (List.replicate (f + 1) x) o = (if x = n ∧ o % m = c then 1 else 0) + cf n m c (List.replicate f x) (o + 1) := rfl
  have e2 : cf n m c (List.replicate (f + 1) x) o = cf n m c (List.replicate f x) o + ((if x = n ∧ (o + f) % m = c then 1 else 0) + 0) := by
    rw [List.replicate_succ', cf_app, List.length_replicate]
    rfl
  omega
theorem cf_per {n x : Str} {m c : Nat} (hc : c < m) : ∀ o : Nat, cf n m c (List.replicate m x) o = if x = n then 1 else 0
  | 0 => by
    rw [cf_short m (Nat.le_refl m)]
    by_cases h : x = n
    · rw [if_pos ⟨h, hc⟩, if_pos h]
    · rw [if_neg (fun z => h z.1), if_neg h]
  | o + 1 => by
    rw [cf_next, cf_per hc o, Nat.add_mod_right]
    omega
theorem cf_mult {n x : Str} {m c : Nat} (hc : c < m) : ∀ (k o : Nat), cf n m c (List.replicate (m * k) x) o = if x = n then (k : Int) else 0
  | 0, o => by
    rw [Nat.mul_zero]
    show (0 : Int) = _
    split <;> rfl
  | k + 1, o => by
    rw [Nat.mul_succ, ← List.replicate_append_replicate, cf_app, cf_mult hc k o, cf_per hc]
    split <;> omega
/-! ### coarser classes -/
theorem cf_coarse {n : Str} {m d r : Nat} (hm : 0 < m) (hd : d ∣ m) : ∀ (l : List Str) (o : Nat), cf n d r l o = sumK (fun c => if c % d = r then cf n m c l o else 0) m
  | [], o => by
    rw [sumK_congr (h := fun _ => 0) (fun c _ => by show (if c % d = r then (0 : Int) else 0) = 0; split <;> rfl), sumK_zero]
    rfl
  | x :: l, o => by
    show (if x = n ∧ o % d = r then 1 else 0) + cf n d r l (o + 1) = _
    rw [cf_coarse hm hd l (o + 1)]
    have e : ∀ c, c < m → (if c % d = r then cf n m c (x :: l) o else 0) = (if (x = n ∧ o % d = r) ∧ o % m = c then 1 else 0) + (if c % d = r then cf n m c l (o + 1) else 0) := fun c _ => by
      show (if c % d = r then (if x = n ∧ o % m = c then 1 else 0) + cf n m c l (o + 1) else 0) = _
      have hmd : o % m % d = o % d := Nat.mod_mod_of_dvd o hd
      by_cases h1 : c % d = r
      · rw [if_pos h1, if_pos h1]
        congr 1
        by_cases h2 : x = n ∧ o % m = c
        · rw [if_pos h2, if_pos ⟨⟨h2.1, by rw [← hmd, h2.2]; exact h1⟩, h2.2⟩]
        · rw [if_neg h2, if_neg (fun z => h2 ⟨z.1.1, z.2⟩)]
      · rw [if_neg h1, if_neg h1, if_neg (fun z => h1 (by rw [← z.2, hmd]; exact z.1.2))]
        rfl
    rw [sumK_congr e, sumK_plus, sumK_one]
    have := Nat.mod_lt o hm
    by_cases h : x = n ∧ o % d = r
    · rw [if_pos h, if_pos ⟨h, this⟩]
    · rw [if_neg h, if_neg (fun z => h z.1)]
/-- equal classes are equal in coarser ones -/
theorem even_coarse {n : Str} {m d : Nat} (hm : 0 < m) (hd : d ∣ m) {l : List Str} {o : Nat} (h : ∀ c, c < m → cf n m c l o = cf n m 0 l o) {r : Nat} (hr : r < d) : cf n d r l o = cf n d 0 l o := by
  have d0 : 0 < d := by omega
  have key : ∀ r, r < d → cf n d r l o = cf n m 0 l o * ((m / d : Nat) : Int) := fun r hr => by
    rw [cf_coarse hm hd, sumK_congr (h := fun c => cf n m 0 l o * (if c % d = r then 1 else 0)) (fun c hc => by rw [h c hc]; split <;> omega), sumK_mul]
    congr 1
    have z : ∀ k, sumK (fun c => if c % d = r then 1 else 0) k = cf n d r (List.replicate k n) 0 := fun k => by
      induction k with
      | zero => rfl
      | succ k ih =>
        rw [List.replicate_succ', cf_app, List.length_replicate]
        show sumK _ k + (if k % d = r then 1 else 0) = _ + ((if n = n ∧ (0 + k) % d = r then 1 else 0) + 0)
        rw [ih, Nat.zero_add]
        by_cases h1 : k % d = r
        · rw [if_pos h1, if_pos ⟨rfl, h1⟩]
          omega
        · rw [if_neg h1, if_neg (fun z => h1 z.2)]
          omega
    rw [z m, show m = d * (m / d) from (Nat.mul_div_cancel' hd).symm, cf_mult hr, if_pos rfl]
    rw [Nat.mul_div_cancel_left _ d0]
  rw [key r hr, key 0 d0]
/-! ### periods -/
theorem per_gcd {N : Nat → Int} : ∀ (a b : Nat), (∀ o, N (o + a) = N o) → (∀ o, N (o + b) = N o) → ∀ o, N (o + Nat.gcd a b) = N o := by
  intro a b
  induction a, b using Nat.gcd.induction with
  | H0 b =>
    intro _ hb o
    rw [Nat.gcd_zero_left]
    exact hb o
  | H1 a b ha ih =>
    intro h1 h2 o
    rw [Nat.gcd_rec]
    refine ih (fun o => ?_) h1 o
    have mul : ∀ k o, N (o + a * k) = N o := fun k => by
      induction k with
      | zero =>
        intro o
        rw [Nat.mul_zero, Nat.add_zero]
      | succ k ihk =>
        intro o
        rw [Nat.mul_succ, ← Nat.add_assoc, h1, ihk]
    have e : o + b % a + a * (b / a) = o + b := by
      have := Nat.div_add_mod b a
      omega
    rw [← mul (b / a) (o + b % a), e, h2]
theorem per_mul {N : Nat → Int} {a : Nat} (h : ∀ o, N (o + a) = N o) : ∀ k o, N (o + a * k) = N o
  | 0, o => by rw [Nat.mul_zero, Nat.add_zero]
  | k + 1, o => by rw [Nat.mul_succ, ← Nat.add_assoc, h, per_mul h k o]
/-- intervals of f ticks, every L ticks, R of them, are even if gcd(m, L) divides f and m divides L * R -/
theorem loop_even {x : Str} {m L R f : Nat} (hm : 0 < m) (hLR : m ∣ L * R) (hf : Nat.gcd m L ∣ f) (o0 : Nat) {c : Nat} (hc : c < m) :
    sumK (fun k => cf x m c (List.replicate f x) (o0 + k * L)) R = sumK (fun k => cf x m 0 (List.replicate f x) (o0 + k * L)) R := by
  have step : ∀ c, c + 1 < m → sumK (fun k => cf x m (c + 1) (List.replicate f x) (o0 + k * L)) R = sumK (fun k => cf x m c (List.replicate f x) (o0 + k * L)) R := fun c hc => by
    let N : Nat → Int := fun o => sumK (fun k => if (o + k * L) % m = c + 1 then 1 else 0) R
    have pm : ∀ o, N (o + m) = N o := fun o => sumK_congr fun k _ => by
      rw [show o + m + k * L = o + k * L + m by omega, Nat.add_mod_right]
    have pL : ∀ o, N (o + L) = N o := fun o => by
      show sumK (fun k => if (o + L + k * L) % m = c + 1 then 1 else 0) R = sumK (fun k => if (o + k * L) % m = c + 1 then 1 else 0) R
      have e1 := sumK_left (fun k => if (o + k * L) % m = c + 1 then (1 : Int) else 0) R
      have e2 : sumK (fun k => if (o + k * L) % m = c + 1 then (1 : Int) else 0) (R + 1) = sumK (fun k => if (o + k * L) % m = c + 1 then 1 else 0) R + (if (o + R * L) % m = c + 1 then 1 else 0) := rfl
      have e3 : (o + R * L) % m = (o + 0 * L) % m := by
        obtain ⟨q, hq⟩ := hLR
        rw [Nat.mul_comm R L, hq, Nat.add_mul_mod_self_left, Nat.zero_mul, Nat.add_zero]
      rw [e3] at e2
      have e4 : sumK (fun k => if (o + (k + 1) * L) % m = c + 1 then (1 : Int) else 0) R = sumK (fun k => if (o + L + k * L) % m = c + 1 then 1 else 0) R := sumK_congr fun k _ => by
        rw [show o + (k + 1) * L = o + L + k * L by rw [Nat.add_mul, Nat.one_mul]; omega]
      omega
    have pd := per_gcd m L pm pL
    obtain ⟨q, hq⟩ := hf
    have pf : N (o0 + f) = N o0 := by
      rw [hq]
      exact per_mul pd q o0
    have cls : ∀ (l : List Str) (o : Nat), cf x m (c + 1) l (o + 1) = cf x m c l o := fun l => by
      induction l with
      | nil => intro o; rfl
      | cons y l ih =>
        intro o
        show (if y = x ∧ (o + 1) % m = c + 1 then 1 else 0) + cf x m (c + 1) l (o + 1 + 1) = (if y = x ∧ o % m = c then 1 else 0) + cf x m c l (o + 1)
        rw [ih (o + 1)]
        congr 1
        have hiff : (o + 1) % m = c + 1 ↔ o % m = c := by
          have h1 := Nat.div_add_mod o m
          have h2 := Nat.mod_lt o hm
          by_cases h3 : o % m + 1 = m
          · have e : (o + 1) % m = 0 := by
              rw [show o + 1 = m * (o / m + 1) by rw [Nat.mul_add, Nat.mul_one]; omega, Nat.mul_mod_right]
            omega
          · have e : (o + 1) % m = o % m + 1 := by
              rw [Nat.add_mod, Nat.mod_eq_of_lt (show 1 < m by omega), Nat.mod_eq_of_lt (by omega)]
            omega
        by_cases h : y = x
        · by_cases h4 : o % m = c
          · rw [if_pos ⟨h, hiff.mpr h4⟩, if_pos ⟨h, h4⟩]
          · rw [if_neg (fun z => h4 (hiff.mp z.2)), if_neg (fun z => h4 z.2)]
        · rw [if_neg (fun z => h z.1), if_neg (fun z => h z.1)]
    have e5 : sumK (fun k => cf x m c (List.replicate f x) (o0 + k * L)) R = sumK (fun k => cf x m (c + 1) (List.replicate f x) (o0 + k * L) + ((if (o0 + f + k * L) % m = c + 1 then 1 else 0) + (-1) * (if (o0 + k * L) % m = c + 1 then 1 else 0))) R := sumK_congr fun k _ => by
      rw [← cls, cf_next, show o0 + k * L + f = o0 + f + k * L by omega]
      have a1 : (if x = x ∧ (o0 + k * L) % m = c + 1 then (1 : Int) else 0) = if (o0 + k * L) % m = c + 1 then 1 else 0 := by
        by_cases h : (o0 + k * L) % m = c + 1
        · rw [if_pos h, if_pos ⟨rfl, h⟩]
        · rw [if_neg h, if_neg (fun z => h z.2)]
      have a2 : (if x = x ∧ (o0 + f + k * L) % m = c + 1 then (1 : Int) else 0) = if (o0 + f + k * L) % m = c + 1 then 1 else 0 := by
        by_cases h : (o0 + f + k * L) % m = c + 1
        · rw [if_pos h, if_pos ⟨rfl, h⟩]
        · rw [if_neg h, if_neg (fun z => h z.2)]
      rw [a1, a2]
      omega
    rw [e5, sumK_plus, sumK_plus, sumK_mul]
    have : N (o0 + f) = N o0 := pf
    show _ = _ + (N (o0 + f) + (-1) * N o0)
    omega
  induction c with
  | zero => rfl
  | succ c ih => rw [step c hc, ih (by omega)]
theorem cf_none {n : Str} {m c : Nat} : ∀ (l : List Str) (o : Nat), n ∉ l → cf n m c l o = 0
  | [], _, _ => rfl
  | x :: l, o, h => by
    have h1 : x ≠ n := fun e => h (e ▸ List.mem_cons_self ..)
    have h2 : n ∉ l := fun e => h (List.mem_cons_of_mem _ e)
    show (if x = n ∧ o % m = c then 1 else 0) + cf n m c l (o + 1) = 0
    rw [if_neg (fun z => h1 z.1), cf_none l (o + 1) h2]
    rfl
end Ev

/-! ## Going round by steps of p -/
namespace Ev
open PySem
theorem orb_back {L p : Nat} (hL : 0 < L) : L ∣ L / Nat.gcd p L * p := by
  have hg := Nat.gcd_pos_of_pos_right p hL
  obtain ⟨a, ha⟩ := Nat.gcd_dvd_left p L
  obtain ⟨b, hb⟩ := Nat.gcd_dvd_right p L
  generalize Nat.gcd p L = g at *
  refine ⟨a, ?_⟩
  rw [hb, Nat.mul_div_cancel_left _ hg, ha, Nat.mul_comm g a, ← Nat.mul_assoc, Nat.mul_comm (g * b) a, Nat.mul_comm b a, Nat.mul_assoc, Nat.mul_comm b g]
theorem orb_ne {L p k : Nat} (hL : 0 < L) (h0 : 0 < k) (hk : k < L / Nat.gcd p L) : ¬ L ∣ k * p := by
  intro h
  have hg := Nat.gcd_pos_of_pos_right p hL
  have cop := Nat.coprime_div_gcd_div_gcd (m := p) (n := L) hg
  have e1 : Nat.gcd p L * (L / Nat.gcd p L) = L := Nat.mul_div_cancel' (Nat.gcd_dvd_right p L)
  have e2 : Nat.gcd p L * (p / Nat.gcd p L) = p := Nat.mul_div_cancel' (Nat.gcd_dvd_left p L)
  have h2 : Nat.gcd p L * (L / Nat.gcd p L) ∣ Nat.gcd p L * (k * (p / Nat.gcd p L)) := by
    rw [e1, ← Nat.mul_assoc, Nat.mul_comm _ k, Nat.mul_assoc, e2]
    exact h
  have h3 := Nat.dvd_of_mul_dvd_mul_left hg h2
  have h4 := Nat.Coprime.dvd_of_dvd_mul_right (Nat.Coprime.symm cop) h3
  have := Nat.le_of_dvd h0 h4
  omega
theorem orb_count {L p s i : Nat} (hL : 0 < L) (hi : i < L) : sumK (fun k => if (s + k * p) % L = i then 1 else 0) (L / Nat.gcd p L) = if i % Nat.gcd p L = s % Nat.gcd p L then 1 else 0 := by
  have hg := Nat.gcd_pos_of_pos_right p hL
  by_cases h : i % Nat.gcd p L = s % Nat.gcd p L
  · rw [if_pos h]
    let N : Nat → Int := fun o => sumK (fun k => if (o + k * p) % L = i then 1 else 0) (L / Nat.gcd p L)
    have pL : ∀ o, N (o + L) = N o := fun o => sumK_congr fun k _ => by
      rw [show o + L + k * p = o + k * p + L by omega, Nat.add_mod_right]
    have pp : ∀ o, N (o + p) = N o := fun o => by
      show sumK (fun k => if (o + p + k * p) % L = i then 1 else 0) (L / Nat.gcd p L) = sumK (fun k => if (o + k * p) % L = i then 1 else 0) (L / Nat.gcd p L)
      have e1 := sumK_left (fun k => if (o + k * p) % L = i then (1 : Int) else 0) (L / Nat.gcd p L)
      have e2 : sumK (fun k => if (o + k * p) % L = i then (1 : Int) else 0) (L / Nat.gcd p L + 1) = sumK (fun k => if (o + k * p) % L = i then 1 else 0) (L / Nat.gcd p L) + (if (o + L / Nat.gcd p L * p) % L = i then 1 else 0) := rfl
      have e3 : (o + L / Nat.gcd p L * p) % L = (o + 0 * p) % L := by
        obtain ⟨q, hq⟩ := orb_back (p := p) hL
        rw [hq, Nat.add_mul_mod_self_left, Nat.zero_mul, Nat.add_zero]
      rw [e3] at e2
      have e4 : sumK (fun k => if (o + (k + 1) * p) % L = i then (1 : Int) else 0) (L / Nat.gcd p L) = sumK (fun k => if (o + p + k * p) % L = i then 1 else 0) (L / Nat.gcd p L) := sumK_congr fun k _ => by
        rw [show o + (k + 1) * p = o + p + k * p by rw [Nat.add_mul, Nat.one_mul]; omega]
      omega
    have pg := per_gcd p L pp pL
    have e1 : N s = N (s % Nat.gcd p L) := by
      have z := per_mul pg (s / Nat.gcd p L) (s % Nat.gcd p L)
      rw [Nat.mod_add_div] at z
      exact z
    have e2 : N i = N (i % Nat.gcd p L) := by
      have z := per_mul pg (i / Nat.gcd p L) (i % Nat.gcd p L)
      rw [Nat.mod_add_div] at z
      exact z
    show N s = 1
    rw [e1, ← h, ← e2]
    have hn : 0 < L / Nat.gcd p L := Nat.div_pos (Nat.gcd_le_right _ hL) hg
    obtain ⟨n, hn'⟩ : ∃ n, L / Nat.gcd p L = n + 1 := ⟨L / Nat.gcd p L - 1, by omega⟩
    show sumK (fun k => if (i + k * p) % L = i then 1 else 0) (L / Nat.gcd p L) = 1
    rw [hn', sumK_left, Nat.zero_mul, Nat.add_zero, Nat.mod_eq_of_lt hi, if_pos rfl, sumK_congr (h := fun _ => 0) (fun k hk => if_neg fun z => ?_), sumK_zero]
    · rfl
    · refine orb_ne (p := p) (k := k + 1) hL (by omega) (by omega) ?_
      have z2 := Nat.div_add_mod (i + (k + 1) * p) L
      rw [z] at z2
      exact ⟨(i + (k + 1) * p) / L, by omega⟩
  · rw [if_neg h, sumK_congr (h := fun _ => 0) (fun k _ => if_neg fun z => h ?_), sumK_zero]
    obtain ⟨q, hq⟩ := Nat.gcd_dvd_left p L
    have e : (s + k * p) % L % Nat.gcd p L = s % Nat.gcd p L := by
      rw [Nat.mod_mod_of_dvd _ (Nat.gcd_dvd_right p L)]
      have : Nat.gcd p L ∣ k * p := Nat.dvd_trans (Nat.gcd_dvd_left p L) (Nat.dvd_mul_left _ _)
      obtain ⟨u, hu⟩ := this
      rw [hu, Nat.add_mul_mod_self_left]
    rw [← e, z]
theorem cf_idx {n : Str} {m c : Nat} (w : List Str) : ∀ k, k ≤ w.length → cf n m c (w.take k) 0 = sumK (fun i => if w[i]? = some n ∧ i % m = c then 1 else 0) k
  | 0, _ => by
    rw [List.take_zero]
    rfl
  | k + 1, h => by
    have e := List.getElem?_eq_getElem (show k < w.length by omega)
    rw [List.take_add_one, e, cf_app, cf_idx w k (by omega), List.length_take, Nat.min_eq_left (by omega)]
    show _ + ((if w[k] = n ∧ (0 + k) % m = c then 1 else 0) + 0) = _ + (if w[k]? = some n ∧ k % m = c then 1 else 0)
    rw [Nat.zero_add, e]
    by_cases h1 : w[k] = n ∧ k % m = c
    · rw [if_pos h1, if_pos ⟨by rw [h1.1], h1.2⟩]
      omega
    · rw [if_neg h1, if_neg (fun z => h1 ⟨Option.some.inj z.1, z.2⟩)]
      omega
/-- the looks from s on, by steps of p, till they come back, see the class of s -/
theorem seen_count {n : Str} {w : List Str} {p s : Nat} (hL : 0 < w.length) : sumK (fun k => if w[(s + k * p) % w.length]? = some n then 1 else 0) (w.length / Nat.gcd p w.length) = cf n (Nat.gcd p w.length) (s % Nat.gcd p w.length) w 0 := by
  have e0 := cf_idx (n := n) (m := Nat.gcd p w.length) (c := s % Nat.gcd p w.length) w w.length (Nat.le_refl _)
  rw [List.take_length] at e0
  rw [e0, sumK_congr (h := fun k => sumK (fun i => if w[i]? = some n ∧ (s + k * p) % w.length = i then 1 else 0) w.length) fun k _ => ?_, sumK_swap]
  · refine sumK_congr fun i hi => ?_
    have oc := orb_count (p := p) (s := s) hL hi
    by_cases h : w[i]? = some n
    · rw [sumK_congr (h := fun k => if (s + k * p) % w.length = i then 1 else 0) fun k _ => ?_, oc]
      · by_cases h2 : i % Nat.gcd p w.length = s % Nat.gcd p w.length
        · rw [if_pos h2, if_pos ⟨h, h2⟩]
        · rw [if_neg h2, if_neg (fun z => h2 z.2)]
      · by_cases h3 : (s + k * p) % w.length = i
        · rw [if_pos h3, if_pos ⟨h, h3⟩]
        · rw [if_neg h3, if_neg (fun z => h3 z.2)]
    · rw [if_neg (fun z => h z.1), sumK_congr (h := fun _ => 0) fun k _ => if_neg (fun z => h z.1), sumK_zero]
  · have hlt := Nat.mod_lt (s + k * p) hL
    have e : ∀ i, i < w.length → (if w[i]? = some n ∧ (s + k * p) % w.length = i then (1 : Int) else 0) = if w[(s + k * p) % w.length]? = some n ∧ (s + k * p) % w.length = i then 1 else 0 := fun i _ => by
      by_cases h : (s + k * p) % w.length = i
      · rw [h]
      · rw [if_neg (fun z => h z.2), if_neg (fun z => h z.2)]
    rw [sumK_congr e, sumK_one]
    by_cases h : w[(s + k * p) % w.length]? = some n
    · rw [if_pos h, if_pos ⟨h, hlt⟩]
    · rw [if_neg h, if_neg (fun z => h z.1)]
end Ev

/-! ## Branches that join -/
namespace Ev
open PySem PySem.Spec PyProof.Rows L2
theorem s_join {a rest : TS} {D : Ends} {σ : L2.St} {H : Hp} (J : L2.St → Hp → Prop) (k : ∀ σ H, J σ H → rest D σ H) (h : (∀ σ H, J σ H → rest D σ H) → a { D with nx := rest D } σ H) : tSeq a rest D σ H := h k
theorem back_none {H H' : Hp} {r : Addr} (s : Same H H') (h : H' r = none) : H r = none := by
  cases e : H r with
  | none => rfl
  | some o =>
    rw [s _ _ e] at h
    cases h
theorem bool_fits (c : Bool) : (PyData.bool c).showable = true ∧ (PyData.bool c).depth ≤ 64 ∧ (PyData.bool c).shown.length ≤ sizeLine := by
  rw [sizeLine_eq]
  cases c <;> exact ⟨by decide +kernel, by decide +kernel, by decide +kernel⟩
theorem rg_nat {a b : Nat} {v : V} (h : v ∈ rgV ((a : Nat) : Int) ((b : Nat) : Int)) : ∃ k : Nat, v = .int (k : Nat) ∧ a ≤ k ∧ k < b := by
  unfold rgV at h
  obtain ⟨i, hi, rfl⟩ := List.mem_map.mp h
  have hi := List.mem_range.mp hi
  exact ⟨a + i, by rw [Int.natCast_add], by omega, by omega⟩
/-- how long the text of a program is -/
theorem prog_szA {B n : Nat} {is : List It} (h : ∀ i ∈ is, Okp B n i) (hm : Its.nm is) (hn : Its.ni is ≤ 96) (h6 : n ≤ 6) :
    (PyData.tuple (is.map It.d)).showable = true ∧ (PyData.tuple (is.map It.d)).depth ≤ 64 ∧ (PyData.tuple (is.map It.d)).shown.length ≤ sizeLine := by
  obtain ⟨h1, h2, h3, h4⟩ := Its.szd n B is h hm
  refine Sz.fits (e := 64) (w := 16000) ⟨by rw [PyData.showable]; exact h1, by rw [PyData.leavesShort]; exact h2, ?_, ?_⟩ (by decide) (by decide)
  · rw [PyData.depth]
    omega
  · rw [PyData.weight]
    omega
end Ev

/-! ## Which items are valid -/
namespace Ev
open PySem PySem.Spec PyProof.Rows L2
/-- an item with loops at most n deep -/
def Vi : Nat → It → Prop
  | _, .line x t => nameD (.str x) = true ∧ 1 ≤ t ∧ t ≤ 1000000000000
  | 0, .loop _ _ => False
  | n + 1, .loop r is => 1 ≤ r ∧ r ≤ 1000000000000000000 ∧ 1 ≤ is.length ∧ is.length ≤ 20 ∧ ∀ i ∈ is, Vi n i
theorem vi_line {n : Nat} {x : Str} {t : Int} : Vi n (.line x t) ↔ nameD (.str x) = true ∧ 1 ≤ t ∧ t ≤ 1000000000000 := by
  cases n <;> exact Iff.rfl
theorem isStr_d (x y : Str) : isStrD x (.str y) = decide (y = x) := by
  first
    | rfl
    | (unfold isStrD; rfl)
    | (unfold isStrD; by_cases h : y = x <;> simp [h])
theorem ni_app : ∀ is js : List It, Its.ni (is ++ js) = Its.ni is + Its.ni js
  | [], js => by
    rw [List.nil_append, Its.ni, Nat.zero_add]
  | i :: is, js => by
    rw [List.cons_append, Its.ni, Its.ni, ni_app is js, Nat.add_assoc]
theorem fold_it {f : PyData → Int → Option Int} (hf : ∀ i room, (It.ni i : Int) ≤ room → (f (It.d i) room = some (room - It.ni i))) : ∀ (is : List It) (room : Int), (Its.ni is : Int) ≤ room → foldR f (is.map It.d) room = some (room - Its.ni is)
  | [], room, _ => by
    rw [List.map_nil, foldR, Its.ni]
    simp
  | i :: is, room, h => by
    rw [Its.ni] at h ⊢
    rw [List.map_cons, foldR, hf i room (by omega)]
    show foldR f (is.map It.d) (room - It.ni i) = _
    rw [fold_it hf is _ (by omega)]
    congr 1
    omega
theorem fold_it' {f : PyData → Int → Option Int} : ∀ (is : List It) (room : Int), (∀ i ∈ is, ∀ room, (It.ni i : Int) ≤ room → (f (It.d i) room = some (room - It.ni i))) → (Its.ni is : Int) ≤ room → foldR f (is.map It.d) room = some (room - Its.ni is)
  | [], room, _, _ => by
    rw [List.map_nil, foldR, Its.ni]
    simp
  | i :: is, room, hf, h => by
    rw [Its.ni] at h ⊢
    rw [List.map_cons, foldR, hf i (List.mem_cons_self ..) room (by omega)]
    show foldR f (is.map It.d) (room - It.ni i) = _
    rw [fold_it' is _ (fun j hj => hf j (List.mem_cons_of_mem _ hj)) (by omega)]
    congr 1
    omega
theorem itemsW_it {rec : PyData → Int → Option Int} {dep : Nat} {is : List It} {room : Int} (h1 : 1 ≤ is.length) (h2 : is.length ≤ 20) (hf : ∀ i ∈ is, ∀ room, (It.ni i : Int) ≤ room → (itemR rec dep (It.d i) room = some (room - It.ni i))) (hn : (Its.ni is : Int) ≤ room) :
    itemsW rec dep (.tuple (is.map It.d)) room = some (room - Its.ni is) := by
  unfold itemsW
  dsimp only
  rw [List.length_map, decide_eq_true (by omega), decide_eq_true (by omega), Bool.true_and, if_pos rfl]
  exact fold_it' is room hf hn
theorem itemR_line {rec : PyData → Int → Option Int} {dep : Nat} {x : Str} {t room : Int} (h : nameD (.str x) = true ∧ 1 ≤ t ∧ t ≤ 1000000000000) (hr : 1 ≤ room) : itemR rec dep (It.d (.line x t)) room = some (room - 1) := by
  unfold itemR
  rw [if_neg (by omega), It.d]
  dsimp only
  rw [isStr_d, decide_eq_true rfl, if_pos rfl, h.1]
  have e : intD 1 1000000000000 (.int t) = true := by
    show (decide ((1 : Int) ≤ t) && decide (t ≤ 1000000000000)) = true
    rw [decide_eq_true h.2.1, decide_eq_true h.2.2]
    rfl
  rw [e]
  rfl
theorem itemR_it : ∀ (n : Nat) (i : It), Vi n i → ∀ room, (It.ni i : Int) ≤ room → (itemR (recR n) n (It.d i) room = some (room - It.ni i))
  | n, .line x t, h, room, hr => by
    rw [It.ni] at hr ⊢
    exact itemR_line (vi_line.mp h) (by omega)
  | 0, .loop _ _, h, _, _ => h.elim
  | n + 1, .loop r is, h, room, hr => by
    obtain ⟨h1, h2, h3, h4, h5⟩ : 1 ≤ r ∧ r ≤ 1000000000000000000 ∧ 1 ≤ is.length ∧ is.length ≤ 20 ∧ ∀ i ∈ is, Vi n i := h
    rw [It.ni] at hr ⊢
    unfold itemR
    rw [if_neg (by omega), It.d, Its.d_map]
    dsimp only
    rw [isStr_d, isStr_d, decide_eq_false (by decide), decide_eq_true rfl, if_neg Bool.false_ne_true]
    have e : intD 1 1000000000000000000 (.int r) = true := by
      show (decide ((1 : Int) ≤ r) && decide (r ≤ 1000000000000000000)) = true
      rw [decide_eq_true h1, decide_eq_true h2]
      rfl
    rw [e, decide_eq_false (Nat.succ_ne_zero n), if_neg (by decide)]
    show itemsR n _ _ = _
    rw [itemsR_eq, itemsW_it h3 h4 (fun i hi => itemR_it n i (h5 i hi)) (by omega)]
    congr 1
    omega
/-- a program -/
structure Vp (is : List It) : Prop where
  ne : 1 ≤ is.length
  le : is.length ≤ 20
  vi : ∀ i ∈ is, Vi 5 i
  ni : Its.ni is ≤ 60
theorem Vp.isP {is : List It} (h : Vp is) : (itemsR 5 (.tuple (is.map It.d)) 60).isSome = true := by
  have z := h.ni
  rw [itemsR_eq, itemsW_it h.ne h.le (fun i hi => itemR_it 5 i (h.vi i hi)) (by omega)]
  rfl
theorem vi_ps : ∀ (n : Nat) (i : It), Vi n i → It.ps i
  | n, .line x t, h => by
    rw [It.ps]
    exact (vi_line.mp h).2.1
  | 0, .loop r is, h => h.elim
  | n + 1, .loop r is, h => by
    obtain ⟨h1, h2, h3, h4, h5⟩ : 1 ≤ r ∧ r ≤ 1000000000000000000 ∧ 1 ≤ is.length ∧ is.length ≤ 20 ∧ ∀ i ∈ is, Vi n i := h
    rw [It.ps]
    exact ⟨h1, (fun e => by rw [e] at h3; exact absurd h3 (by decide)), ps_of fun i hi => vi_ps n i (h5 i hi)⟩
theorem vi_okp : ∀ (n : Nat) (i : It), Vi n i → Okp 64 n i
  | n, .line x t, h => by
    have h := vi_line.mp h
    exact okp_line.mpr ⟨by omega, by omega⟩
  | 0, .loop r is, h => h.elim
  | n + 1, .loop r is, h => by
    obtain ⟨h1, h2, h3, h4, h5⟩ : 1 ≤ r ∧ r ≤ 1000000000000000000 ∧ 1 ≤ is.length ∧ is.length ≤ 20 ∧ ∀ i ∈ is, Vi n i := h
    exact ⟨by omega, by omega, fun i hi => vi_okp n i (h5 i hi)⟩
theorem nameD_short {x : Str} (h : nameD (.str x) = true) : x.length ≤ 8 := by
  unfold nameD at h
  rw [Bool.and_eq_true, Bool.and_eq_true] at h
  exact of_decide_eq_true h.2.1
mutual
theorem It.okS (n : Nat) : ∀ i : It, Vi n i → Ev.okS (It.d i) = true
  | .line x t, h => by
    have h1 := nameD_short (vi_line.mp h).1
    rw [It.d]
    have e1 : Ev.okS (.str x) = true := by
      rw [Ev.okS]
      exact decide_eq_true (by omega)
    have e2 : Ev.okS (.str "line") = true := by decide +kernel
    have e3 : Ev.okS (.int t) = true := by
      rw [Ev.okS]
      all_goals (intros; contradiction)
    rw [Ev.okS, okSs, okSs, okSs, okSs, e1, e2, e3]
    rfl
  | .loop r is, h => by
    cases n with
    | zero => exact h.elim
    | succ n =>
      obtain ⟨h1, h2, h3, h4, h5⟩ : 1 ≤ r ∧ r ≤ 1000000000000000000 ∧ 1 ≤ is.length ∧ is.length ≤ 20 ∧ ∀ i ∈ is, Vi n i := h
      have e := Its.okS n is h5
      rw [It.d]
      have e2 : Ev.okS (.str "loop") = true := by decide +kernel
      have e3 : Ev.okS (.int r) = true := by
        rw [Ev.okS]
        all_goals (intros; contradiction)
      have e4 : Ev.okS (.tuple (Its.d is)) = true := by
        rw [Ev.okS]
        exact e
      rw [Ev.okS, okSs, okSs, okSs, okSs, e2, e3, e4]
      rfl
theorem Its.okS (n : Nat) : ∀ is : List It, (∀ i ∈ is, Vi n i) → okSs (Its.d is) = true
  | [], _ => by rw [Its.d, okSs]
  | i :: is, h => by
    rw [Its.d, okSs, It.okS n i (h i (List.mem_cons_self ..)), Its.okS n is fun j hj => h j (List.mem_cons_of_mem _ hj)]
    rfl
end
theorem Vp.okS {is : List It} (h : Vp is) : Ev.okS (.tuple (is.map It.d)) = true := by
  rw [Ev.okS, ← Its.d_map]
  exact Its.okS 5 is h.vi
end Ev

/-! ## Methods of own classes -/
namespace Ev
open PySem PySem.Spec PyProof.Rows L2
/-- a method of a class, ready to be called -/
structure MCal (P : Program) (w : World) (K : PySem.W.Frag) (mg : Str → Option Value) (base : Heap) (k : Nat) (C : Addr) (m : Str) (ps : List Str) (sp : Sp) : Prop where
  ex : ∃ (f : Addr) (fd : FuncData), FnOk P w K mg base CX0 k f fd ps sp ∧ Binds K fd ps [] ∧ Meth K C m f
/-- a method as it is written -/
structure MDef (K : PySem.W.Frag) (C : Addr) (m q : Str) (st : Stmt) (ps : List Str) : Prop where
  ex : ∃ (f : Addr) (fd : FuncData), Fun K m q st f fd ∧ Binds K fd ps [] ∧ Meth K C m f
section
variable {P : Program} {w : World} {K : PySem.W.Frag} {mg : Str → Option Value} {base : Heap} {x q : Str} {st : Stmt} {ps N : List Str} {sp : Sp} {k j : Nat} {C : Addr}
theorem MCal.up (M : MCal P w K mg base j C x ps sp) (h : j ≤ k) : MCal P w K mg base k C x ps sp := by
  obtain ⟨f, fd, F, b, m⟩ := M.ex
  exact ⟨f, fd, ⟨F.len, fun A o s H args us vs Q E hr => F.run A o s H args us vs Q E (hr.mono h)⟩, b, m⟩
theorem MDef.ok (D : MDef K C x q st ps) (S : FnScope N ps (defScope st)) (len : ∀ vs H Q E, sp vs H Q E → vs.length = ps.length)
    (hbody : ∀ (f : Addr) (cdv : Value) (A : Around) (outer : List Env) (s : Shared) (H : Hp) (vs : List V) (Q : VK) (E : XK),
      Room k (A.deeper (envOfC q (defScope st) s.heap.objs.size f cdv)) → sp vs H Q E →
      ∃ t, PSs (cxOf CX0 P w K mg base N q (defScope st) f cdv A outer s H E).nox (defBody st) t ∧
        t { nx := fun _ H' => Q .non H', rt := Q } (start N vs) H) : MCal P w K mg base (k + 1) C x ps sp := by
  obtain ⟨f, fd, F, b, m⟩ := D.ex
  exact ⟨f, fd, F.ok S len (hbody f), b, m⟩
end
section
variable {X : Cx} {k : Nat} {C : Addr} {ps : List Str} {sp : Sp} {m : Str} {pos apos : Pos} {e o : Expr} {es : List Expr} {ta : TE} {t : TA}
theorem pmeth {pl : Sem Bool} (M : MCal X.prog X.w X.K X.mg X.base k C m ps sp) (c : Cls X.K C) (hr : Room k X.A) (ho : PE X o ta) (ha : PA X (e :: es) t)
    (h1 : starEach (e :: es) X.env = (false, eval e X.env) :: starEach es X.env := by rfl) (h2 : (backTo pos (starEach es X.env)).any (·.1) = false := by rfl)
    (h3 : eval (.Call (.Attribute o m apos) (e :: es) [] pos) X.env = (do
      let v ← eval o X.env
      standAt apos.atName
      let (f, first) ← holding [v] (getMethod v m pl)
      callWith pos f first (backTo pos (starEach (e :: es) X.env)) (backToKw pos (keywordEach [] X.env))) := by rfl) : PE X (.Call (.Attribute o m apos) (e :: es) [] pos) (tMeth C m sp [] E0 ta t) := by
  obtain ⟨f, fd, F, hb, hm⟩ := M.ex
  exact pe_meth (pl := pl) ho c hm F hr hb .nil pass0 ha h1 h2 h3
theorem pmeth0 {pl : Sem Bool} (M : MCal X.prog X.w X.K X.mg X.base k C m ps sp) (c : Cls X.K C) (hr : Room k X.A) (ho : PE X o ta)
    (h3 : eval (.Call (.Attribute o m apos) [] [] pos) X.env = (do
      let v ← eval o X.env
      standAt apos.atName
      let (f, first) ← holding [v] (getMethod v m pl)
      callWith pos f first (backTo pos (starEach [] X.env)) (backToKw pos (keywordEach [] X.env))) := by rfl) : PE X (.Call (.Attribute o m apos) [] [] pos) (tMeth C m sp [] E0 ta tNil) := by
  obtain ⟨f, fd, F, hb, hm⟩ := M.ex
  exact pe_meth0 (pl := pl) ho c hm F hr hb .nil pass0 h3
/-- a class whose __init__ keeps a promise -/
structure KCal (P : Program) (w : World) (K : PySem.W.Frag) (mg : Str → Option Value) (base : Heap) (k : Nat) (C : Addr) (x : Str) (ps : List Str) (sp : Sp) : Prop where
  ex : ∃ (f : Addr) (fd : FuncData), FnOk P w K mg base CX0 k f fd ps sp ∧ Binds K fd ps [] ∧ Mk K C f ∧ mg x = some (.ref C)
theorem pmake {x : Str} {p : Pos} (M : KCal X.prog X.w X.K X.mg X.base k C x ps sp) (hr : Room (k + 1) X.A) (hg : Gl X x) (ha : PA X (e :: es) t)
    (h0 : (x == ("__debug__" : Str)) = false := by decide) (h1 : starEach (e :: es) X.env = (false, eval e X.env) :: starEach es X.env := by rfl) (h2 : (backTo pos (starEach es X.env)).any (·.1) = false := by rfl) :
    PE X (.Call (.Name x p) (e :: es) [] pos) (tMake C sp [] E0 t) := by
  obtain ⟨f, fd, F, hb, mk, hm⟩ := M.ex
  exact pe_make mk F hr hg hm hb .nil pass0 ha h0 h1 h2
end
/-! ### tuples stay, while objects and lists change -/
def Kj (H H' : Hp) : Prop := ∀ b o, H b = some o → (∀ xs, o ≠ .lst xs) → (∀ C dx fs, o ≠ .ins C dx fs) → H' b = some o
section
variable {K : PySem.W.Frag} {H H' H'' : Hp}
theorem Kj.of (s : Same H H') : Kj H H' := fun b o e _ _ => s b o e
theorem Kj.kt (s : Kt H H') : Kj H H' := fun b o e n _ => s b o e n
theorem Kj.trans (a : Kj H H') (b : Kj H' H'') : Kj H H'' := fun x o e n m => b x o (a x o e n m) n m
theorem Kj.putL {l : Addr} {xs : List V} {o : HO} (h : H l = some (.lst xs)) : Kj H (upd H l o) := .kt (Kt.put h)
theorem Kj.putI {p C dx : Addr} {fs : List (Str × V)} {o : HO} (h : H p = some (.ins C dx fs)) : Kj H (upd H p o) := fun b u e _ m => by
  have z : b ≠ p := fun z => by
    rw [z, h] at e
    cases e
    exact m _ _ _ rfl
  rw [upd_ne z]
  exact e
mutual
theorem Da.kj (k : Kj H H') : ∀ {v : V} {d : PyData}, tupD d = true → Da K H v d → Da K H' v d
  | _, _, _, .non => .non
  | _, _, _, .bl b => .bl b
  | _, _, _, .int i => .int i
  | _, _, _, .str x => .str x
  | _, _, n, .lst _ _ => by
    rw [tupD] at n
    cases n
  | _, _, n, .tup h t => by
    rw [tupD] at n
    refine .tup ?_ (DaAll.kj k n t)
    rcases h with (e | ⟨o, e⟩) | e
    · exact .inl (.inl (k _ _ e (fun xs z => by cases z) (fun _ _ _ z => by cases z)))
    · exact .inl (.inr ⟨o, k _ _ e (fun xs z => by cases z) (fun _ _ _ z => by cases z)⟩)
    · exact .inr e
  | _, _, n, .dic _ _ => by
    rw [tupD] at n
    cases n
theorem DaAll.kj (k : Kj H H') : ∀ {vs : List V} {ds : List PyData}, tupDs ds = true → DaAll K H vs ds → DaAll K H' vs ds
  | _, _, _, .nil => .nil
  | _, _, n, .cons h t => by
    rw [tupDs, Bool.and_eq_true] at n
    exact .cons (Da.kj k n.1 h) (DaAll.kj k n.2 t)
end
end
theorem none_of' {H H' : Hp} {p : Addr} (s : Same H H') (n : H' p = none) : H p = none := by
  cases e : H p with
  | none => rfl
  | some o =>
    rw [s _ _ e] at n
    cases n
/-- all but two stand -/
def Bu2 (p e : Addr) (H H' : Hp) : Prop := ∀ b o, b ≠ p → b ≠ e → H b = some o → H' b = some o
theorem Bu2.refl {p e : Addr} {H : Hp} : Bu2 p e H H := fun _ _ _ _ h => h
theorem Bu2.trans {p e : Addr} {H H1 H2 : Hp} (a : Bu2 p e H H1) (b : Bu2 p e H1 H2) : Bu2 p e H H2 := fun x o n m h => b x o n m (a x o n m h)
theorem Bu2.of {p e : Addr} {H H' : Hp} (s : Same H H') : Bu2 p e H H' := fun b o _ _ h => s b o h
theorem Bu2.put1 {p e : Addr} {H : Hp} {o : HO} : Bu2 p e H (upd H p o) := fun b _ n _ h => by
  rw [upd_ne n]
  exact h
theorem Bu2.put2 {p e : Addr} {H : Hp} {o : HO} : Bu2 p e H (upd H e o) := fun b _ _ n h => by
  rw [upd_ne n]
  exact h
end Ev

/-! ## Bench, as long as all goes well (without length and totals) -/
namespace Ev
open PySem PySem.Spec PyProof.Rows L2
abbrev sB (i : Nat) : Stmt := inClass (topS 68) i
def flB (cur : V) (e : Addr) : List (Str × V) := [("current", cur), ("earlier", .ref e)]
theorem flB_cur (cur : V) (e : Addr) : (flB cur e).lookup ("current" : Str) = some cur := by rfl
theorem flB_ear (cur : V) (e : Addr) : (flB cur e).lookup ("earlier" : Str) = some (V.ref e) := by rfl
theorem flB_put (cur v : V) (e : Addr) : putF "current" v (flB cur e) = flB v e := by rfl
theorem flB_mk (cur : V) (e : Addr) : putF "earlier" (.ref e) (putF "current" cur []) = flB cur e := by rfl
/-- programs as data -/
abbrev pgD (is : List It) : PyData := .tuple (is.map It.d)
theorem hist_tup : ∀ hs : List (List It), tupDs (hs.map pgD) = true
  | [] => by rw [List.map_nil, tupDs]
  | h :: hs => by
    rw [List.map_cons, tupDs, hist_tup hs, prog_tup]
    rfl
/-- a bench stands at p, its list of elder programs at e -/
structure BnAt (K : PySem.W.Frag) (C : Addr) (H : Hp) (p e : Addr) (is : List It) (hs : List (List It)) : Prop where
  ob : ∃ dx cur, H p = some (.ins C dx (flB cur e)) ∧ Da K H cur (pgD is)
  er : ∃ us, H e = some (.lst us) ∧ DaAll K H us (hs.map pgD)
  vp : Vp is
theorem BnAt.ne {K : PySem.W.Frag} {C p e : Addr} {H : Hp} {is : List It} {hs : List (List It)} (h : BnAt K C H p e is hs) : p ≠ e := by
  obtain ⟨dx, cur, h1, _⟩ := h.ob
  obtain ⟨us, h2, _⟩ := h.er
  intro z
  rw [z, h2] at h1
  cases h1
theorem BnAt.same {K : PySem.W.Frag} {C p e : Addr} {H H' : Hp} {is : List It} {hs : List (List It)} (h : BnAt K C H p e is hs) (s : Same H H') : BnAt K C H' p e is hs := by
  obtain ⟨⟨dx, cur, h1, h2⟩, ⟨us, h3, h4⟩, h5⟩ := h
  exact ⟨⟨dx, cur, s _ _ h1, h2.mono s⟩, ⟨us, s _ _ h3, h4.mono s⟩, h5⟩
/-- other things change -/
theorem BnAt.kj {K : PySem.W.Frag} {C p e : Addr} {H H' : Hp} {is : List It} {hs : List (List It)} (h : BnAt K C H p e is hs) (k : Kj H H') (s : ∀ o, (H p = some o → H' p = some o) ∧ (H e = some o → H' e = some o)) : BnAt K C H' p e is hs := by
  obtain ⟨⟨dx, cur, h1, h2⟩, ⟨us, h3, h4⟩, h5⟩ := h
  exact ⟨⟨dx, cur, (s _).1 h1, h2.kj k (prog_tup _)⟩, ⟨us, (s _).2 h3, h4.kj k (hist_tup _)⟩, h5⟩
structure BTx (K : PySem.W.Frag) (mg : Str → Option Value) (C : Addr) : Prop where
  cl : Cls K C
  nC : NoAttr K C "current"
  nE : NoAttr K C "earlier"
def spBI (K : PySem.W.Frag) (C : Addr) : Sp := fun vs H Q _ => ∃ (p dx : Addr) (x : V) (is : List It), vs = [.ref p, x] ∧ H p = some (.ins C dx []) ∧ Da K H x (pgD is) ∧ Vp is ∧ ∀ e H', H e = none → BnAt K C H' p e is [] → Bu p H H' → Q .non H'
def spBP (K : PySem.W.Frag) (C : Addr) : Sp := fun vs H Q _ => ∃ (p e : Addr) (is : List It) (hs : List (List It)), vs = [.ref p] ∧ BnAt K C H p e is hs ∧ ∀ u, Da K H u (pgD is) → Q u H
def spBN (K : PySem.W.Frag) (C : Addr) : Sp := fun vs H Q _ => ∃ (p e : Addr) (is : List It) (hs : List (List It)), vs = [.ref p] ∧ BnAt K C H p e is hs ∧ Q (.int (hs.length : Nat)) H
def spBC (K : PySem.W.Frag) (C : Addr) : Sp := fun vs H Q _ => ∃ (p e : Addr) (is js : List It) (hs : List (List It)) (x : V), vs = [.ref p, x] ∧ BnAt K C H p e is hs ∧ hs.length ≤ 100000 ∧ Da K H x (pgD js) ∧ Vp js ∧ ∀ H', Bu2 p e H H' → BnAt K C H' p e js (hs ++ [is]) → Q .non H'
/-- a item in place of those from a up to b -/
def putI (is : List It) (a b : Nat) (it : It) : List It := is.take a ++ [it] ++ is.drop b
def spBU (K : PySem.W.Frag) (C : Addr) : Sp := fun vs H Q _ => ∃ (p e : Addr) (is : List It) (hs : List (List It)) (a b : Nat) (x : V) (it : It), vs = [.ref p, .int (a : Nat), .int (b : Nat), x] ∧ BnAt K C H p e is hs ∧ hs.length ≤ 100000 ∧ Da K H x (It.d it) ∧ Vp (putI is a b it) ∧
  ∀ H', Bu2 p e H H' → BnAt K C H' p e (putI is a b it) (hs ++ [is]) → Q .non H'
def spBIn (K : PySem.W.Frag) (C : Addr) : Sp := fun vs H Q _ => ∃ (p e : Addr) (is : List It) (hs : List (List It)) (a : Nat) (x : V) (it : It), vs = [.ref p, .int (a : Nat), x] ∧ BnAt K C H p e is hs ∧ hs.length ≤ 100000 ∧ a ≤ is.length ∧ Da K H x (It.d it) ∧ Vp (putI is a a it) ∧
  ∀ H', Bu2 p e H H' → BnAt K C H' p e (putI is a a it) (hs ++ [is]) → Q .non H'
def spBRe (K : PySem.W.Frag) (C : Addr) : Sp := fun vs H Q _ => ∃ (p e : Addr) (is : List It) (hs : List (List It)) (a : Nat) (x : V) (it : It), vs = [.ref p, .int (a : Nat), x] ∧ BnAt K C H p e is hs ∧ hs.length ≤ 100000 ∧ a < is.length ∧ Da K H x (It.d it) ∧ Vp (putI is a (a + 1) it) ∧
  ∀ H', Bu2 p e H H' → BnAt K C H' p e (putI is a (a + 1) it) (hs ++ [is]) → Q .non H'
def spBD (K : PySem.W.Frag) (C : Addr) : Sp := fun vs H Q _ => ∃ (p e : Addr) (is : List It) (hs : List (List It)) (a : Nat) (it : It), vs = [.ref p, .int (a : Nat)] ∧ BnAt K C H p e is hs ∧ hs.length ≤ 100000 ∧ is[a]? = some it ∧ 2 ≤ is.length ∧
  ∀ H' u, Bu2 p e H H' → BnAt K C H' p e (is.eraseIdx a) (hs ++ [is]) → Da K H' u (It.d it) → Q u H'
def spCi (K : PySem.W.Frag) : Sp := fun vs H Q _ => ∃ (i lo hi : Int), vs = [.int i, .int lo, .int hi] ∧ lo ≤ i ∧ i ≤ hi ∧ ∀ H', Same H H' → Q .non H'
theorem scBI : FnScope ["self", "program"] ["self", "program"] (defScope (sB 0)) := ⟨rfl, rfl, rfl, by decide +kernel, rfl, by decide +kernel, by decide +kernel⟩
theorem scBP : FnScope ["self"] ["self"] (defScope (sB 2)) := ⟨rfl, rfl, rfl, by decide +kernel, rfl, by decide +kernel, by decide +kernel⟩
theorem scBC : FnScope ["self", "program"] ["self", "program"] (defScope (sB 15)) := ⟨rfl, rfl, rfl, by decide +kernel, rfl, by decide +kernel, by decide +kernel⟩
section
variable {P : Program} {w : World} {K : PySem.W.Frag} {mg : Str → Option Value} {base : Heap} {C : Addr}
theorem ok_bI {f fP : Addr} {fd fdP : FuncData} (T : BTx K mg C) (F : Fun K "__init__" "Bench.__init__" (sB 0) f fd) (GP : FnOk P w K mg base CX0 15 fP fdP ["value"] (spProg K)) (bP : Binds K fdP ["value"] []) (mP : mg "is_program" = some (.ref fP)) (vP : PySem.W.keepIn K (.ref fP) = true) :
    FnOk P w K mg base CX0 16 f fd ["self", "program"] (spBI K C) := by
  refine F.ok scBI (fun vs H Q E h => ?_) (fun cdv A outer s H vs Q E hr h => ?_)
  · obtain ⟨p, dx, x, is, rfl, _⟩ := h
    rfl
  · obtain ⟨p, dx, x, is, rfl, hp, hd, hv, q⟩ := h
    refine ⟨_, pss_cons (ps_if (pt_not (pt_val (pe_call GP hr (by rfl) mP vP bP .nil pass0 (pa_cons (pv 1) pa_nil)))) pss_dead pss_nil)
      (pss_cons (ps_fld (pv 0) (pv 1) rfl) (pss_one (ps_fld (pv 0) (pe_lst pa_nil) rfl))), ?_⟩
    refine ⟨_, rfl, x, pgD is, rfl, hd, hv.okS, fun H1 s1 => ⟨_, rfl, ?_⟩⟩
    rw [hv.isP]
    refine iteF ?_
    have hp1 := s1 _ _ hp
    refine ⟨_, rfl, _, rfl, p, C, dx, [], rfl, hp1, T.cl, T.nC, (by show 0 < 1000; decide), (by show 0 ≤ sizeLine; exact Nat.zero_le _), fun e ne => ?_⟩
    have npe : p ≠ e := fun z => by
      rw [← z, upd_same] at ne
      cases ne
    have n1 : H1 e = none := by
      rw [upd_ne npe.symm] at ne
      exact ne
    refine ⟨_, rfl, p, C, dx, _, rfl, by rw [upd_ne npe, upd_same], T.cl, T.nE, (by show 1 < 1000; decide), ?_⟩
    rw [flB_mk]
    have k1 : Kj H1 (upd H1 p (.ins C dx (putF "current" x []))) := Kj.putI hp1
    have k2 := (k1.trans (Kj.of (same_put (o := .lst []) ne))).trans (Kj.putI (o := .ins C dx (flB x e)) (show (upd (upd H1 p (.ins C dx (putF "current" x []))) e (.lst [])) p = some (.ins C dx (putF "current" x [])) by rw [upd_ne npe, upd_same]))
    refine q e _ (none_of' s1 n1) ⟨⟨dx, x, upd_same, (hd.mono s1).kj k2 (prog_tup _)⟩, ⟨[], by rw [upd_ne npe.symm, upd_same], .nil⟩, hv⟩ fun b o n h => ?_
    rw [upd_ne n, upd_ne (ne_of_none (s1 _ _ h) n1), upd_ne n]
    exact s1 _ _ h
theorem ok_bP (T : BTx K mg C) (D : MDef K C "program" "Bench.program" (sB 2) ["self"]) : MCal P w K mg base 1 C "program" ["self"] (spBP K C) := by
  refine D.ok scBP (fun vs H Q E h => ?_) (fun f cdv A outer s H vs Q E hr h => ?_)
  · obtain ⟨p, e, is, hs, rfl, _⟩ := h
    rfl
  · obtain ⟨p, e, is, hs, rfl, hb, q⟩ := h
    obtain ⟨dx, cur, h1, h2⟩ := hb.ob
    exact ⟨_, pss_one (ps_ret (pe_fld (pv 0) rfl)), _, rfl, p, C, dx, _, _, rfl, h1, T.cl, T.nC, flB_cur _ _, q cur h2⟩
end
end Ev

/-! ## Bench.changes -/
namespace Ev
open PySem PySem.Spec PyProof.Rows L2
section
variable {P : Program} {w : World} {K : PySem.W.Frag} {mg : Str → Option Value} {base : Heap} {C : Addr}
end
end Ev

/-! ## spent, length, lines_of -/
namespace Ev
open PySem PySem.Spec PyProof.Rows L2
def spSpent (K : PySem.W.Frag) (B dep : Nat) : Sp := fun vs H Q _ => ∃ (x : V) (is : List It) (r : Int) (R : Nat), vs = [x, .int r] ∧ Da K H x (.tuple (is.map It.d)) ∧ (∀ i ∈ is, Okp B dep i) ∧ r.natAbs < 2 ^ R ∧ 0 < R ∧ 0 < B ∧
  R + (dep + 1) * B ≤ 900000 ∧ Its.nl is ≤ 100000 ∧ ∀ H' u, Same H H' → (gPl K (Its.sp r is)).p H' u → Q u H'
theorem scSp : FnScope ["items", "rounds", "pairs", "kind", "first", "second"] ["items", "rounds"] (defScope (topS 39)) := ⟨rfl, rfl, rfl, by decide +kernel, rfl, by decide +kernel, by decide +kernel⟩
section
variable {P : Program} {w : World} {K : PySem.W.Frag} {mg : Str → Option Value} {base : Heap} {f fS : Addr} {fd fdS : FuncData}
theorem sp_step {k B dep : Nat} {spR : Sp} (F : Fun K "spent" "spent" (topS 39) f fd) (b : Binds K fd ["items", "rounds"] []) (m : mg "spent" = some (.ref f)) (v : PySem.W.keepIn K (.ref f) = true)
    (GR : FnOk P w K mg base CX0 k f fd ["items", "rounds"] spR) (hR : dep = 0 ∨ ∃ d, dep = d + 1 ∧ spR = spSpent K B d) : FnOk P w K mg base CX0 (k + 1) f fd ["items", "rounds"] (spSpent K B dep) := by
  refine F.ok scSp (fun vs H Q E h => ?_) (fun cdv A outer s H vs Q E hr h => ?_)
  · obtain ⟨x, is, r, R, rfl, _⟩ := h
    rfl
  · obtain ⟨x, is, r, R, rfl, hd, hok, hr0, R0, B0, hb, hnl, q⟩ := h
    refine ⟨_, pss_cons (ps_set (i := 2) scSp.nd rfl (.inl rfl) (pe_lst pa_nil))
      (pss_cons (ps_for PassesOwn.never rfl (pi_tup (pv 0)) (pg_tup rfl (pgs_cons (pg_name (i := 3) scSp.nd rfl (.inl rfl)) (pgs_cons (pg_name (i := 4) scSp.nd rfl (.inl rfl)) (pgs_cons (pg_name (i := 5) scSp.nd rfl (.inl rfl)) pgs_nil))))
        (pss_one (ps_if (pt_cmpR op_eq (pv 3) pe_str (nomark _))
          (pss_one (ps_expr (pe_bm PySem.F.plainAttrs_list PySem.F.slot_list_append PySem.F.type_list_append mt_append (pv 2) (pa_cons (pe_tup (pa_cons (pv 4) (pa_cons (pe_op op_mulW (pv 1) (pv 5)) pa_nil))) pa_nil))))
          (pss_one (ps_expr (pe_bm PySem.F.plainAttrs_list PySem.F.slot_list_extend PySem.F.type_list_extend mt_extend (pv 2) (pa_cons (pe_call GR hr (by rfl) m v b .nil pass0 (pa_cons (pv 5) (pa_cons (pe_op op_mulW (pv 1) (pv 4)) pa_nil))) pa_nil)))))))
      (pss_one (ps_ret (pv 2)))), ?_⟩
    have y := sizeLine_eq
    obtain ⟨a, xs, rfl, hs, ha⟩ := da_prog hd
    refine ⟨(by show 0 ≤ sizeLine; exact Nat.zero_le _), fun l nl => ?_⟩
    have s0 : Same H (upd H l (.lst [])) := same_put nl
    refine ⟨_, rfl, a, rfl, ⟨xs, seqT_mono s0 hs⟩, for_tup (K := K) (a := a) (xs := xs) (fun i σ' H' => ∃ (us : List V) (y3 y4 y5 : Option V), σ' = [some (.ref a), some (.int r), some (.ref l), y3, y4, y5] ∧ Same H H' ∧ H' l = some (.lst us) ∧
      DaAll K H' us ((Its.sp r (is.take i)).map pairD)) ⟨[], none, none, none, rfl, s0, upd_same, .nil⟩ (fun i σ' H' _ ⟨_, _, _, _, _, s', _⟩ => seqT_mono s' hs) ?_ ?_⟩
    · rintro i x' σ' H' hi ⟨us, y3, y4, y5, rfl, s', hl', hda⟩
      obtain ⟨d, hd', hx'⟩ := daAll_at (ha.mono s') hi
      rw [List.getElem?_map] at hd'
      obtain ⟨it, hit, rfl⟩ := Option.map_eq_some_iff.mp hd'
      have hmem := List.mem_of_getElem? hit
      have hnt := nl_take hit
      have hul : us.length = Its.nl (is.take i) := by
        have z := daAll_len hda
        rw [List.length_map, Its.sp_len] at z
        exact z
      have hBd : B ≤ (dep + 1) * B := Nat.le_mul_of_pos_left _ (Nat.succ_pos _)
      cases it with
      | line x t =>
        have hokt := okp_line.mp (hok _ hmem)
        obtain ⟨b', rfl, hb'⟩ := da_line hx'
        have hn1 : It.nl (.line x t) = 1 := by rw [It.nl]
        refine ⟨b', _, rfl, hb', rfl, _, _, rfl, _, _, rfl, _, _, rfl, rfl, ?_⟩
        refine ⟨_, rfl, rfl, _, rfl, ?_⟩
        rw [dec_str]
        refine iteT ?_
        refine ⟨_, rfl, .inl ⟨rfl, _, .inl (.inl hl')⟩, _, rfl, _, rfl, _, rfl, _, _, rfl, rfl, wide_mul hr0 (abs_lt hokt.1 hokt.2) R0 B0 (by omega), (by show 2 ≤ sizeLine; decide), fun t' nt => ?_⟩
        have nlt : l ≠ t' := ne_of_none hl' nt
        refine ⟨l, us, .ref t', rfl, rfl, by rw [upd_ne nlt]; exact hl', by omega, ?_⟩
        refine ⟨us ++ [.ref t'], _, _, _, rfl, fun b o e => ?_, upd_same, ?_⟩
        · rw [upd_ne (ne_of_none e nl), upd_ne (ne_of_none (s' _ _ e) nt)]
          exact s' _ _ e
        · rw [sp_take hit, It.sp, List.map_append]
          have kt : Kt (upd H' t' (.tup [.str x, .int (r * t)])) (upd (upd H' t' (.tup [.str x, .int (r * t)])) l (.lst (us ++ [.ref t']))) := Kt.put (by rw [upd_ne nlt]; exact hl')
          refine da_app (DaAll.kt ((Kt.of (same_put nt)).trans kt) (tup_pairs _) hda) (.cons (.tup (xs := [.str x, .int (r * t)]) (.inl (.inl ?_)) (.cons (.str _) (.cons (.int _) .nil))) .nil)
          rw [upd_ne nlt.symm, upd_same]
      | loop k' js =>
        obtain ⟨d', rfl, hsp⟩ : ∃ d', dep = d' + 1 ∧ spR = spSpent K B d' := by
          rcases hR with h | h
          · subst h
            exact (hok _ hmem).elim
          · exact h
        subst hsp
        obtain ⟨k0, k1, hokj⟩ : 0 ≤ k' ∧ k' < (2 ^ B : Nat) ∧ ∀ i ∈ js, Okp B d' i := hok _ hmem
        obtain ⟨b', v5, rfl, hb', hv5⟩ := da_loop hx'
        have hn1 : It.nl (.loop k' js) = Its.nl js := by rw [It.nl]
        have e1 : (d' + 1 + 1) * B = (d' + 1) * B + B := Nat.succ_mul _ _
        refine ⟨b', _, rfl, hb', rfl, _, _, rfl, _, _, rfl, _, _, rfl, rfl, ?_⟩
        refine ⟨_, rfl, rfl, _, rfl, ?_⟩
        rw [dec_ll]
        refine iteF ?_
        refine ⟨_, rfl, .inl ⟨rfl, _, .inl (.inl hl')⟩, _, rfl, _, rfl, _, rfl, _, _, rfl, rfl, wide_mul hr0 (abs_lt k0 k1) R0 B0 (by omega), v5, js, r * k', R + B, rfl, hv5, hokj, wide_lt hr0 (abs_lt k0 k1), by omega, B0, by omega, by omega, fun H2 u s2 g2 => ?_⟩
        obtain ⟨l2, us2, rfl, hl2, hda2⟩ := g2
        have hul2 : us2.length = Its.nl js := by
          have z := daAll_len hda2
          rw [List.length_map, Its.sp_len] at z
          exact z
        refine ⟨l, l2, us, us2, rfl, rfl, s2 _ _ hl', hl2, by omega, ?_⟩
        refine ⟨us ++ us2, _, _, _, rfl, fun b o e => ?_, upd_same, ?_⟩
        · rw [upd_ne (ne_of_none e nl)]
          exact s2 _ _ (s' _ _ e)
        · rw [sp_take hit, It.sp, List.map_append]
          have kt : Kt H2 (upd H2 l (.lst (us ++ us2))) := Kt.put (s2 _ _ hl')
          exact da_app (DaAll.kt ((Kt.of s2).trans kt) (tup_pairs _) hda) (DaAll.kt kt (tup_pairs _) hda2)
    · rintro σ' H' ⟨us, y3, y4, y5, rfl, s', hl', hda⟩
      have hx : xs.length = is.length := by
        have z := daAll_len ha
        rw [List.length_map] at z
        exact z
      rw [hx, List.take_length] at hda
      exact ⟨_, rfl, q H' _ s' ⟨l, us, rfl, hl', hda⟩⟩
theorem ok_spent {B : Nat} (F : Fun K "spent" "spent" (topS 39) f fd) (b : Binds K fd ["items", "rounds"] []) (m : mg "spent" = some (.ref f)) :
    ∀ dep : Nat, FnOk P w K mg base CX0 (dep + 1) f fd ["items", "rounds"] (spSpent K B dep)
  | 0 => sp_step F b m F.kp no_fn (.inl rfl)
  | n + 1 => sp_step F b m F.kp (ok_spent F b m n) (.inr ⟨n, rfl, rfl⟩)
/-! ### length -/
def spLen (K : PySem.W.Frag) (B dep : Nat) : Sp := fun vs H Q _ => ∃ (x : V) (is : List It), vs = [x] ∧ Prg K B dep H x is ∧ ∀ H', Same H H' → Q (.int (lenI is)) H'
theorem scLe : FnScope ["program", "name", "ticks"] ["program"] (defScope (topS 32)) := ⟨rfl, rfl, rfl, by decide +kernel, rfl, by decide +kernel, by decide +kernel⟩
/-- spent(x, 1), as the head of a comprehension -/
theorem hi_spent {B dep : Nat} {H0 : Hp} {σ : L2.St} {i : Nat} {x : V} {is : List It} (hB : Room2 B dep) (hv : σ[i]? = some (some x)) (hp : Prg K B dep H0 x is) :
    ∀ (H : Hp) (Q : VK), Same H0 H → (∀ H' l us, Same H H' → SqL K H' l us → DaAll K H' us ((Its.sp 1 is).map pairD) → Q (.ref l) H') → tCall (spSpent K B dep) [] E0 (tCons (tVar i) (tCons (tC (.int 1)) tNil)) σ H Q := fun H Q s q =>
  ⟨_, hv, x, is, 1, 64, rfl, hp.da.mono s, hp.ok, by decide, by decide, hB.1, hB.2, hp.few, fun H' u s' ⟨l, us, e, hl, ha⟩ => by
    subst e
    exact q H' l us s' (.inl (.inl hl)) ha⟩
theorem ok_len {B dep : Nat} (hB : Room2 B dep) (F : Fun K "length" "length" (topS 32) f fd) (GS : FnOk P w K mg base CX0 (dep + 1) fS fdS ["items", "rounds"] (spSpent K B dep)) (bS : Binds K fdS ["items", "rounds"] []) (mS : mg "spent" = some (.ref fS)) (vS : PySem.W.keepIn K (.ref fS) = true)
    (mu : mg "sum" = none) : FnOk P w K mg base CX0 (dep + 2) f fd ["program"] (spLen K B dep) := by
  refine F.ok scLe (fun vs H Q E h => ?_) (fun cdv A outer s H vs Q E hr h => ?_)
  · obtain ⟨x, is, rfl, _⟩ := h
    rfl
  · obtain ⟨x, is, rfl, hp, q⟩ := h
    refine ⟨_, pss_one (ps_ret (pe_callB (cr_sum rfl) (by rfl) mu (by decide +kernel) (pa_cons (pe_lc (own := [("name", 1), ("ticks", 2)]) (g := gTup K 2 (gCons (gName 1) (gCons (gName 2) gNil))) (tt := tYes) (te := tVar 2) rfl scLe.nd
      (pi_list (pe_call GS hr (by rfl) mS vS bS .nil pass0 (pa_cons (pv 0) (pa_cons pe_int pa_nil)))) (blkOk_by (N := ["program", "name", "ticks"]) (sc := defScope (topS 32)) (by decide +kernel))
      (fun _ _ _ _ _ => pg_tup rfl (pgs_cons (pg_name (i := 1) scLe.nd rfl (Or.inl rfl)) (pgs_cons (pg_name (i := 2) scLe.nd rfl (Or.inl rfl)) pgs_nil))) (fun _ _ _ _ _ => pts_nil) (fun _ _ _ _ _ => pv 2)) pa_nil))), ?_⟩
    have y := sizeLine_eq
    have hlen : ((Its.sp 1 is).map pairD).length = Its.nl is := by rw [List.length_map, Its.sp_len]
    have few := hp.few
    have key := g_lcF (K := K) (H0 := H) (σ := [some x, none, none]) (te := tVar 2) (tt := tYes) (ds := (Its.sp 1 is).map pairD) (f := fun _ => true) (y := fun j => (((Its.sp 1 is)[j]?).map fun p => V.int p.2).getD .non)
      (g := gTup K 2 (gCons (gName 1) (gCons (gName 2) gNil))) (vs := [1, 2]) (hi_spent (i := 0) hB rfl hp) (by omega) fun j x' d hd HH R N sH hx hR hN => by
        rw [List.getElem?_map] at hd
        obtain ⟨p, hp', rfl⟩ := Option.map_eq_some_iff.mp hd
        obtain ⟨a, rfl, ha⟩ := da_pair hx
        have z := hR rfl HH Same.rfl'
        rw [hp'] at z
        exact ⟨a, _, rfl, ha, rfl, _, _, rfl, _, _, rfl, rfl, rfl, _, rfl, z⟩
    have e : ((List.range ((Its.sp 1 is).map pairD).length).filter fun _ => true).map (fun j => (((Its.sp 1 is)[j]?).map fun p => V.int p.2).getD .non) = ((Its.sp 1 is).map (·.2)).map V.int := by
      rw [List.filter_eq_self.mpr (fun _ _ => rfl), List.length_map, range_map, List.map_map]
      rfl
    rw [e] at key
    refine s_ret (g_sum (K := K) key) fun H' u s' e' => ?_
    have e' : u = _ := e'
    subst e'
    exact q H' s'
/-! ### lines_of -/
def spLines (K : PySem.W.Frag) (B dep : Nat) : Sp := fun vs H Q _ => ∃ (x : V) (is : List It), vs = [x] ∧ Prg K B dep H x is ∧ Its.nl is < 64 ∧ ∀ H' a, Same H H' → H' a = some (.tup ((linesI is).map V.str)) → Q (.ref a) H'
def spLinesG (K : PySem.W.Frag) (B dep : Nat) : Sp := fun vs H Q _ => ∃ (x : V) (is : List It), vs = [x] ∧ Prg K B dep H x is ∧ Its.nl is < 4000 ∧ (uniq [] ((Its.sp 1 is).map (·.1))).length < 64 ∧ ∀ H' a, Same H H' → H' a = some (.tup ((linesI is).map V.str)) → Q (.ref a) H'
theorem scLo : FnScope ["program", "name", "ticks"] ["program"] (defScope (topS 34)) := ⟨rfl, rfl, rfl, by decide +kernel, rfl, by decide +kernel, by decide +kernel⟩
/-- {text for .. in a list}, a text from each item -/
theorem sc_F {ti : TE} {H0 : Hp} {σ : L2.St} {ds : List PyData} {zs : List Str} {g : TG} {te : TE} {vs : List Nat} {Q : VK} (hi : ∀ (H : Hp) (Q : VK), Same H0 H → (∀ H' l us, Same H H' → SqL K H' l us → DaAll K H' us ds → Q (.ref l) H') → ti σ H Q) (hz : ds.length < 4000) (hl : zs.length = ds.length)
    (he : ∀ (j : Nat) (x : V) (d : PyData) (z : Str), ds[j]? = some d → zs[j]? = some z → ∀ (H : Hp) (R : VK), Same H0 H → Da K H x d → R (.str z) H → g x (wipe σ vs) H fun σ2 H2 => wipe σ2 vs = wipe σ vs ∧ te σ2 H2 R)
    (q : ∀ H' D, Same H0 H' → H' D = some (SetSO w D (uniq [] zs)) → Q (.ref D) H') : tScS w (iList K ti) g tYes te vs σ H0 Q := by
  refine hi H0 _ Same.rfl' fun H1 l us s1 hl1 ha => ⟨l, rfl, ⟨us, hl1⟩, fun D nD => ?_⟩
  have hlen := daAll_len ha
  have hb : scanBound = 4096 := rfl
  refine ⟨fun i m H => m = us.length - i ∧ i ≤ us.length ∧ Same H1 H ∧ H D = some (SetSO w D (uniq [] (zs.take i))), ⟨us.length, by simp, Nat.zero_le _, same_put nD, upd_same⟩, ?_⟩
  rintro i m H' ⟨rfl, hi', s', eD⟩
  have hl' := s'.seq hl1
  by_cases lt : i < us.length
  · refine .inr ⟨⟨us, us[i], hl', by simp [lt]⟩, fun H'' => Same H1 H'' ∧ H'' D = some (SetSO w D (uniq [] (zs.take (i + 1)))), fun H'' p' => ⟨us.length - (i + 1), by omega, rfl, lt, p'.1, p'.2⟩, fun x H'' yv => ?_⟩
    obtain ⟨e, yv⟩ := yv
    subst e
    have hk := yv us hl'
    obtain ⟨d, hd, hx⟩ := daAll_at ha hk
    have hz1 : i < zs.length := by
      have := (List.getElem?_eq_some_iff.mp hd).1
      omega
    have hzi := List.getElem?_eq_getElem hz1
    have room : (uniq [] (zs.take i)).length + 1 < scanBound := by
      have z := uniq_len (zs.take i) []
      rw [List.length_take] at z
      have z0 : ([] : List Str).length = 0 := rfl
      omega
    refine cast ?_ (he i x d zs[i] hd hzi _ (fun y H4 => ∃ (c : Str) (ks : List Str), y = .str c ∧ H4 D = some (SetSO w D ks) ∧ ks.length + 1 < scanBound ∧ (Same H1 (upd H4 D (SetSO w D (addN ks c))) ∧ upd H4 D (SetSO w D (addN ks c)) D = some (SetSO w D (uniq [] (zs.take (i + 1))))))
      (s1.trans s') (hx.mono s') ⟨zs[i], _, rfl, eD, room, fun b o e => ?_, ?_⟩)
    · rfl
    · rw [upd_ne (ne_of_none e nD)]
      exact s' _ _ e
    · rw [upd_same, ← uniq_snoc, List.take_add_one, hzi]
      rfl
  · have e : i = us.length := by omega
    subst e
    rw [hlen, ← hl, List.take_length] at eD
    exact .inl ⟨⟨us, hl', Nat.le_refl _⟩, q H' D (s1.trans s') eD⟩
theorem ok_linesG {B dep : Nat} (hB : Room2 B dep) (F : Fun K "lines_of" "lines_of" (topS 34) f fd) (GS : FnOk P w K mg base CX0 (dep + 1) fS fdS ["items", "rounds"] (spSpent K B dep)) (bS : Binds K fdS ["items", "rounds"] []) (mS : mg "spent" = some (.ref fS)) (vS : PySem.W.keepIn K (.ref fS) = true)
    (mt : mg "tuple" = none) (mo : mg "sorted" = none) : FnOk P w K mg base CX0 (dep + 2) f fd ["program"] (spLinesG K B dep) := by
  refine F.ok scLo (fun vs H Q E h => ?_) (fun cdv A outer s H vs Q E hr h => ?_)
  · obtain ⟨x, is, rfl, _⟩ := h
    rfl
  · obtain ⟨x, is, rfl, hp, h64, hks, q⟩ := h
    refine ⟨_, pss_one (ps_ret (pe_callTy call_tuple_of (by rfl) mt (by decide +kernel) (pa_cons (pe_callB (cr_sortSS rfl) (by rfl) mo (by decide +kernel) (pa_cons (pe_scS (own := [("name", 1), ("ticks", 2)]) (g := gTup K 2 (gCons (gName 1) (gCons (gName 2) gNil))) (tt := tYes) (te := tVar 1) rfl scLo.nd
      (pi_list (pe_call GS hr (by rfl) mS vS bS .nil pass0 (pa_cons (pv 0) (pa_cons pe_int pa_nil)))) (blkOk_by (N := ["program", "name", "ticks"]) (sc := defScope (topS 34)) (by decide +kernel))
      (fun _ _ _ _ _ => pg_tup rfl (pgs_cons (pg_name (i := 1) scLo.nd rfl (Or.inl rfl)) (pgs_cons (pg_name (i := 2) scLo.nd rfl (Or.inl rfl)) pgs_nil))) (fun _ _ _ _ _ => pts_nil) (fun _ _ _ _ _ => pv 1)) pa_nil)) pa_nil))), ?_⟩
    have hlen : ((Its.sp 1 is).map pairD).length = Its.nl is := by rw [List.length_map, Its.sp_len]
    have key : ∀ Q' : VK, (∀ H' D, Same H H' → H' D = some (SetSO w D (uniq [] ((Its.sp 1 is).map (·.1)))) → Q' (.ref D) H') → tScS w (iList K (tCall (spSpent K B dep) [] E0 (tCons (tVar 0) (tCons (tC (.int 1)) tNil)))) (gTup K 2 (gCons (gName 1) (gCons (gName 2) gNil))) tYes (tVar 1) [1, 2] [some x, none, none] H Q' := fun Q' k =>
      sc_F (hi_spent (i := 0) hB rfl hp) (by omega) (by rw [List.length_map, List.length_map]) (fun j x' d z hd hz' HH R sH hx hR => by
        rw [List.getElem?_map] at hd hz'
        obtain ⟨p, hp', rfl⟩ := Option.map_eq_some_iff.mp hd
        rw [hp'] at hz'
        cases hz'
        obtain ⟨a, rfl, ha⟩ := da_pair hx
        exact ⟨a, _, rfl, ha, rfl, _, _, rfl, _, _, rfl, rfl, rfl, _, rfl, hR⟩) k
    refine s_ret2 (key _ fun H1 D s1 eD => ?_)
    refine ⟨D, _, rfl, eD, hks, fun ys p pm hs np => ?_⟩
    have e : ys = linesI is := srt_is pm hs
    subst e
    refine ⟨p, _, rfl, .inl ⟨.inl (.inl upd_same), fun a na => ?_⟩⟩
    exact q _ a (s1.trans ((same_put np).trans (same_put na))) upd_same
theorem ok_lines {B dep : Nat} (hB : Room2 B dep) (F : Fun K "lines_of" "lines_of" (topS 34) f fd) (GS : FnOk P w K mg base CX0 (dep + 1) fS fdS ["items", "rounds"] (spSpent K B dep)) (bS : Binds K fdS ["items", "rounds"] []) (mS : mg "spent" = some (.ref fS)) (vS : PySem.W.keepIn K (.ref fS) = true)
    (mt : mg "tuple" = none) (mo : mg "sorted" = none) : FnOk P w K mg base CX0 (dep + 2) f fd ["program"] (spLines K B dep) :=
  (ok_linesG hB F GS bS mS vS mt mo).imp fun vs H Q E ⟨x, is, e, hp, h64, q⟩ => ⟨x, is, e, hp, by omega, by
    have z := uniq_len ((Its.sp 1 is).map (·.1)) []
    rw [List.length_map, Its.sp_len] at z
    have z0 : ([] : List Str).length = 0 := rfl
    omega, q⟩
end
end Ev

/-! ## added_up, totals -/
namespace Ev
open PySem PySem.Spec PyProof.Rows L2
section
variable {K : PySem.W.Frag} {H0 : Hp} {σ : L2.St} {te ti : TE}
/-- tuple(list) -/
theorem g_tupOf {es : List PyData} (h : Gives H0 te (gLd K es) σ) : Gives H0 (tCB (fun xs H Q => ∃ p ys, xs = [.ref p] ∧ (SqL K H p ys ∧ (∀ q, H q = none → Q (.ref q) (upd H q (.tup ys))) ∨ SqT K H p ys ∧ Q (.ref p) H)) (tCons te tNil)) ⟨fun H u => Da K H u (.tuple es), fun s h => h.mono s⟩ σ := fun H Q s q =>
  h H _ s fun H1 u s1 ⟨l, us, e, hl, ha⟩ => by
    subst e
    refine ⟨l, us, rfl, .inl ⟨.inl (.inl hl), fun p np => q _ _ (s1.trans (same_put np)) (.tup (.inl (.inl upd_same)) (ha.mono (same_put np)))⟩⟩
end
/-! ### a dict of counts -/
def spAdd (K : PySem.W.Frag) (B dep : Nat) : Sp := fun vs H Q _ => ∃ (x y : V) (is : List It) (ps : List (Str × Int)), vs = [x, y] ∧ Prg K B dep H x is ∧ Its.nl is < 64 ∧ (∃ l us, y = .ref l ∧ SqL K H l us ∧ DaAll K H us (ps.map pairD)) ∧ ps.length ≤ 100000 ∧
  (∀ p ∈ ps, p.1 ∈ linesI is) ∧ ∀ H' u, Same H H' → Da K H' u (totD is (sumN ps)) → Q u H'
theorem scAu : FnScope ["program", "pairs", "names", "name", "sums", "ticks"] ["program", "pairs"] (defScope (topS 40)) := ⟨rfl, rfl, rfl, by decide +kernel, rfl, by decide +kernel, by decide +kernel⟩
section
variable {P : Program} {w : World} {K : PySem.W.Frag} {mg : Str → Option Value} {base : Heap} {f fL : Addr} {fd fdL : FuncData}
theorem ok_added {B dep : Nat} (F : Fun K "added_up" "added_up" (topS 40) f fd) (GL : FnOk P w K mg base CX0 (dep + 2) fL fdL ["program"] (spLines K B dep)) (bL : Binds K fdL ["program"] []) (mL : mg "lines_of" = some (.ref fL)) (vL : PySem.W.keepIn K (.ref fL) = true)
    (mt : mg "tuple" = none) : FnOk P w K mg base CX0 (dep + 3) f fd ["program", "pairs"] (spAdd K B dep) := by
  refine F.ok scAu (fun vs H Q E h => ?_) (fun cdv A outer s H vs Q E hr h => ?_)
  · obtain ⟨x, y, is, ps, rfl, _⟩ := h
    rfl
  · obtain ⟨x, y, is, ps, rfl, hp, h64, ⟨lp, us, rfl, hlp, hda⟩, hpl, hin, q⟩ := h
    have hu : (A.deeper (envOfC "added_up" (defScope (topS 40)) s.heap.objs.size f cdv)).units + 1 < cLine := by
      have := hr.un
      omega
    refine ⟨_, pss_cons (ps_set (i := 2) scAu.nd rfl (.inl rfl) (pe_call GL hr (by rfl) mL vL bL .nil pass0 (pa_cons (pv 0) pa_nil)))
      (pss_cons (ps_set (i := 4) scAu.nd rfl (.inr rfl) (pe_dc (own := [("name", 3)]) (g := gName 3) (tt := tYes) (tk := tVar 3) (tv := tC (.int 0)) rfl scAu.nd (pi_tup (pv 2)) (blkOk_by (N := ["program", "pairs", "names", "name", "sums", "ticks"]) (sc := defScope (topS 40)) (by decide +kernel))
        (fun _ _ _ _ _ => pg_name (i := 3) scAu.nd rfl (Or.inl rfl)) (fun _ _ _ _ _ => pts_nil) (fun _ _ _ _ _ => pv 3) (fun _ _ _ _ _ => pe_int)))
      (pss_cons (ps_for PassesOwn.never rfl (pi_list (pv 1)) (pg_tup rfl (pgs_cons (pg_name (i := 3) scAu.nd rfl (.inl rfl)) (pgs_cons (pg_name (i := 5) scAu.nd rfl (.inl rfl)) pgs_nil)))
        (pss_one (ps_daug hu (pv 4) (pv 3) (pv 5) iop_add (fun _ _ _ => rfl))))
      (pss_one (ps_ret (pe_callTy call_tuple_of (by rfl) mt (by decide +kernel) (pa_cons (pe_lc (own := [("name", 3)]) (g := gName 3) (tt := tYes) (te := tTup (tCons (tVar 3) (tCons (tDGet (tVar 4) (tVar 3)) tNil))) rfl scAu.nd (pi_tup (pv 2))
        (blkOk_by (N := ["program", "pairs", "names", "name", "sums", "ticks"]) (sc := defScope (topS 40)) (by decide +kernel)) (fun _ _ _ _ _ => pg_name (i := 3) scAu.nd rfl (Or.inl rfl)) (fun _ _ _ _ _ => pts_nil)
        (fun _ _ _ _ _ => pe_tup (pa_cons (pv 3) (pa_cons (pe_dget hu (pv 4) (pv 3) (fun _ _ => rfl)) pa_nil)))) pa_nil)))))), ?_⟩
    have sl := sizeLine_eq
    have hll := lines_len (is := is)
    refine ⟨_, rfl, x, is, rfl, hp, h64, fun H1 a s1 ha => ?_⟩
    let names := linesI is
    have hnn : names.length < 64 := Nat.lt_of_le_of_lt hll h64
    -- the dict
    refine ⟨_, rfl, a, rfl, ⟨_, .inl (.inl ha)⟩, fun D nD => dc_tup (K := K) (a := a) (xs := names.map V.str) (fun i H' => Same H1 H' ∧ H' D = some (.dK (cntD (names.take i) fun _ => 0))) ⟨same_put nD, upd_same⟩ (fun i H' _ ⟨s', _⟩ => .inl (.inl (s' _ _ ha))) ?_ ?_⟩
    · rintro i x' H' hi ⟨s', eD⟩
      rw [List.getElem?_map] at hi
      obtain ⟨z, hz, rfl⟩ := Option.map_eq_some_iff.mp hi
      have hil := (List.getElem?_eq_some_iff.mp hz).1
      refine ⟨rfl, _, rfl, _, .inr z, rfl, eD, ?_, fun b o e => ?_, ?_⟩
      · unfold cntD
        rw [List.length_map, List.length_take]
        omega
      · rw [upd_ne (ne_of_none e nD)]
        exact s' _ _ e
      · have nin : z ∉ names.take i := fun c => by
          have nd := lines_nd is
          have e2 : names.take (i + 1) = names.take i ++ [z] := by
            rw [List.take_add_one, hz]
            rfl
          have nd2 : (names.take (i + 1)).Nodup := (List.take_sublist _ _).nodup nd
          rw [e2, List.nodup_append] at nd2
          exact nd2.2.2 z c z (List.mem_singleton.mpr rfl) rfl
        rw [upd_same, cnt_new nin, List.take_add_one, hz]
        unfold cntD
        rw [List.map_append]
        rfl
    rintro H2 ⟨s2, eD⟩
    rw [List.length_map, List.take_length] at eD
    -- the sums
    have hlp2 : SqL K H2 lp us := (s1.trans s2).seq hlp
    have dneL : ∀ b o, H1 b = some o → b ≠ D := fun b o e => ne_of_none e nD
    have hul := daAll_len hda
    rw [List.length_map] at hul
    refine ⟨_, rfl, lp, rfl, ⟨us, hlp2⟩, for_list (K := K) (a := lp) (xs := us) (fun i σ' H' => ∃ y3 y5 : Option V, σ' = [some x, some (.ref lp), some (.ref a), y3, some (.ref D), y5] ∧ Same H1 H' ∧ H' D = some (.dK (cntD names (sumN (ps.take i)))))
      ⟨none, none, rfl, s2, eD⟩ (fun i σ' H' _ ⟨_, _, _, s', _⟩ => (s1.trans s').seq hlp) ?_ ?_⟩
    · rintro i x' σ' H' hi ⟨y3, y5, rfl, s', eD'⟩
      obtain ⟨d, hd, hx'⟩ := daAll_at (hda.mono (s1.trans s')) hi
      rw [List.getElem?_map] at hd
      obtain ⟨pr, hpr, rfl⟩ := Option.map_eq_some_iff.mp hd
      obtain ⟨b, rfl, hb⟩ := da_pair hx'
      have hmem := hin pr (List.mem_of_getElem? hpr)
      refine ⟨b, _, rfl, hb, rfl, _, _, rfl, _, _, rfl, rfl, ?_⟩
      refine ⟨_, rfl, _, rfl, D, _, rfl, .inl ⟨_, .inr pr.1, .inl eD', rfl, (cnt_val hmem).symm⟩, _, rfl, _, _, rfl, rfl, _, .inl ⟨_, .inr pr.1, eD', rfl, ?_, rfl⟩, ?_⟩
      · unfold cntD
        rw [List.length_map]
        show (linesI is).length < _
        omega
      · refine ⟨_, _, rfl, fun b o e => ?_, ?_⟩
        · rw [upd_ne (dneL b o e)]
          exact s' _ _ e
        · rw [upd_same]
          congr 2
          show putK (cntD names (sumN (ps.take i))) (.inr pr.1) (.int (sumN (ps.take i) pr.1 + pr.2)) = _
          rw [cnt_put hmem, List.take_add_one, hpr]
          unfold cntD
          refine List.map_congr_left fun n _ => ?_
          show ((.inr n, .int (if n = pr.1 then sumN (ps.take i) pr.1 + pr.2 else sumN (ps.take i) n)) : Key × V) = ((.inr n, .int (sumN (ps.take i ++ [pr]) n)) : Key × V)
          rw [sumN_snoc]
          by_cases e : n = pr.1
          · rw [if_pos e, if_pos e, e]
          · rw [if_neg e, if_neg e]
    · rintro σ' H3 ⟨y3, y5, rfl, s3, eD3⟩
      rw [hul, List.take_length] at eD3
      have ht : tupDs (names.map fun n => pairD (n, sumN ps n)) = true := by
        have z := tup_pairs (names.map fun n => (n, sumN ps n))
        rw [List.map_map] at z
        exact z
      have key := g_lcDT (K := K) (H0 := H3) (σ := [some x, some (.ref lp), some (.ref a), y3, some (.ref D), y5]) (te := tTup (tCons (tVar 3) (tCons (tDGet (tVar 4) (tVar 3)) tNil))) (a := a) (xs := names.map V.str) (es := names.map fun n => pairD (n, sumN ps n)) (g := gName 3) (vs := [3]) (i := 2) rfl
        (.inl (.inl (s3 _ _ ha))) (by rw [List.length_map]; show (linesI is).length ≤ _; omega) ht (by rw [List.length_map, List.length_map]) fun j x' e hx' he HH R sH hR => by
          rw [List.getElem?_map] at hx' he
          obtain ⟨z, hz, rfl⟩ := Option.map_eq_some_iff.mp hx'
          rw [hz] at he
          cases he
          have hmem := List.mem_of_getElem? hz
          refine ⟨rfl, _, rfl, _, rfl, _, rfl, D, _, rfl, .inl ⟨_, .inr z, .inl (sH _ _ eD3), rfl, (cnt_val hmem).symm⟩, (by show 2 ≤ sizeLine; decide), fun t nt => hR _ _ (same_put nt) (.tup (xs := [.str z, .int (sumN ps z)]) (.inl (.inl upd_same)) (.cons (.str _) (.cons (.int _) .nil)))⟩
      refine s_ret (g_tupOf key) fun H4 u s4 hu4 => ?_
      exact q H4 u ((s1.trans s3).trans s4) hu4
end
end Ev

/-! ## totals -/
namespace Ev
open PySem PySem.Spec PyProof.Rows L2
theorem tot_congr {is : List It} {c d : Str → Int} (h : ∀ n, c n = d n) : totD is c = totD is d := by
  unfold totD
  congr 1
  refine List.map_congr_left fun n _ => ?_
  rw [h n]
def spTot (K : PySem.W.Frag) (B dep : Nat) : Sp := fun vs H Q _ => ∃ (x : V) (is : List It), vs = [x] ∧ Prg K B dep H x is ∧ Its.nn is ∧ Its.nl is < 64 ∧ ∀ H' u, Same H H' → Da K H' u (totD is fun n => ((Its.w is).count n : Nat)) → Q u H'
theorem scTo : FnScope ["program"] ["program"] (defScope (topS 35)) := ⟨rfl, rfl, rfl, by decide +kernel, rfl, by decide +kernel, by decide +kernel⟩
section
variable {P : Program} {w : World} {K : PySem.W.Frag} {mg : Str → Option Value} {base : Heap} {f fS fA : Addr} {fd fdS fdA : FuncData}
theorem ok_tot {B dep : Nat} (hB : Room2 B dep) (F : Fun K "totals" "totals" (topS 35) f fd)
    (GS : FnOk P w K mg base CX0 (dep + 1) fS fdS ["items", "rounds"] (spSpent K B dep)) (bS : Binds K fdS ["items", "rounds"] []) (mS : mg "spent" = some (.ref fS)) (vS : PySem.W.keepIn K (.ref fS) = true)
    (GA : FnOk P w K mg base CX0 (dep + 3) fA fdA ["program", "pairs"] (spAdd K B dep)) (bA : Binds K fdA ["program", "pairs"] []) (mA : mg "added_up" = some (.ref fA)) (vA : PySem.W.keepIn K (.ref fA) = true) :
    FnOk P w K mg base CX0 (dep + 4) f fd ["program"] (spTot K B dep) := by
  refine F.ok scTo (fun vs H Q E h => ?_) (fun cdv A outer s H vs Q E hr h => ?_)
  · obtain ⟨x, is, rfl, _⟩ := h
    rfl
  · obtain ⟨x, is, rfl, hp, hnn, h64, q⟩ := h
    have hrS : Room (dep + 1) _ := hr.mono (show dep + 1 ≤ dep + 3 by omega)
    refine ⟨_, pss_one (ps_ret (pe_call GA hr (by rfl) mA vA bA .nil pass0 (pa_cons (pv 0) (pa_cons (pe_call GS hrS (by rfl) mS vS bS .nil pass0 (pa_cons (pv 0) (pa_cons pe_int pa_nil))) pa_nil)))), ?_⟩
    refine ⟨_, rfl, _, rfl, x, is, 1, 64, rfl, hp.da, hp.ok, by decide, by decide, hB.1, hB.2, hp.few, fun H1 u1 s1 g1 => ?_⟩
    obtain ⟨l, us, rfl, hl, ha⟩ := g1
    refine ⟨x, .ref l, is, Its.sp 1 is, rfl, hp.same s1, h64, ⟨l, us, rfl, .inl (.inl hl), ha⟩, by rw [Its.sp_len]; omega, fun p hp' => lines_mem.mpr (List.mem_map.mpr ⟨p, hp', rfl⟩), fun H2 u2 s2 h2 => q H2 u2 (s1.trans s2) ?_⟩
    rw [tot_congr (d := sumN (Its.sp 1 is)) fun n => by rw [Its.sp_count n 1 is hnn, Int.one_mul]]
    exact h2
end
end Ev

/-! ## Bench, as long as all goes well -/
namespace Ev
open PySem PySem.Spec PyProof.Rows L2
def spBL (K : PySem.W.Frag) (C : Addr) : Sp := fun vs H Q _ => ∃ (p e : Addr) (is : List It) (hs : List (List It)), vs = [.ref p] ∧ BnAt K C H p e is hs ∧ ∀ H', Same H H' → Q (.int ((Its.w is).length : Nat)) H'
def spBT (K : PySem.W.Frag) (C : Addr) : Sp := fun vs H Q _ => ∃ (p e : Addr) (is : List It) (hs : List (List It)), vs = [.ref p] ∧ BnAt K C H p e is hs ∧ ∀ H' u, Same H H' → Da K H' u (totD is fun n => ((Its.w is).count n : Nat)) → Q u H'
theorem scBL : FnScope ["self"] ["self"] (defScope (sB 3)) := ⟨rfl, rfl, rfl, by decide +kernel, rfl, by decide +kernel, by decide +kernel⟩
theorem scBT : FnScope ["self"] ["self"] (defScope (sB 4)) := ⟨rfl, rfl, rfl, by decide +kernel, rfl, by decide +kernel, by decide +kernel⟩
section
variable {P : Program} {w : World} {K : PySem.W.Frag} {mg : Str → Option Value} {base : Heap} {C : Addr}
theorem Vp.prg {H : Hp} {x : V} {is : List It} (h : Vp is) (hd : Da K H x (pgD is)) : Prg K 64 5 H x is := ⟨hd, fun i hi => vi_okp 5 i (h.vi i hi), by
  have a := Its.nl_ni is
  have b := h.ni
  omega⟩
theorem Vp.ps {is : List It} (h : Vp is) : Its.ps is := ps_of fun i hi => vi_ps 5 i (h.vi i hi)
theorem Vp.nl {is : List It} (h : Vp is) : Its.nl is < 64 := by
  have a := Its.nl_ni is
  have b := h.ni
  omega
theorem ok_bL {fL : Addr} {fdL : FuncData} (T : BTx K mg C) (GL : FnOk P w K mg base CX0 7 fL fdL ["program"] (spLen K 64 5)) (bL : Binds K fdL ["program"] []) (mL : mg "length_programs" = some (.ref fL)) (vL : PySem.W.keepIn K (.ref fL) = true) (D : MDef K C "length" "Bench.length" (sB 3) ["self"]) :
    MCal P w K mg base 8 C "length" ["self"] (spBL K C) := by
  refine D.ok scBL (fun vs H Q E h => ?_) (fun f cdv A outer s H vs Q E hr h => ?_)
  · obtain ⟨p, e, is, hs, rfl, _⟩ := h
    rfl
  · obtain ⟨p, e, is, hs, rfl, hb, q⟩ := h
    obtain ⟨dx, cur, h1, h2⟩ := hb.ob
    refine ⟨_, pss_one (ps_ret (pe_call GL hr (by rfl) mL vL bL .nil pass0 (pa_cons (pe_fld (pv 0) rfl) pa_nil))), ?_⟩
    refine ⟨_, rfl, p, C, dx, _, _, rfl, h1, T.cl, T.nC, flB_cur _ _, cur, is, rfl, hb.vp.prg h2, fun H' s' => ?_⟩
    rw [len_w (Its.ps_nn is hb.vp.ps)]
    exact q H' s'
theorem ok_bT {fL : Addr} {fdL : FuncData} (T : BTx K mg C) (GL : FnOk P w K mg base CX0 9 fL fdL ["program"] (spTot K 64 5)) (bL : Binds K fdL ["program"] []) (mL : mg "totals_programs" = some (.ref fL)) (vL : PySem.W.keepIn K (.ref fL) = true) (D : MDef K C "totals" "Bench.totals" (sB 4) ["self"]) :
    MCal P w K mg base 10 C "totals" ["self"] (spBT K C) := by
  refine D.ok scBT (fun vs H Q E h => ?_) (fun f cdv A outer s H vs Q E hr h => ?_)
  · obtain ⟨p, e, is, hs, rfl, _⟩ := h
    rfl
  · obtain ⟨p, e, is, hs, rfl, hb, q⟩ := h
    obtain ⟨dx, cur, h1, h2⟩ := hb.ob
    refine ⟨_, pss_one (ps_ret (pe_call GL hr (by rfl) mL vL bL .nil pass0 (pa_cons (pe_fld (pv 0) rfl) pa_nil))), ?_⟩
    exact ⟨_, rfl, p, C, dx, _, _, rfl, h1, T.cl, T.nC, flB_cur _ _, cur, is, rfl, hb.vp.prg h2, Its.ps_nn is hb.vp.ps, hb.vp.nl, fun H' u s' hu => q H' u s' hu⟩
end
end Ev

/-! ## Programs as texts: what reading does -/
namespace Ev
open PySem PySem.Spec PyProof.Rows L2
def letB (c : Nat) : Bool := decide (97 ≤ c) && decide (c ≤ 122)
def digB (c : Nat) : Bool := decide (48 ≤ c) && decide (c ≤ 57)
theorem letB_iff {c : Nat} : letB c = true ↔ 97 ≤ c ∧ c ≤ 122 := by
  unfold letB
  rw [Bool.and_eq_true, decide_eq_true_eq, decide_eq_true_eq]
theorem digB_iff {c : Nat} : digB c = true ↔ 48 ≤ c ∧ c ≤ 57 := by
  unfold digB
  rw [Bool.and_eq_true, decide_eq_true_eq, decide_eq_true_eq]
/-- digits that go on with a number while it is at most `most`: the number, how many digits -/
def numW (most : Nat) : Nat → List Nat → Nat × Nat
  | n, [] => (n, 0)
  | n, c :: cs => if digB c = true ∧ n * 10 + (c - 48) ≤ most then ((numW most (n * 10 + (c - 48)) cs).1, (numW most (n * 10 + (c - 48)) cs).2 + 1) else (n, 0)
abbrev Rdx (α : Type) := Except Nat α
def rdNum (l : List Nat) (most a : Nat) : Rdx (Nat × Nat) :=
  match l[a]? with
  | some c => if digB c = true ∧ c ≠ 48 then .ok ((numW most 0 (l.drop a)).1, a + (numW most 0 (l.drop a)).2) else .error a
  | none => .error a
def nameEnd (l : List Nat) (a : Nat) : Nat := a + 1 + (((l.drop (a + 1)).take 7).takeWhile letB).length
def rdBh (l : List Nat) : List Nat → Nat → Rdx Nat
  | [], a => .ok a
  | c :: cs, a => if l[a]? = some c then rdBh l cs (a + 1) else .error a
abbrev RdI := Nat → Nat → Rdx (It × Nat × Nat)
def rdMore (f : RdI) (l : List Nat) : Nat → Nat → Nat → Rdx (List It × Nat × Nat)
  | 0, a, r => .ok ([], a, r)
  | k + 1, a, r => if l[a]? = some 32 ∧ 0 < r then
      match f (a + 1) r with
      | .error e => .error e
      | .ok (i, a2, r2) => match rdMore f l k a2 r2 with
        | .error e => .error e
        | .ok (is, a3, r3) => .ok (i :: is, a3, r3)
    else .ok ([], a, r)
def rdMany (f : RdI) (l : List Nat) (a r : Nat) : Rdx (List It × Nat × Nat) :=
  match f a r with
  | .error e => .error e
  | .ok (i, a2, r2) => match rdMore f l 19 a2 r2 with
    | .error e => .error e
    | .ok (is, a3, r3) => .ok (i :: is, a3, r3)
def isLet (l : List Nat) (a : Nat) : Bool := match l[a]? with
  | some c => letB c
  | none => false
def cutN (l : List Nat) (a b : Nat) : Str := ⟨((l.drop a).take (b - a)).toArray⟩
def rdLine (l : List Nat) : RdI := fun a r =>
  match rdBh l [58] (nameEnd l a) with
  | .error e => .error e
  | .ok b => match rdNum l 1000000000000 b with
    | .error e => .error e
    | .ok (t, c) => .ok (.line (cutN l a (nameEnd l a)) (t : Nat), c, r - 1)
def rdLoop (f : RdI) (l : List Nat) : RdI := fun a r =>
  if r < 2 then .error a else
  match rdNum l 1000000000000000000 a with
  | .error e => .error e
  | .ok (n, b) => match rdBh l [42, 40] b with
    | .error e => .error e
    | .ok c => match rdMany f l c (r - 1) with
      | .error e => .error e
      | .ok (is, d, r2) => match rdBh l [41] d with
        | .error e => .error e
        | .ok e2 => .ok (.loop (n : Nat) is, e2, r2)
def rdIt (l : List Nat) : Nat → RdI
  | 0 => fun a r => if isLet l a = true then rdLine l a r else .error a
  | d + 1 => fun a r => if isLet l a = true then rdLine l a r else rdLoop (rdIt l d) l a r
/-- a whole text -/
def rdP (l : List Nat) : Rdx (List It) :=
  match rdMany (rdIt l 5) l 0 60 with
  | .error e => .error e
  | .ok (is, a, _) => if a < l.length then .error a else .ok is
/-! ### writing -/
mutual
def It.tx : It → List Nat
  | .line x t => x.cps.toList ++ (58 :: TL.numL t.toNat)
  | .loop r is => TL.numL r.toNat ++ (42 :: 40 :: (Its.tx is ++ [41]))
def Its.tx : List It → List Nat
  | [] => []
  | [i] => It.tx i
  | i :: j :: is => It.tx i ++ (32 :: Its.tx (j :: is))
end

def okN (x : Str) : Prop := 1 ≤ x.cps.size ∧ x.cps.size ≤ 8 ∧ ∀ c ∈ x.cps.toList, letB c = true
/-- items that may stand in a text -/
def Vt : Nat → It → Prop
  | _, .line x t => okN x ∧ 1 ≤ t ∧ t ≤ 1000000000000
  | 0, .loop _ _ => False
  | n + 1, .loop r is => 1 ≤ r ∧ r ≤ 1000000000000000000 ∧ 1 ≤ is.length ∧ is.length ≤ 20 ∧ ∀ i ∈ is, Vt n i
theorem vt_line {n : Nat} {x : Str} {t : Int} : Vt n (.line x t) ↔ okN x ∧ 1 ≤ t ∧ t ≤ 1000000000000 := by
  cases n <;> exact Iff.rfl
/-- what may follow a number -/
def Stop (rest : List Nat) : Prop := ∀ c, rest.head? = some c → digB c = false
theorem foldl_ge : ∀ (ds : List Nat) (n : Nat), n ≤ ds.foldl (fun a c => a * 10 + (c - 48)) n
  | [], _ => Nat.le_refl _
  | c :: ds, n => by
    have z := foldl_ge ds (n * 10 + (c - 48))
    rw [List.foldl_cons]
    omega
theorem numW_go {most : Nat} {rest : List Nat} (hs : Stop rest) : ∀ (ds : List Nat) (n : Nat), (∀ c ∈ ds, digB c = true) → ds.foldl (fun a c => a * 10 + (c - 48)) n ≤ most → numW most n (ds ++ rest) = (ds.foldl (fun a c => a * 10 + (c - 48)) n, ds.length)
  | [], n, _, _ => by
    cases rest with
    | nil => rfl
    | cons c cs =>
      have h := hs c rfl
      show (if digB c = true ∧ n * 10 + (c - 48) ≤ most then _ else (n, 0)) = (n, 0)
      rw [if_neg (fun z => by rw [h] at z; exact Bool.false_ne_true z.1)]
  | c :: ds, n, hd, hm => by
    rw [List.foldl_cons] at hm
    have z := foldl_ge ds (n * 10 + (c - 48))
    have ih := numW_go hs ds (n * 10 + (c - 48)) (fun d h => hd d (List.mem_cons_of_mem _ h)) hm
    rw [List.cons_append, numW, if_pos ⟨hd c (List.mem_cons_self ..), Nat.le_trans z hm⟩, ih]
    rfl
theorem numL_dig {n c : Nat} (h : c ∈ TL.numL n) : digB c = true := by
  have z := TL.numL_digits n c h
  exact digB_iff.mpr (by omega)
theorem numL_head : ∀ n : Nat, 1 ≤ n → ∃ c cs, TL.numL n = c :: cs ∧ c ≠ 48 := by
  intro n
  induction n using Nat.strongRecOn with
  | _ n ih =>
    intro hn
    by_cases h : n < 10
    · rw [TL.numL_lt h]
      exact ⟨_, _, rfl, by omega⟩
    · obtain ⟨c, cs, e, hc⟩ := ih (n / 10) (by omega) (by omega)
      rw [TL.numL_step (by omega), e]
      exact ⟨c, _, rfl, hc⟩
theorem drop_at {l x y : List Nat} {a : Nat} (h : l.drop a = x ++ y) : l.drop (a + x.length) = y := by
  rw [← List.drop_drop, h, List.drop_left]
theorem get_at {l x : List Nat} {a c : Nat} (h : l.drop a = c :: x) : l[a]? = some c := by
  have z : (l.drop a)[0]? = some c := by
    rw [h]
    rfl
  rw [List.getElem?_drop] at z
  exact z
theorem get_end {l : List Nat} {a : Nat} (h : l.drop a = []) : l[a]? = none := by
  have z : (l.drop a)[0]? = none := by
    rw [h]
    rfl
  rw [List.getElem?_drop] at z
  exact z
theorem rdNum_ok {l rest : List Nat} {a most n : Nat} (h : l.drop a = TL.numL n ++ rest) (h1 : 1 ≤ n) (h2 : n ≤ most) (hs : Stop rest) : rdNum l most a = .ok (n, a + (TL.numL n).length) := by
  obtain ⟨c, cs, e, hc⟩ := numL_head n h1
  have hg : l[a]? = some c := get_at (by rw [h, e]; rfl)
  have hv : (TL.numL n).foldl (fun a c => a * 10 + (c - 48)) 0 = n := TL.numL_val n
  have hw := numW_go (most := most) hs (TL.numL n) 0 (fun c h => numL_dig h) (by rw [hv]; exact h2)
  rw [hv] at hw
  unfold rdNum
  rw [hg]
  dsimp only
  rw [if_pos ⟨numL_dig (n := n) (by rw [e]; exact List.mem_cons_self ..), hc⟩, h, hw]
theorem rdBh_ok {l rest : List Nat} : ∀ {x : List Nat} {a : Nat}, l.drop a = x ++ rest → rdBh l x a = .ok (a + x.length)
  | [], _, _ => rfl
  | c :: x, a, h => by
    have hg : l[a]? = some c := get_at h
    have hd : l.drop (a + 1) = x ++ rest := drop_at (x := [c]) h
    rw [rdBh, if_pos hg, rdBh_ok hd, List.length_cons]
    congr 1
    omega
theorem takeWhile_stop {p : Nat → Bool} {c : Nat} (hc : p c = false) : ∀ (x y : List Nat), (∀ d ∈ x, p d = true) → (x ++ c :: y).takeWhile p = x
  | [], y, _ => by
    rw [List.nil_append, List.takeWhile_cons, hc]
    rfl
  | d :: x, y, h => by
    rw [List.cons_append, List.takeWhile_cons, h d (List.mem_cons_self ..)]
    exact congrArg (d :: ·) (takeWhile_stop hc x y fun e he => h e (List.mem_cons_of_mem _ he))
theorem takeWhile_all {p : Nat → Bool} : ∀ (x : List Nat), (∀ d ∈ x, p d = true) → x.takeWhile p = x
  | [], _ => rfl
  | d :: x, h => by
    rw [List.takeWhile_cons, h d (List.mem_cons_self ..)]
    exact congrArg (d :: ·) (takeWhile_all x fun e he => h e (List.mem_cons_of_mem _ he))
theorem nameEnd_ok {l x rest : List Nat} {a c : Nat} (h : l.drop a = x ++ c :: rest) (h1 : 1 ≤ x.length) (h2 : x.length ≤ 8) (hx : ∀ d ∈ x, letB d = true) (hc : letB c = false) : nameEnd l a = a + x.length := by
  cases x with
  | nil => exact absurd h1 (by decide)
  | cons d x =>
    have hd : l.drop (a + 1) = x ++ c :: rest := drop_at (x := [d]) h
    have hx' : ∀ e ∈ x, letB e = true := fun e he => hx e (List.mem_cons_of_mem _ he)
    unfold nameEnd
    rw [hd]
    have hl : x.length ≤ 7 := by
      rw [List.length_cons] at h2
      omega
    have e : ((x ++ c :: rest).take 7).takeWhile letB = x := by
      by_cases h7 : x.length = 7
      · rw [← h7, List.take_left]
        exact takeWhile_all x hx'
      · have : (x ++ c :: rest).take 7 = x ++ c :: rest.take (6 - x.length) := by
          rw [List.take_append, List.take_of_length_le (by omega), show 7 - x.length = (6 - x.length) + 1 by omega, List.take_succ_cons]
        rw [this]
        exact takeWhile_stop hc x _ hx'
    rw [e, List.length_cons]
    omega
theorem isLet_yes {l x : List Nat} {a c : Nat} (h : l.drop a = c :: x) (hc : letB c = true) : isLet l a = true := by
  unfold isLet
  rw [get_at h]
  exact hc
theorem isLet_no {l x : List Nat} {a c : Nat} (h : l.drop a = c :: x) (hc : letB c = false) : isLet l a = false := by
  unfold isLet
  rw [get_at h]
  exact hc
theorem rdLine_ok {l rest : List Nat} {a r : Nat} {x : Str} {t : Int} (hx : okN x) (h1 : 1 ≤ t) (h2 : t ≤ 1000000000000) (h : l.drop a = It.tx (.line x t) ++ rest) (hs : Stop rest) : rdLine l a r = .ok (.line x t, a + (It.tx (.line x t)).length, r - 1) := by
  rw [It.tx, List.append_assoc, List.cons_append] at h
  obtain ⟨n1, n2, n3⟩ := hx
  have hn := nameEnd_ok h (by rw [Array.length_toList]; exact n1) (by rw [Array.length_toList]; exact n2) n3 (by decide)
  have hd := drop_at h
  have hb := rdBh_ok (x := [58]) hd
  have hd2 := drop_at (x := [58]) hd
  have hq := rdNum_ok (most := 1000000000000) hd2 (by omega) (by omega) hs
  have hc : cutN l a (nameEnd l a) = x := by
    unfold cutN
    rw [hn, h, show a + x.cps.toList.length - a = x.cps.toList.length by omega, List.take_left]
  unfold rdLine
  rw [hc, hn, hb]
  dsimp only
  rw [hq]
  dsimp only
  rw [It.tx, List.length_append, List.length_cons, Int.toNat_of_nonneg (by omega)]
  congr 3
  simp only [List.length_cons, List.length_nil]
  omega
theorem It.ni_ge (i : It) : 1 ≤ It.ni i := by
  cases i with
  | line _ _ => rw [It.ni]; exact Nat.le_refl _
  | loop _ _ => rw [It.ni]; omega
/-- what stands behind the first item -/
def moreT : List It → List Nat
  | [] => []
  | i :: is => 32 :: (It.tx i ++ moreT is)
theorem tx_more : ∀ (i : It) (is : List It), Its.tx (i :: is) = It.tx i ++ moreT is
  | i, [] => by rw [Its.tx, moreT, List.append_nil]
  | i, j :: is => by rw [Its.tx, moreT, tx_more j is]
/-- a reader that reads such items -/
def Reads (f : RdI) (l : List Nat) (G : It → Prop) : Prop := ∀ (i : It) (a r : Nat) (rest : List Nat), G i → l.drop a = It.tx i ++ rest → Stop rest → It.ni i ≤ r → f a r = .ok (i, a + (It.tx i).length, r - It.ni i)
theorem stop_more {is : List It} {rest : List Nat} (hs : Stop rest) : Stop (moreT is ++ rest) := by
  cases is with
  | nil => exact hs
  | cons i is =>
    intro c hc
    rw [moreT] at hc
    cases hc
    decide
theorem rdMore_ok {f : RdI} {l : List Nat} {G : It → Prop} (hf : Reads f l G) {rest : List Nat} (hs : Stop rest) (h32 : rest.head? ≠ some 32) : ∀ (k : Nat) (is : List It) (a r : Nat), is.length ≤ k → (∀ i ∈ is, G i) → l.drop a = moreT is ++ rest → Its.ni is ≤ r → rdMore f l k a r = .ok (is, a + (moreT is).length, r - Its.ni is)
  | k, [], a, r, _, _, h, _ => by
    rw [moreT, List.nil_append] at h
    rw [Its.ni, moreT]
    cases k with
    | zero => rfl
    | succ k =>
      rw [rdMore, if_neg]
      · rfl
      · rintro ⟨z, _⟩
        apply h32
        rw [← h, List.head?_drop]
        exact z
  | 0, i :: is, a, r, hl, _, _, _ => absurd hl (by rw [List.length_cons]; omega)
  | k + 1, i :: is, a, r, hl, hg, h, hn => by
    rw [moreT, List.cons_append, List.append_assoc] at h
    have hg32 : l[a]? = some 32 := get_at h
    have hd := drop_at (x := [32]) h
    have hi := It.ni_ge i
    rw [Its.ni] at hn
    have e1 := hf i (a + 1) r _ (hg i (List.mem_cons_self ..)) hd (stop_more hs) (by omega)
    have hd2 := drop_at hd
    have e2 := rdMore_ok hf hs h32 k is _ (r - It.ni i) (by rw [List.length_cons] at hl; omega) (fun j hj => hg j (List.mem_cons_of_mem _ hj)) hd2 (by omega)
    simp only [List.length_cons, List.length_nil] at e2
    rw [rdMore, if_pos ⟨hg32, by omega⟩, e1]
    dsimp only
    rw [Nat.zero_add] at e2
    rw [e2]
    dsimp only
    rw [moreT, Its.ni, List.length_cons, List.length_append]
    congr 3
    · omega
    · omega
theorem rdMany_ok {f : RdI} {l : List Nat} {G : It → Prop} (hf : Reads f l G) {rest : List Nat} (hs : Stop rest) (h32 : rest.head? ≠ some 32) {is : List It} {a r : Nat} (h1 : 1 ≤ is.length) (h2 : is.length ≤ 20) (hg : ∀ i ∈ is, G i) (h : l.drop a = Its.tx is ++ rest) (hn : Its.ni is ≤ r) :
    rdMany f l a r = .ok (is, a + (Its.tx is).length, r - Its.ni is) := by
  cases is with
  | nil => exact absurd h1 (by decide)
  | cons i is =>
    rw [tx_more, List.append_assoc] at h
    rw [Its.ni] at hn
    have e1 := hf i a r _ (hg i (List.mem_cons_self ..)) h (stop_more hs) (by omega)
    have e2 := rdMore_ok hf hs h32 19 is _ (r - It.ni i) (by rw [List.length_cons] at h2; omega) (fun j hj => hg j (List.mem_cons_of_mem _ hj)) (drop_at h) (by omega)
    unfold rdMany
    rw [e1]
    dsimp only
    rw [e2]
    dsimp only
    rw [tx_more, Its.ni, List.length_append]
    congr 3
    · omega
    · omega
theorem let_of_ok {x : Str} (h : okN x) : ∃ c cs, x.cps.toList = c :: cs ∧ letB c = true := by
  obtain ⟨n1, _, n3⟩ := h
  cases e : x.cps.toList with
  | nil =>
    rw [← Array.length_toList, e] at n1
    exact absurd n1 (by decide)
  | cons c cs =>
    rw [e] at n3
    exact ⟨c, cs, rfl, n3 c (List.mem_cons_self ..)⟩
theorem dig_let {c : Nat} (h : digB c = true) : letB c = false := by
  have z := digB_iff.mp h
  cases e : letB c with
  | false => rfl
  | true =>
    have := letB_iff.mp e
    omega
theorem rdIt_ok {l : List Nat} : ∀ d : Nat, Reads (rdIt l d) l (Vt d)
  | d, .line x t, a, r, rest, hv, h, hs, hn => by
    obtain ⟨hx, h1, h2⟩ := vt_line.mp hv
    obtain ⟨c, cs, e, hc⟩ := let_of_ok hx
    have hL : isLet l a = true := isLet_yes (c := c) (by rw [h, It.tx, e]; rfl) hc
    rw [It.ni]
    cases d with
    | zero => rw [rdIt]; dsimp only; rw [if_pos hL]; exact rdLine_ok hx h1 h2 h hs
    | succ d => rw [rdIt]; dsimp only; rw [if_pos hL]; exact rdLine_ok hx h1 h2 h hs
  | 0, .loop k is, a, r, rest, hv, _, _, _ => hv.elim
  | d + 1, .loop k is, a, r, rest, hv, h, hs, hn => by
    obtain ⟨k1, k2, l1, l2, hg⟩ : 1 ≤ k ∧ k ≤ 1000000000000000000 ∧ 1 ≤ is.length ∧ is.length ≤ 20 ∧ ∀ i ∈ is, Vt d i := hv
    have hni : 1 ≤ Its.ni is := by
      cases is with
      | nil => exact absurd l1 (by decide)
      | cons i is =>
        have := It.ni_ge i
        rw [Its.ni]
        omega
    rw [It.ni] at hn
    rw [It.tx, List.append_assoc] at h
    obtain ⟨c, cs, e, _⟩ := numL_head k.toNat (by omega)
    have hcd : digB c = true := numL_dig (n := k.toNat) (by rw [e]; exact List.mem_cons_self ..)
    have hL : isLet l a = false := isLet_no (c := c) (by rw [h, e]; rfl) (dig_let hcd)
    have e1 := rdNum_ok (most := 1000000000000000000) h (by omega) (by omega) (fun c hc => by cases hc; decide)
    have h2 := drop_at h
    have e2 := rdBh_ok (x := [42, 40]) (rest := Its.tx is ++ (41 :: rest)) (by rw [h2]; simp)
    have h3 := drop_at (x := [42, 40]) (y := Its.tx is ++ (41 :: rest)) (l := l) (a := a + (TL.numL k.toNat).length) (by rw [h2]; simp)
    have e3 := rdMany_ok (rdIt_ok d) (rest := 41 :: rest) (fun c hc => by cases hc; decide) (by simp) l1 l2 hg h3 (r := r - 1) (by omega)
    have h4 := drop_at h3
    have e4 := rdBh_ok (x := [41]) h4
    rw [rdIt]
    dsimp only
    rw [hL, if_neg Bool.false_ne_true]
    unfold rdLoop
    rw [if_neg (by omega), e1]
    dsimp only
    rw [e2]
    dsimp only
    rw [e3]
    dsimp only
    rw [e4]
    dsimp only
    rw [It.tx, It.ni, Int.toNat_of_nonneg (by omega)]
    simp only [List.length_append, List.length_cons, List.length_nil]
    congr 3
    · omega
    · omega
/-- what is written is read again -/
theorem rdP_ok {is : List It} (h1 : 1 ≤ is.length) (h2 : is.length ≤ 20) (h3 : Its.ni is ≤ 60) (hg : ∀ i ∈ is, Vt 5 i) : rdP (Its.tx is) = .ok is := by
  have e := rdMany_ok (rdIt_ok (l := Its.tx is) 5) (rest := []) (a := 0) (fun c hc => by cases hc) (by simp) h1 h2 hg (by rw [List.drop_zero, List.append_nil]) h3
  unfold rdP
  rw [e]
  dsimp only
  rw [if_neg (by omega)]
theorem tx_len_more : ∀ is : List It, (moreT is).length ≤ (is.map fun i => (It.tx i).length + 1).sum
  | [] => by
    rw [moreT]
    exact Nat.zero_le _
  | i :: is => by
    have := tx_len_more is
    rw [moreT, List.map_cons, List.sum_cons, List.length_cons, List.length_append]
    omega
mutual
theorem It.tx_len : ∀ (d : Nat) (i : It), Vt d i → (It.tx i).length + 1 ≤ 41 * It.ni i
  | d, .line x t, h => by
    obtain ⟨⟨_, n2, _⟩, h1, h2⟩ := vt_line.mp h
    have hl := TL.numL_len (n := t.toNat) (k := 13) (by decide) (by omega)
    rw [It.tx, It.ni, List.length_append, List.length_cons, Array.length_toList]
    omega
  | 0, .loop r is, h => h.elim
  | d + 1, .loop r is, h => by
    obtain ⟨h1, h2, _, _, hg⟩ : 1 ≤ r ∧ r ≤ 1000000000000000000 ∧ 1 ≤ is.length ∧ is.length ≤ 20 ∧ ∀ i ∈ is, Vt d i := h
    have hl := TL.numL_len (n := r.toNat) (k := 19) (by decide) (by omega)
    have z := Its.tx_len d is hg
    rw [It.tx, It.ni]
    simp only [List.length_append, List.length_cons, List.length_nil]
    omega
theorem Its.tx_len : ∀ (d : Nat) (is : List It), (∀ i ∈ is, Vt d i) → (Its.tx is).length ≤ 41 * Its.ni is
  | d, [], _ => by
    rw [Its.tx]
    exact Nat.zero_le _
  | d, i :: is, h => by
    have h1 := It.tx_len d i (h i (List.mem_cons_self ..))
    have h2 := Its.tx_len d is fun j hj => h j (List.mem_cons_of_mem _ hj)
    have h3 := It.ni_ge i
    cases is with
    | nil =>
      rw [Its.tx, Its.ni]
      omega
    | cons j is =>
      rw [Its.tx, Its.ni, List.length_append, List.length_cons]
      omega
end
def mkS (l : List Nat) : Str := ⟨l.toArray⟩
theorem tl_mkS (l : List Nat) : TL.tl (mkS l) = l := rfl
theorem mkS_eq {z : Str} {l : List Nat} (h : TL.tl z = l) : z = mkS l := TL.ext_tl h
theorem join_tx : ∀ is : List It, TL.joinL [32] (is.map It.tx) = Its.tx is
  | [] => by
    rw [Its.tx]
    rfl
  | [i] => by
    rw [Its.tx]
    rfl
  | i :: j :: is => by
    rw [Its.tx, ← join_tx (j :: is)]
    rfl
theorem txt_join (is : List It) : Txt.join (Str.ofString " ") (is.map fun i => mkS (It.tx i)) = mkS (Its.tx is) := by
  refine TL.ext_tl ?_
  rw [TL.join_eq, TL.tl_join, List.map_map, show TL.tl (Str.ofString " ") = [32] from by decide +kernel]
  exact join_tx is
theorem sum_tx {d : Nat} : ∀ is : List It, (∀ i ∈ is, Vt d i) → ((is.map fun i => mkS (It.tx i)).map (·.length)).sum + is.length ≤ 41 * Its.ni is
  | [], _ => Nat.zero_le _
  | i :: is, h => by
    have h1 := It.tx_len d i (h i (List.mem_cons_self ..))
    have h2 := sum_tx is fun j hj => h j (List.mem_cons_of_mem _ hj)
    rw [List.map_cons, List.map_cons, List.sum_cons, List.length_cons, Its.ni, TL.len_tl, tl_mkS]
    omega
theorem ni_mem0 : ∀ {is : List It} {i : It}, i ∈ is → It.ni i ≤ Its.ni is
  | j :: is, i, h => by
    rw [Its.ni]
    rcases List.mem_cons.mp h with rfl | h
    · exact Nat.le_add_right _ _
    · exact Nat.le_trans (ni_mem0 h) (Nat.le_add_left _ _)
theorem ni_len0 : ∀ is : List It, is.length ≤ Its.ni is
  | [] => Nat.zero_le _
  | i :: is => by
    have h1 := It.ni_ge i
    have h2 := ni_len0 is
    rw [Its.ni, List.length_cons]
    omega
theorem tw_go {p : Nat → Bool} : ∀ (y : List Nat) (k : Nat), k < (y.takeWhile p).length → ∃ c, y[k]? = some c ∧ p c = true
  | [], _, h => absurd h (Nat.not_lt_zero _)
  | c :: y, k, h => by
    rw [List.takeWhile_cons] at h
    by_cases e : p c = true
    · rw [if_pos e, List.length_cons] at h
      cases k with
      | zero => exact ⟨c, rfl, e⟩
      | succ k => exact tw_go y k (by omega)
    · rw [if_neg e] at h
      exact absurd h (Nat.not_lt_zero _)
theorem tw_end {p : Nat → Bool} : ∀ (y : List Nat) (c : Nat), y[(y.takeWhile p).length]? = some c → p c = false
  | [], _, h => by cases h
  | d :: y, c, h => by
    rw [List.takeWhile_cons] at h
    by_cases e : p d = true
    · rw [if_pos e, List.length_cons] at h
      exact tw_end y c h
    · rw [if_neg e] at h
      cases h
      exact Bool.eq_false_iff.mpr e
/-- the letters behind the first one -/
def nameL (l : List Nat) (a : Nat) : List Nat := ((l.drop (a + 1)).take 7).takeWhile letB
theorem nameL_le (l : List Nat) (a : Nat) : (nameL l a).length ≤ 7 := by
  have h := (List.takeWhile_sublist (p := letB) (l := (l.drop (a + 1)).take 7)).length_le
  rw [List.length_take] at h
  unfold nameL
  omega
theorem nameL_go {l : List Nat} {a k : Nat} (h : k < (nameL l a).length) : k < 7 ∧ isLet l (a + 1 + k) = true := by
  have h7 := nameL_le l a
  obtain ⟨c, hc, e⟩ := tw_go _ k h
  refine ⟨by omega, ?_⟩
  rw [List.getElem?_take, if_pos (by omega), List.getElem?_drop] at hc
  unfold isLet
  rw [hc]
  exact e
theorem nameL_end {l : List Nat} {a : Nat} (h : (nameL l a).length < 7) : isLet l (a + 1 + (nameL l a).length) = false := by
  unfold isLet
  cases hc : l[a + 1 + (nameL l a).length]? with
  | none => rfl
  | some c =>
    show letB c = false
    refine tw_end ((l.drop (a + 1)).take 7) c ?_
    rw [List.getElem?_take, if_pos (by exact h), List.getElem?_drop]
    exact hc
theorem nameEnd_eq (l : List Nat) (a : Nat) : nameEnd l a = a + 1 + (nameL l a).length := rfl
/-- digits read on, one by one -/
theorem numW_step {l : List Nat} {most n a : Nat} : numW most n (l.drop a) = match l[a]? with
    | some c => if digB c = true ∧ n * 10 + (c - 48) ≤ most then ((numW most (n * 10 + (c - 48)) (l.drop (a + 1))).1, (numW most (n * 10 + (c - 48)) (l.drop (a + 1))).2 + 1) else (n, 0)
    | none => (n, 0) := by
  cases h : l[a]? with
  | none =>
    rw [List.drop_eq_nil_of_le (List.getElem?_eq_none_iff.mp h)]
    rfl
  | some c =>
    obtain ⟨hl, e⟩ := List.getElem?_eq_some_iff.mp h
    rw [List.drop_eq_getElem_cons hl, e]
    rfl
/-- more items behind those that there are -/
def rdApp (js : List It) (r : Rdx (List It × Nat × Nat)) : Rdx (List It × Nat × Nat) := match r with
  | .error e => .error e
  | .ok x => .ok (js ++ x.1, x.2)
theorem rdMany_app (f : RdI) (l : List Nat) (a r : Nat) : rdMany f l a r = match f a r with
    | .error e => .error e
    | .ok x => rdApp [x.1] (rdMore f l 19 x.2.1 x.2.2) := by
  unfold rdMany
  cases f a r with
  | error e => rfl
  | ok x =>
    obtain ⟨i, a2, r2⟩ := x
    dsimp only
    cases rdMore f l 19 a2 r2 with
    | error e => rfl
    | ok y => rfl
theorem rdMore_no {f : RdI} {l : List Nat} {k a r : Nat} {js : List It} (h : k = 0 ∨ ¬ (l[a]? = some 32 ∧ 0 < r)) : rdApp js (rdMore f l k a r) = .ok (js, a, r) := by
  have e : rdMore f l k a r = .ok ([], a, r) := by
    cases k with
    | zero => rfl
    | succ k =>
      rcases h with h | h
      · cases h
      · rw [rdMore, if_neg h]
  rw [e]
  show Except.ok (js ++ [], a, r) = _
  rw [List.append_nil]
theorem rdMore_yes {f : RdI} {l : List Nat} {k a r : Nat} {js : List It} (h : l[a]? = some 32 ∧ 0 < r) : rdApp js (rdMore f l (k + 1) a r) = match f (a + 1) r with
    | .error e => .error e
    | .ok x => rdApp (js ++ [x.1]) (rdMore f l k x.2.1 x.2.2) := by
  rw [rdMore, if_pos h]
  cases f (a + 1) r with
  | error e => rfl
  | ok x =>
    obtain ⟨i, a2, r2⟩ := x
    dsimp only
    cases rdMore f l k a2 r2 with
    | error e => rfl
    | ok y =>
      show Except.ok (js ++ (i :: y.1), y.2) = Except.ok (js ++ [i] ++ y.1, y.2)
      rw [List.append_assoc]
      rfl
theorem rdMore_room {f : RdI} {l : List Nat} (hf : ∀ a r x, f a r = .ok x → x.2.2 ≤ r) : ∀ (k a r : Nat) (x : List It × Nat × Nat), rdMore f l k a r = .ok x → x.2.2 ≤ r
  | 0, a, r, x, h => by
    cases h
    exact Nat.le_refl _
  | k + 1, a, r, x, h => by
    rw [rdMore] at h
    split at h
    · cases hi : f (a + 1) r with
      | error e =>
        rw [hi] at h
        cases h
      | ok y =>
        obtain ⟨i, a2, r2⟩ := y
        rw [hi] at h
        dsimp only at h
        have h1 := hf _ _ _ hi
        cases hm : rdMore f l k a2 r2 with
        | error e =>
          rw [hm] at h
          cases h
        | ok y =>
          rw [hm] at h
          cases h
          have h2 := rdMore_room hf k a2 r2 y hm
          exact Nat.le_trans h2 h1
    · cases h
      exact Nat.le_refl _
theorem rdMany_room {f : RdI} {l : List Nat} (hf : ∀ a r x, f a r = .ok x → x.2.2 ≤ r) {a r : Nat} {x : List It × Nat × Nat} (h : rdMany f l a r = .ok x) : x.2.2 ≤ r := by
  unfold rdMany at h
  cases hi : f a r with
  | error e =>
    rw [hi] at h
    cases h
  | ok y =>
    obtain ⟨i, a2, r2⟩ := y
    rw [hi] at h
    dsimp only at h
    have h1 := hf _ _ _ hi
    cases hm : rdMore f l 19 a2 r2 with
    | error e =>
      rw [hm] at h
      cases h
    | ok y =>
      rw [hm] at h
      cases h
      have h2 := rdMore_room hf 19 a2 r2 y hm
      exact Nat.le_trans h2 h1
theorem rdLine_room {l : List Nat} {a r : Nat} {x : It × Nat × Nat} (h : rdLine l a r = .ok x) : x.2.2 ≤ r := by
  unfold rdLine at h
  cases hb : rdBh l [58] (nameEnd l a) with
  | error e =>
    rw [hb] at h
    cases h
  | ok b =>
    rw [hb] at h
    dsimp only at h
    cases hn : rdNum l 1000000000000 b with
    | error e =>
      rw [hn] at h
      cases h
    | ok y =>
      rw [hn] at h
      cases h
      exact Nat.sub_le _ _
theorem rdLoop_room {f : RdI} {l : List Nat} (hf : ∀ a r x, f a r = .ok x → x.2.2 ≤ r) {a r : Nat} {x : It × Nat × Nat} (h : rdLoop f l a r = .ok x) : x.2.2 ≤ r := by
  unfold rdLoop at h
  split at h
  · cases h
  · cases hn : rdNum l 1000000000000000000 a with
    | error e =>
      rw [hn] at h
      cases h
    | ok y =>
      obtain ⟨n, b⟩ := y
      rw [hn] at h
      dsimp only at h
      cases hb : rdBh l [42, 40] b with
      | error e =>
        rw [hb] at h
        cases h
      | ok c =>
        rw [hb] at h
        dsimp only at h
        cases hm : rdMany f l c (r - 1) with
        | error e =>
          rw [hm] at h
          cases h
        | ok y =>
          obtain ⟨is, d, r2⟩ := y
          rw [hm] at h
          dsimp only at h
          have h1 := rdMany_room hf hm
          cases he : rdBh l [41] d with
          | error e =>
            rw [he] at h
            cases h
          | ok e2 =>
            rw [he] at h
            cases h
            exact Nat.le_trans h1 (Nat.sub_le _ _)
theorem rdIt_room {l : List Nat} : ∀ {d a r : Nat} {x : It × Nat × Nat}, rdIt l d a r = .ok x → x.2.2 ≤ r
  | 0, a, r, x, h => by
    rw [rdIt] at h
    dsimp only at h
    split at h
    · exact rdLine_room h
    · cases h
  | d + 1, a, r, x, h => by
    rw [rdIt] at h
    dsimp only at h
    split at h
    · exact rdLine_room h
    · exact rdLoop_room (fun a r x => rdIt_room (d := d)) h
theorem numL_sm {n c : Nat} (h : c ∈ TL.numL n) : c ≤ 122 := by
  have z := digB_iff.mp (numL_dig h)
  omega
mutual
theorem It.tx_sm : ∀ (d : Nat) (i : It), Vt d i → ∀ c ∈ It.tx i, c ≤ 122
  | d, .line x t, h, c, hc => by
    obtain ⟨⟨_, _, n3⟩, _, _⟩ := vt_line.mp h
    rw [It.tx] at hc
    rcases List.mem_append.mp hc with hc | hc
    · exact (letB_iff.mp (n3 c hc)).2
    · rcases List.mem_cons.mp hc with rfl | hc
      · decide
      · exact numL_sm hc
  | 0, .loop r is, h, _, _ => h.elim
  | d + 1, .loop r is, h, c, hc => by
    obtain ⟨_, _, _, _, hg⟩ : 1 ≤ r ∧ r ≤ 1000000000000000000 ∧ 1 ≤ is.length ∧ is.length ≤ 20 ∧ ∀ i ∈ is, Vt d i := h
    rw [It.tx] at hc
    rcases List.mem_append.mp hc with hc | hc
    · exact numL_sm hc
    · rcases List.mem_cons.mp hc with rfl | hc
      · decide
      · rcases List.mem_cons.mp hc with rfl | hc
        · decide
        · rcases List.mem_append.mp hc with hc | hc
          · exact Its.tx_sm d is hg c hc
          · rw [List.mem_singleton.mp hc]
            decide
theorem Its.tx_sm : ∀ (d : Nat) (is : List It), (∀ i ∈ is, Vt d i) → ∀ c ∈ Its.tx is, c ≤ 122
  | d, [], _, c, hc => by
    rw [Its.tx] at hc
    cases hc
  | d, [i], h, c, hc => by
    rw [Its.tx] at hc
    exact It.tx_sm d i (h i (List.mem_cons_self ..)) c hc
  | d, i :: j :: is, h, c, hc => by
    rw [Its.tx] at hc
    rcases List.mem_append.mp hc with hc | hc
    · exact It.tx_sm d i (h i (List.mem_cons_self ..)) c hc
    · rcases List.mem_cons.mp hc with rfl | hc
      · decide
      · exact Its.tx_sm d (j :: is) (fun k hk => h k (List.mem_cons_of_mem _ hk)) c hc
end
end Ev

/-! ## A caught exception that is kept: it is taken into the ledger before the clause's suite runs -/
namespace Ev
open PySem PySem.Spec PyProof.Rows L2
/-- an exception, as the ledger knows it -/
def XcO (a : Addr) (cls : Value) (d : Option Addr) : HO := .ext fun h => ∃ oe vs, h.get? a = some oe ∧ Zc cls d oe ∧ oe.data = .fields vs
/-- the ledger may learn of a: nothing else speaks of it -/
structure Room1 (X : Cx) (pins : List (Addr × Obj)) (H : Hp) (a : Addr) : Prop where
  led : H a = none
  ent : X.s_0.heap.get? a = none
  loc : X.env.locals ≠ a
  cel : ∀ x c, X.env.cells.lookup x = some c → c ≠ a
  pin : ∀ p ∈ X.pn ++ pins, p.1 ≠ a
theorem Room1.other {X : Cx} {pins : List (Addr × Obj)} {H : Hp} {a b : Addr} {u : HO} (r : Room1 X pins H a) (h : H b = some u) : b ≠ a := ne_of_none h r.led |> fun z => z
theorem Room1.same {X : Cx} {pins : List (Addr × Obj)} {H : Hp} {a b : Addr} {u o : HO} (r : Room1 X pins H a) (h : H b = some u) : upd H a o b = some u := (upd_ne (r.other h)).trans h
theorem upd_none {H : Hp} {a b : Addr} {o : HO} (n : b ≠ a) (h : H b = none) : upd H a o b = none := (upd_ne n).trans h
theorem learn {X : Cx} {pins : List (Addr × Obj)} {σ : L2.St} {H : Hp} {s : Shared} {a : Addr} {o : HO} (r : Room1 X pins H a) (I : Inv X pins σ H s) (here : ObjOk X.prog X.w (upd H a o) s.heap a o) : Inv X pins σ (upd H a o) s where
  ok := I.ok
  os := I.os
  bare := I.bare
  base := {
    keep := I.base.keep
    slot := I.base.slot
    free := fun b ob e n x => upd_none (fun z => nomatch (z ▸ e).symm.trans r.ent) (I.base.free b ob e n x)
    there := I.base.there
    tups := fun b xs e => r.same (I.base.tups b xs e)
    frzs := fun b ob u e => r.same (I.base.frzs b ob u e)
    tbls := fun b ps e => (I.base.tbls b ps e).imp fun _ q => r.same q }
  loc := I.loc
  cell := I.cell
  free := upd_none r.loc I.free
  freeC := fun x c e => upd_none (r.cel x c e) (I.freeC x c e)
  pin := fun p hp => (I.pin p hp).imp id fun q => ⟨upd_none (r.pin p hp) q.1, q.2⟩
  hok := fun b u e => by
    by_cases hb : b = a
    · cases hb
      cases upd_same.symm.trans e
      exact here
    · exact (I.hok b u ((upd_ne hb).symm.trans e)).stay (fun _ _ _ q => q) (fun _ q => r.same q) fun _ _ q => r.same q
  len := I.len
/-- an exception has come down to the ground of X -/
structure Down (X : Cx) (pins : List (Addr × Obj)) (σ : L2.St) (H : Hp) (a : Addr) (cls : Value) (d : Option Addr) (B h : Heap) (s : Shared) : Prop where
  fly : HandSPX.FlyingZ B (X.env :: X.outer) a (Zc cls d) h
  room : Room1 X pins H a
  inv : ∀ h', HandSPX.FlyingZ B (X.env :: X.outer) a (Zc cls d) h' → h.UpToSlots h' → Inv X pins σ H { s with heap := h' }
  up : ∀ h', h.UpToSlots h' → HandSPX.HeldZ B (X.env :: X.outer) a (Zc cls d) X.env.locals h' → ∀ W : WX, W cls d σ H → XE X W (.ref a) { s with heap := h' }
theorem come_down {X : Cx} {pins : List (Addr × Obj)} {xe : Value → Shared → Prop} {W : WX} {u : Value} {s : Shared} {Q : Flow → Shared → Prop} {E : Value → Shared → Prop} {hds : List ExceptHandler} (ok : X.Ok) (hs : X.stack = X.env :: X.outer) (hf : X.env.frame = some X.env.locals) (hex : X.ex = [])
    (x : XE (X.tr (X.pn ++ pins) xe) W u s)
    (k : ∀ a σ H cls d B h, u = .ref a → W cls d σ H → Down X pins σ H a cls d B h s → wpAny (model X.prog X.w) X.A (handleBy (.ref a) X.env hds) Q E { s with heap := h }) :
    wpAny (model X.prog X.w) X.A (noteFrame u X.env) (fun _ s2 => wpAny (model X.prog X.w) X.A (setFlight u none) (fun _ s3 => wpAny (model X.prog X.w) X.A (handleBy u X.env hds) Q E s3) E s2) E s := by
  obtain ⟨a, B, sI, ps, σ, H, cls, d, rfl, It, ground, up, sky, na, os, ag, w⟩ := x
  have I : Inv X pins σ H sI := It.ofTry ok
  have sky : Sky B (X.env :: X.outer) a (Zc cls d) X.env.locals s.heap := hs ▸ sky
  have frames : X.A.frames = some (X.env :: X.outer) := ok.frames.trans (congrArg some hs)
  refine Sky.land Zc.steady frames hf sky fun h fl up1 => k a σ H cls d B h rfl w ?_
  have noFrame : a ∉ frs (X.env :: X.outer) := fun m => by
    obtain ⟨oe, vs, ge, _, de⟩ := fl.there
    obtain ⟨_, o, go, no⟩ := fl.2.2.1.mem m
    exact no vs (Option.some.inj (go.symm.trans ge) ▸ de)
  have gone : sI.heap.get? a = none := Option.eq_none_iff_forall_not_mem.mpr fun o e => nomatch (ground a o e (hs ▸ noFrame)).symm.trans fl.2.1
  have not : ∀ {b : Addr} {o : Obj}, sI.heap.get? b = some o → b ≠ a := fun e z => nomatch (z ▸ e).symm.trans gone
  refine ⟨fl, ⟨na, ?_, ?_, fun x c e => ?_, fun p hp => not (I.pin p hp).1⟩, fun h' fl' up' => I.landed ground fl'.1 ((up.trans up1).trans up') os ag, fun h' up' held W' w' => ?_⟩
  · refine Option.eq_none_iff_forall_not_mem.mpr fun o e => ?_
    obtain ⟨o', e'⟩ := I.base.there a o e (hex ▸ List.not_mem_nil)
    exact not e' rfl
  · intro z
    exact noFrame (List.mem_filterMap.mpr ⟨X.env, List.mem_cons_self .., hf.trans (congrArg some z)⟩)
  · obtain ⟨v, o, e', _⟩ := I.cell x c e
    exact not e'
  · exact ⟨a, B, sI, pins, σ, H, cls, d, rfl, I, ground, (up.trans up1).trans up', .inr (.inr (hs ▸ held)), na, os, ag, w'⟩
end Ev
namespace Ev
open PySem PySem.Spec PyProof.Rows L2
section
variable {X : Cx} {pins : List (Addr × Obj)} {σ : L2.St} {H : Hp} {s : Shared} {a : Addr}
/-- into a clause's suite and out of it, with the same pins -/
theorem go_in (I : Inv X pins σ H s) : Inv (X.suite a (X.pn ++ pins)) [] σ H s where
  ok := I.ok.suite _ _
  os := I.os
  bare := I.bare
  base := I.base
  loc := I.loc
  cell := I.cell
  free := I.free
  freeC := I.freeC
  pin := by
    intro p hp
    exact I.pin p (List.append_nil (X.pn ++ pins) ▸ hp)
  hok := I.hok
  len := I.len
theorem go_out {q : List (Addr × Obj)} (ok : X.Ok) (I : Inv (X.suite a (X.pn ++ pins)) q σ H s) : Inv X pins σ H s where
  ok := ok
  os := I.os
  bare := I.bare
  base := I.base
  loc := I.loc
  cell := I.cell
  free := I.free
  freeC := I.freeC
  pin := fun p hp => I.pin p (List.mem_append_left q hp)
  hok := I.hok
  len := I.len
end
/-- the clause's own ends: its name goes -/
def lessE (D : Ends) (i : Nat) : Ends := ⟨fun σ H => D.nx (σ.set i none) H, D.rt, fun σ H => D.bk (σ.set i none) H, fun σ H => D.ct (σ.set i none) H⟩
/-- what 'except x as n' wishes of an exception that it catches and that is kept -/
def wKept (K : PySem.W.Frag) (c : Value) (i : Nat) (ts : TS) (D : Ends) : WX := fun cls d σ H =>
  PySem.W.exmOne K cls c = some true ∧ ∀ a, H a = none → ts (lessE D i) (σ.set i (some (.ref a))) (upd H a (XcO a cls d))
section
variable {X : Cx} {x n : Str} {c : Value} {i : Nat} {body suite : List Stmt} {b₀ : Stmt} {np pos pos' : Pos} {tb : WX → TS} {ts : TS}
/-- the clause is looked at -/
theorem look_clause {pins : List (Addr × Obj)} {σ : L2.St} {H : Hp} {a : Addr} {cls : Value} {d : Option Addr} {B h : Heap} {s : Shared} {D : Ends} (ok : X.Ok) (hf : X.env.frame = some X.env.locals) (hN : X.N.Nodup) (hi : X.N[i]? = some n) (hln : X.env.kindOf n = some .local) (hc : Names X x c)
    (hsu : ∀ (a : Addr) (pn : List (Addr × Obj)), PSs (X.suite a pn) (b₀ :: suite) ts) (dn : Down X pins σ H a cls d B h s) (w : wKept X.K c i ts D cls d σ H) :
    wpAny (model X.prog X.w) X.A (handleBy (.ref a) X.env [.ExceptHandler (some (.Name x np)) (some n) (b₀ :: suite) pos']) (SP X pins D) X.xe { s with heap := h } := by
  have here : Inv X pins σ H { s with heap := h } := dn.inv h dn.fly (Heap.UpToSlots.refl h)
  obtain ⟨oe, vs, ge, ze, de⟩ := dn.fly.there
  have cls_is : PySem.W.Looks (model X.prog X.w) h (typeOf (.ref a)) cls := fun A Q E t k q => wpAny_typeOf_ref (k a oe ge) (ze.1.symm ▸ q)
  have name : ∀ {Q : Value → Shared → Prop} {E : Value → Shared → Prop}, Q c { s with heap := h } → wpAny (model X.prog X.w) (X.A.mark (some (.ref a))) (eval (.Name x np) X.env) Q E { s with heap := h } := fun q =>
    match hc with
    | ⟨g, nd, .inl m⟩ => ld_glob (X := X.suite a (X.pn ++ pins)) (go_in here) g m q nd
    | ⟨g, nd, .inr ⟨m, v, nn⟩⟩ => ld_blt (X := X.suite a (X.pn ++ pins)) (go_in here) g m v q nn nd
  refine wpAny_handleBy_cons (codeAny_handlers_test (name ?_)) nofun
  obtain ⟨hit, w⟩ := w
  · refine (PySem.W.exm_one (M := model X.prog X.w) here.kIn cls_is hit).here (codeAny_handlers_suite_as (HandSPX.lands_againZ dn.fly fun h' fl' up' => ?_))
    obtain ⟨oe', vs', ge', ze', de'⟩ := fl'.there
    have known : Inv X pins σ (upd H a (XcO a cls d)) { s with heap := h' } :=
      learn dn.room (dn.inv h' fl' up') ⟨⟨oe', vs', ge', ze', de'⟩, ⟨oe', ge'⟩, fun _ _ ⟨o, v, g, z, e⟩ k => ⟨o, v, k o g, z, e⟩⟩
    refine store_ok (X := X.suite a (X.pn ++ pins)) (v := .ref a) (go_in known) hN hi (.inl hln) rfl (fun s5 J5 => ?_) (.inr hln)
    have run := (hsu a (X.pn ++ pins)).run [] s5 _ _ (lessE D i) J5 (w a dn.room.led)
    refine wpAny_mono run (fun f s6 e6 => ?_) fun _ _ z => z.elim
    have out : ∀ {σ6 : L2.St} {H6 : Hp} {Q : Shared → Prop}, Inv (X.suite a (X.pn ++ pins)) [] σ6 H6 s6 → (∀ s7, Inv X pins (σ6.set i none) H6 s7 → Q s7) → wpAny (model X.prog X.w) X.A (do bindName X.env n .none; unbindBehindTheSuite X.env n pos') (fun _ => Q) X.xe s6 := fun J q => gone_ok (go_out ok J) hN hi hln q
    match f, e6 with
    | .next, ⟨_, _, J, q⟩ => exact out J fun _ J' => ⟨_, _, J', q⟩
    | .brk, ⟨_, _, J, q⟩ => exact out J fun _ J' => ⟨_, _, J', q⟩
    | .cont, ⟨_, _, J, q⟩ => exact out J fun _ J' => ⟨_, _, J', q⟩
    | .ret u, ⟨_, _, _, J, r, q⟩ => exact out J fun _ J' => ⟨_, _, _, J', r, q⟩
/-- try: body / except x as n: suite, the exception kept -/
theorem ps_try_kept (hs : X.stack = X.env :: X.outer) (hf : X.env.frame = some X.env.locals) (hex : X.ex = []) (hN : X.N.Nodup) (hi : X.N[i]? = some n) (hln : X.env.kindOf n = some .local) (hc : Names X x c)
    (hb : ∀ (W : WX) (pn : List (Addr × Obj)) (xe : Value → Shared → Prop), Takes (X.tr pn xe) W → PSs (X.tr pn xe) body (tb W)) (hsu : ∀ (a : Addr) (pn : List (Addr × Obj)), PSs (X.suite a pn) (b₀ :: suite) ts) :
    PS X (.Try body [.ExceptHandler (some (.Name x np)) (some n) (b₀ :: suite) pos'] [] [] pos) (fun D => tb (wKept X.K c i ts D) D) where
  run pins s σ H D I h := by
    have caught : Takes (X.tr (X.pn ++ pins) _) (wKept X.K c i ts D) := fun u s' air => come_down I.ok hs hf hex air fun a σ' H' cls d B g e w dn => by
      exact look_clause (pos' := pos') (np := np) I.ok hf hN hi hln hc hsu dn w
    refine wpAny_Try_except (wpAny_mono ((hb _ _ _ caught).run [] s σ H D (I.toTry _) h) (fun f s1 e1 => ?_) fun _ _ z => z)
    match f, e1 with
    | .next, ⟨_, _, J, q⟩ => exact wpAny_execs_nil ⟨_, _, J.ofTry I.ok, q⟩
    | .brk, ⟨_, _, J, q⟩ => exact ⟨_, _, J.ofTry I.ok, q⟩
    | .cont, ⟨_, _, J, q⟩ => exact ⟨_, _, J.ofTry I.ok, q⟩
    | .ret u, ⟨_, _, _, J, r, q⟩ => exact ⟨_, _, _, J.ofTry I.ok, r, q⟩
end
end Ev

/-! ## A kept exception: its class, its field -/
namespace Ev
open PySem PySem.Spec PyProof.Rows L2
/-- what is written of an error class -/
structure ErrC (K : PySem.W.Frag) (C : Addr) : Prop where
  ox : OexC K C
  ga : PySem.W.findIn K (.ref C) "__getattribute__" = some (some (.builtin "BaseException.__getattribute__"))
  gt : PySem.W.findIn K (.ref C) "__getattr__" = some none
  ac : PySem.W.findIn K (.ref C) "__class__" = some (some (.builtin "object.__class__"))
  gs : PySem.W.specialIn K (.builtin "object.__class__") "__get__" = some (some (.builtin "getset_descriptor.__get__"))
  tk : PySem.W.takesIn K (.builtin "object.__class__") = some true
  mo : PySem.W.mroIn K C (.type "object") = some true
  cl : (PySem.W.clsIn K C).isSome = true
  hd : PySem.W.hasDictIn K C = true
/-- a kept exception of class C, with these fields (no dict where there are none) -/
def Kept (H : Hp) (a C : Addr) (fs : Option (List (Str × V))) : Prop := ∃ d : Option Addr, H a = some (XcO a (.ref C) d) ∧ match d, fs with
  | some d, some fs => H d = some (.xd fs)
  | none, none => True
  | _, _ => False
section
variable {X : Cx} {pins : List (Addr × Obj)} {σ : L2.St} {H : Hp} {s : Shared} {a C : Addr} {fs : Option (List (Str × V))}
/-- where it stands -/
theorem Kept.inst (I : Inv X pins σ H s) (k : Kept H a C fs) : ∃ (o : Obj) (od : Option Obj), PySem.W.InstAt s.heap a o C od ∧ ∀ l, fs = some l → ∃ (d : Addr) (mA : Str → Option Value), o.dict = some d ∧ s.heap.Ns1 d mA ∧ ∀ f, RelO (l.lookup f) (mA f) := by
  obtain ⟨d, ea, m⟩ := k
  obtain ⟨⟨o, vs, ho, hz, hd⟩, _⟩ := I.hok a _ ea
  match d, fs, m with
  | none, none, _ => exact ⟨o, none, ⟨ho, hz.1, by unfold PySem.W.notCls; rw [hd], by rw [hz.2]; trivial⟩, nofun⟩
  | some d, some l, m =>
    obtain ⟨mA, ns, rel⟩ := I.hok d _ m
    obtain ⟨od, hod, _⟩ := lookIn_ns ns
    exact ⟨o, some od, ⟨ho, hz.1, by unfold PySem.W.notCls; rw [hd], by rw [hz.2]; exact hod⟩, fun l' e => by cases e; exact ⟨d, mA, hz.2, ns, rel⟩⟩
theorem Kept.kit (I : Inv X pins σ H s) (k : Kept H a C fs) (T : ErrC X.K C) : ∃ P : Heap → Prop, PySem.W.KitX X.K (.ref a) (.ref C) P ∧ P s.heap := by
  obtain ⟨o, od, at_, _⟩ := k.inst I
  exact ⟨_, PySem.W.kitx_exc (ox := o) (od := od) T.cl T.ga T.gt T.ox.exC T.ac T.gs T.tk T.mo, at_⟩
end
/-- isinstance(kept, c), isinstance(kept, (c, ..)) -/
def rIsK (K : PySem.W.Frag) : List V → Hp → VK → Prop := fun xs H Q => ∃ (a C : Addr) (fs : Option (List (Str × V))) (c : V) (u : Value) (b : Bool), xs = [.ref a, c] ∧ Kept H a C fs ∧ ErrC K C ∧ ClsV c u ∧ PySem.W.kitOne K (.ref C) u = some b ∧ Q (.bl b) H
def rIsKT (K : PySem.W.Frag) : List V → Hp → VK → Prop := fun xs H Q => ∃ (a C : Addr) (fs : Option (List (Str × V))) (t : Addr) (cs : List V) (us : List Value) (b : Bool), xs = [.ref a, .ref t] ∧ Kept H a C fs ∧ ErrC K C ∧ H t = some (.tup cs) ∧ Paired ClsV cs us ∧ PySem.W.kitAny K (.ref C) us = some b ∧ Q (.bl b) H
/-- kept.f -/
def tAtK (K : PySem.W.Frag) (f : Str) (te : TE) : TE := fun σ H Q => te σ H fun x H1 => ∃ (a C : Addr) (l : List (Str × V)) (v : V), x = .ref a ∧ Kept H1 a C (some l) ∧ ErrC K C ∧ PySem.W.findIn K (.ref C) f = some none ∧ l.lookup f = some v ∧ Q v H1
section
variable {X : Cx}
theorem call_isK : CallR X (.builtin "isinstance") (rIsK X.K) := by
  rintro pins s σ H _ us Q I rel ⟨a, C, fs, c, u, b, rfl, kept, T, isC, kit, q⟩
  obtain ⟨v1, v2, rfl, r1, r2⟩ := vals2 rel
  cases r1
  cases isC.eq r2
  obtain ⟨P, Z, p⟩ := kept.kit I T
  exact PySem.W.kia_one Z I.kIn p kit nofun fun tk => ⟨.bl b, H, I.tok tk, rfl, q⟩
theorem call_isKT : CallR X (.builtin "isinstance") (rIsKT X.K) := by
  rintro pins s σ H _ us Q I rel ⟨a, C, fs, t, cs, ws, b, rfl, kept, T, tup, isC, kit, q⟩
  obtain ⟨v1, v2, rfl, r1, r2⟩ := vals2 rel
  cases r1
  cases r2
  obtain ⟨P, Z, p⟩ := kept.kit I T
  obtain ⟨_, its, vals, ⟨oc, od, dt, sl⟩, g, e1, n, e2⟩ := I.hok t _ tup
  cases (show oc = Value.type "tuple" from e1)
  cases (show dt = Data.seq its.toArray n from e2)
  cases ClsV.all isC vals
  exact PySem.W.kia_tup Z I.kIn p g kit nofun fun tk => ⟨.bl b, H, I.tok tk, rfl, q⟩
theorem pe_atK {e : Expr} {te : TE} {f : Str} {pos : Pos} (he : PE X e te) (hb : attributeBase e f X.env (eval e X.env) = eval e X.env := by rfl) : PE X (.Attribute e f pos) (tAtK X.K f te) where
  run pins s σ H Q I h := by
    refine attr_of hb (thn (he.run pins s σ H _ I h) ?_)
    rintro u s1 ⟨x, H1, I1, rx, a, C, l, v, rfl, kept, T, no, lk, q⟩
    cases rx
    obtain ⟨d, ea, m⟩ := kept
    obtain ⟨⟨o, vs, ho, hz, hd⟩, _⟩ := I1.hok a _ ea
    match d, m with
    | some d, m =>
      obtain ⟨mA, ns, rel⟩ := I1.hok d _ m
      obtain ⟨od, hod, look⟩ := lookIn_ns ns
      obtain ⟨w, hw, rw'⟩ := RelO.some_of (v := v) (o := mA f) (lk ▸ rel f)
      have at_ : PySem.W.InstAt s1.heap a o C (some od) := ⟨ho, hz.1, by unfold PySem.W.notCls; rw [hd], by rw [hz.2]; exact hod⟩
      exact HandSPX.exc_get I1.kIn at_ T.ga T.gt T.ox.exC (PySem.W.findObj_own T.hd no rfl ((look f).trans (hw ▸ rfl))) (handed_of rw') ⟨v, H1, I1.tok _, rw', q⟩
end
end Ev

/-! ## Defs that may raise -/
namespace Ev
open PySem PySem.Spec PyProof.Rows L2
/-- a def that keeps a promise or raises, ready to be called -/
structure CalX (P : Program) (w : World) (K : PySem.W.Frag) (mg : Str → Option Value) (base : Heap) (k : Nat) (x : Str) (ps : List Str) (sp : Sp) : Prop where
  ex : ∃ (f : Addr) (fd : FuncData), FnG P w K mg base (L2.CX P w) k f fd ps sp ∧ Binds K fd ps [] ∧ mg x = some (.ref f) ∧ PySem.W.keepIn K (.ref f) = true
section
variable {P : Program} {w : World} {K : PySem.W.Frag} {mg : Str → Option Value} {base : Heap} {x : Str} {st : Stmt} {ps N : List Str} {sp : Sp} {k : Nat}
theorem Def.okX (D : Def K mg x st ps) (S : FnScope N ps (defScope st)) (len : ∀ vs H Q E, sp vs H Q E → vs.length = ps.length)
    (walk : ∀ (f : Addr) (cdv : Value) (A : Around) (outer : List Env) (s : Shared) (H : Hp) (vs : List V) (Q : VK) (E : XK), Room k (A.deeper (envOfC x (defScope st) s.heap.objs.size f cdv)) → A.guards = some [] → sp vs H Q E →
      ∃ t, PSs (cxOf (L2.CX P w) P w K mg base N x (defScope st) f cdv A outer s H E) (defBody st) t ∧ t { nx := fun _ H' => Q .non H', rt := Q } (start N vs) H) : CalX P w K mg base (k + 1) x ps sp := by
  obtain ⟨f, fd, F, b, m⟩ := D.ex
  obtain ⟨oc, od, kV, doc, pm, an, cdv, ct, osl, e, lk, hcd⟩ := id F.ex
  cases e
  exact ⟨f, _, fnG_of lk hcd S len fun A outer s H vs Q E hr gd h => walk f cdv A outer s H vs Q E hr gd h, b, m, F.kp⟩
end
section
variable {X : Cx} {k : Nat} {ps : List Str} {sp : Sp} {x : Str} {p pos : Pos} {e : Expr} {es : List Expr} {t : TA} {W : WX}
/-- f(e, ..), where W takes what f raises -/
theorem pcallX (C : CalX X.prog X.w X.K X.mg X.base k x ps sp) (hr : Room k X.A) (gd : X.A.guards = some []) (hg : Gl X x) (tk : Takes X W) (ha : PA X (e :: es) t)
    (hdb : (x == ("__debug__" : Str)) = false := by decide) (he : starEach (e :: es) X.env = (false, eval e X.env) :: starEach es X.env := by rfl) (hpl : (backTo pos (starEach es X.env)).any (·.1) = false := by rfl) :
    PE X (.Call (.Name x p) (e :: es) [] pos) (tCallS sp (WE W) t) where
  run pins s σ H Q I h := by
    obtain ⟨f, fd, F, hb, hm, hk⟩ := C.ex
    have args := ha.run pos pins s σ H _ I h
    refine wpAny_Call_Name_kw (ld_glob I hg hm (PySem.W.callWith_K (h₀ := X.base) I.ok.mod.kin hk (thn args ?_) he hpl) hdb)
    rintro us s1 ⟨vs, H1, I1, rel, q⟩
    have l : us.length = ps.length := (rel.length).symm.trans (F.many _ _ _ _ q)
    have bound := hb s1 us I1.kIn (by rw [List.append_nil]; exact l)
    rw [List.append_nil] at bound
    refine ⟨I1.kIn, wpAny_call (codeAny_mono (F.go X.A X.stack s1 H1 ⟨us, []⟩ us vs Q (WE W σ) hr gd I1.env0 bound rel q) fun res s2 out => ?_)⟩
    match res, out with
    | .error er, out => exact passAt tk σ pins H1 s1 er s2 I1 out
    | .ok (.ret v), out => exact I1.after out
end
end Ev

/-! ## raise C(v), C an error class with one field or none -/
namespace Ev
open PySem PySem.Spec PyProof.Rows L2
section
variable {X : Cx} {o e : Expr} {es : List Expr} {to te : TE} {ta : TA} {f x : Str} {p p' p1 p2 pos : Pos}
/-- S.__init__(self, ..) of an own class S that has none itself -/
theorem pe_seInit {pl : Sem Bool} {S : Addr} (hg : Gl X x) (hm : X.mg x = some (.ref S))
    (sg : PySem.W.specialIn X.K (.ref S) "__getattribute__" = some (some (.builtin "type.__getattribute__")))
    (rd : PySem.W.readsIn X.K S (.type "type") = true)
    (vV : PySem.W.findCls X.K (.ref S) (.type "type") "__init__" = some (.val (.builtin "ValueError.__init__")))
    (ha : PA X (e :: es) ta) (hdb : (x == ("__debug__" : Str)) = false := by decide)
    (hc : eval (.Call (.Attribute (.Name x p1) "__init__" p2) (e :: es) [] pos) X.env = (eval (.Name x p1) X.env >>= fun ov =>
      standAt p2.atName >>= fun _ => holding [ov] (getMethod ov "__init__" pl) >>= fun fx =>
      callWith pos fx.1 fx.2 (backTo pos (starEach (e :: es) X.env)) (backToKw pos (keywordEach [] X.env))) := by rfl)
    (he : starEach (e :: es) X.env = (false, eval e X.env) :: starEach es X.env := by rfl)
    (hpl : (backTo pos (starEach es X.env)).any (·.1) = false := by rfl) :
    PE X (.Call (.Attribute (.Name x p1) "__init__" p2) (e :: es) [] pos) (tVeI X.K ta) := by
  constructor
  intro pins s σ H Q I h
  refine PySem.W.methodCall_KW (ld_glob I hg hm ?_ hdb) hc
  refine PySem.W.method_cls I.kIn sg (PySem.W.cls_value (mc := .type "type") I.kIn rd vV (by decide +kernel) ?_)
  have z := ha.run pos pins _ σ H _ (I.tok (s.toks + 1)) h
  refine PyProof.Rows.callWith_method1 (first := []) (thn z ?_) he hpl
  rintro us s1 ⟨vs, H1, I1, r1, a, C, ws, ev, hl, T, ea, q⟩
  subst ev
  cases r1 with
  | @cons _ u0 _ ur ra rt =>
    obtain rfl : u0 = Value.ref a := ra
    have hlen : ur.length ≤ sizeLine := by
      have z := Paired.length rt
      have y := sizeLine_eq
      omega
    exact oinit_ok T I1 ea hlen fun s' J => ⟨.non, H1, J, rfl, q⟩

end
/-- the errors' common base -/
structure BaseT (K : PySem.W.Frag) (mg : Str → Option Value) (S : Addr) : Prop where
  g : mg "SampleError" = some (.ref S)
  sg : PySem.W.specialIn K (.ref S) "__getattribute__" = some (some (.builtin "type.__getattribute__"))
  rd : PySem.W.readsIn K S (.type "type") = true
  vV : PySem.W.findCls K (.ref S) (.type "type") "__init__" = some (.val (.builtin "ValueError.__init__"))
def spInit1 (C : Addr) (f : Str) : Sp := fun vs H Q _ => ∃ (a : Addr) (v : V), vs = [.ref a, v] ∧ H a = some (exo a C none) ∧ ∀ dx, H dx = none → dx ≠ a → Q .non (upd (upd H dx (exd dx [(f, v)])) a (exo a C (some dx)))
/-- an error class with the field f, ready to be raised -/
structure Err1 (P : Program) (w : World) (K : PySem.W.Frag) (mg : Str → Option Value) (base : Heap) (x : Str) (C : Addr) (f : Str) : Prop where
  g : mg x = some (.ref C)
  cls : ErrC K C
  fld : PySem.W.findIn K (.ref C) f = some none
  ini : ∃ (fI : Addr) (fd : FuncData), PySem.W.findIn K (.ref C) "__init__" = some (some (.ref fI)) ∧ PySem.W.typeIn K (.ref fI) = some (.type "function") ∧ FnOk P w K mg base CX0 1 fI fd ["self", f] (spInit1 C f) ∧ Binds K fd ["self", f] []
theorem field_only {H : Hp} {a d : Addr} {C : Addr} {f : Str} {v : V} (na : H a = none) (da : d ≠ a) : upd (del (upd (upd (upd H a (exo a C none)) d (exd d [(f, v)])) a (exo a C (some d))) a) d (.xd [(f, v)]) = upd H d (.xd [(f, v)]) := by
  funext b
  by_cases hd : b = d
  · subst hd
    rw [upd_same, upd_same]
  · rw [upd_ne hd, upd_ne hd]
    by_cases ha : b = a
    · subst ha
      exact del_same.trans na.symm
    · rw [del_ne ha, upd_ne ha, upd_ne hd, upd_ne ha]
section
variable {X : Cx} {x : Str} {C : Addr} {f : Str} {e : Expr} {te : TE} {W : WX} {p pos pos' : Pos}
/-- raise C(e): the exception's own dict d holds the field -/
theorem ps_raise1 (R : Err1 X.prog X.w X.K X.mg X.base x C f) (hc : X.calm = true) (hr : Room 2 X.A) (hg : Gl X x) (tk : Takes X W) (he : PE X e te) (hdb : (x == ("__debug__" : Str)) = false := by decide)
    (h1 : starEach [e] X.env = (false, eval e X.env) :: starEach [] X.env := by rfl) : PS X (.Raise (some (.Call (.Name x p) [e] [] pos)) none pos') (fun _ σ H => tMkO C (spInit1 C f) [] (tCons te tNil) σ H fun cls d H' => W cls d σ H') := by
  obtain ⟨fI, fd, iC, tI, F, b⟩ := R.ini
  exact ps_raise hc tk (pmk_oex (pos := pos) (p := p) R.cls.ox iC tI F hr b .nil pass0 hg R.g (pa_cons he pa_nil h1) hdb h1 rfl)
theorem raise1_go {H : Hp} {v : V} {Q : XK} (q : ∀ d, H d = none → Q (.ref C) (some d) (upd H d (.xd [(f, v)]))) : [v].length ≤ 1000 ∧ ∀ a, H a = none → spInit1 C f (.ref a :: ([v] ++ [])) (upd H a (exo a C none))
    (fun u H2 => u = .non ∧ ∃ (d : Addr) (fs : List (Str × V)), H2 a = some (exo a C (some d)) ∧ H2 d = some (exd d fs) ∧ H d = none ∧ Q (.ref C) (some d) (upd (del H2 a) d (.xd fs))) (fun _ _ _ => False) := by
  refine ⟨(by show 1 ≤ 1000; decide), fun a na => ⟨a, v, rfl, upd_same, fun d nd da => ⟨rfl, d, [(f, v)], upd_same, ?_, ?_, ?_⟩⟩⟩
  · rw [upd_ne da]
    exact upd_same
  · rw [upd_ne da] at nd
    exact nd
  · rw [field_only na da]
    rw [upd_ne da] at nd
    exact q d nd
end
end Ev

/-! ## Lists of numbers by place -/
namespace Ev
open PySem PySem.Spec PyProof.Rows L2
theorem divp_by {i j : Int} {n : Nat} (hj : 0 < j) (h : i.natAbs < 2 ^ n) (hn : n ≤ 4000) : CDivP i j :=
  divp_ok hj (Nat.le_trans (PyProof.Rows.intBits_le h) (by omega))
def LI (m : Nat) (f : Nat → Int) : List V := (List.range m).map fun c => V.int (f c)
section
variable {m : Nat} {f g : Nat → Int}
theorem LI_len : (LI m f).length = m := by
  unfold LI
  rw [List.length_map, List.length_range]
theorem LI_get {c : Nat} (h : c < m) : (LI m f)[c]? = some (.int (f c)) := by
  unfold LI
  rw [List.getElem?_map, List.getElem?_range h]
  rfl
theorem LI_ints : LI m f = ((List.range m).map f).map V.int := by
  unfold LI
  rw [List.map_map]
  rfl
theorem LI_congr (e : ∀ c, c < m → f c = g c) : LI m f = LI m g := by
  unfold LI
  exact List.map_congr_left fun c hc => by rw [e c (List.mem_range.mp hc)]
theorem LI_succ : LI (m + 1) f = LI m f ++ [.int (f m)] := by
  unfold LI
  rw [List.range_succ, List.map_append]
  rfl
theorem LI_ext {xs : List V} (hl : xs.length = m) (h : ∀ c, c < m → xs[c]? = some (.int (f c))) : xs = LI m f := by
  apply List.ext_getElem?
  intro c
  by_cases hc : c < m
  · rw [h c hc, LI_get hc]
  · rw [List.getElem?_eq_none (by omega), List.getElem?_eq_none (by rw [LI_len]; omega)]
theorem range_sum (f : Nat → Int) : ∀ m : Nat, ((List.range m).map f).sum = sumK f m
  | 0 => rfl
  | m + 1 => by
    rw [List.range_succ, List.map_append, List.sum_append, range_sum f m]
    show _ + (f m + 0) = _ + _
    omega
theorem LI_at {c : Nat} (h : c < m) : atI (LI m f) (c : Nat) = some (.int (f c)) := atI_of (LI_get h)
/-- from the end -/
theorem LI_neg {c : Nat} (h0 : 0 < c) (h : c ≤ m) : atI (LI m f) (-(c : Int)) = some (.int (f (m - c))) := by
  have e : ixN (LI m f).length (-(c : Int)) = some (m - c) := by
    unfold ixN
    rw [LI_len, if_neg (by omega), if_pos (by omega)]
    congr 1
    omega
  unfold atI
  rw [e]
  exact LI_get (by omega)
theorem ixN_nat {n c : Nat} (h : c < n) : ixN n (c : Nat) = some c := by
  unfold ixN
  rw [if_pos (by omega), if_pos (by omega)]
  rfl
theorem cutV_from (xs : List V) (i : Nat) : cutV xs (some (i : Nat)) none = xs.drop i := by
  unfold cutV
  rw [HT.sIx_none, HT.sIx_nat]
  by_cases h : i ≤ xs.length
  · rw [Nat.min_eq_left h, List.take_of_length_le (by rw [List.length_drop]; exact Nat.le_refl _)]
  · rw [Nat.min_eq_right (by omega), List.drop_of_length_le (Nat.le_refl _), List.drop_of_length_le (by omega), List.take_nil]
theorem cutV_to (xs : List V) (i : Nat) : cutV xs none (some (i : Nat)) = xs.take i := by
  unfold cutV
  rw [HT.sIx_none, HT.sIx_nat, List.drop_zero, Nat.sub_zero]
  by_cases h : i ≤ xs.length
  · rw [Nat.min_eq_left h]
  · rw [Nat.min_eq_right (by omega), List.take_of_length_le (by omega), List.take_of_length_le (by omega)]
theorem LI_drop {r : Nat} (h : r ≤ m) : (LI m f).drop r = LI (m - r) fun k => f (r + k) := by
  refine LI_ext (by rw [List.length_drop, LI_len]) fun c hc => ?_
  rw [List.getElem?_drop, LI_get (by omega)]
/-- starts that are moved on -/
theorem LI_moved (hm : 0 < m) (s : Nat) {cut : Nat} (hc : (cut : Int) = (-(s : Int)) % m) : (LI m f).drop cut ++ (LI m f).take cut = LI m (mvF m s f) := by
  have c1 := Int.emod_lt_of_pos (-(s : Int)) (show (0 : Int) < m by omega)
  have z := div_mod (-(s : Int)) m
  refine LI_ext (by rw [List.length_append, List.length_drop, List.length_take, LI_len]; omega) fun c hcm => ?_
  unfold mvF
  by_cases h : c < m - cut
  · rw [List.getElem?_append_left (by rw [List.length_drop, LI_len]; exact h), List.getElem?_drop, LI_get (by omega), rot_eq hm (r := cut + c) (q := (-(s : Int)) / m) (by omega) (by omega)]
  · rw [List.getElem?_append_right (by rw [List.length_drop, LI_len]; omega), List.length_drop, LI_len, List.getElem?_take_of_lt (by omega), LI_get (by omega), rot_eq hm (r := c - (m - cut)) (q := (-(s : Int)) / m + 1) (by omega) ?_]
    rw [Int.mul_add, Int.mul_one]
    omega
end
theorem LI_set {m c : Nat} {f : Nat → Int} {v : Int} (h : c < m) : (LI m f).set c (.int v) = LI m fun x => if x = c then v else f x := by
  refine LI_ext (by rw [List.length_set, LI_len]) fun x hx => ?_
  by_cases e : x = c
  · subst e
    rw [List.getElem?_set_self (by rw [LI_len]; exact h), if_pos rfl]
  · rw [List.getElem?_set_ne (fun z => e z.symm), LI_get hx, if_neg e]
theorem LI_zero (m : Nat) : (List.replicate m [V.int 0]).flatten = LI m fun _ => 0 := by
  refine LI_ext ?_ fun c hc => ?_
  · induction m with
    | zero => rfl
    | succ m ih => rw [List.replicate_succ, List.flatten_cons, List.length_append, ih]; show 1 + m = m + 1; omega
  · have e : ∀ m : Nat, (List.replicate m [V.int 0]).flatten = List.replicate m (V.int 0) := fun m => by
      induction m with
      | zero => rfl
      | succ m ih => rw [List.replicate_succ, List.flatten_cons, ih]; rfl
    rw [e, List.getElem?_replicate, if_pos hc]
/-- one turned back, by a place that may be below 0 -/
theorem LI_back {m i r : Nat} {f : Nat → Int} (hi : i < m) (hr : r < m) : atI (LI m f) ((i : Int) - (r : Int)) = some (.int (f (rot m i r))) := by
  by_cases h : r ≤ i
  · rw [show (i : Int) - r = ((i - r : Nat) : Int) by omega, LI_at (by omega), rot_eq (by omega) (r := i - r) (q := 0) (by omega) (by omega)]
  · rw [show (i : Int) - r = -((r - i : Nat) : Int) by omega, LI_neg (by omega) (by omega), rot_eq (by omega) (r := m - (r - i)) (q := -1) (by omega) (by omega)]
theorem none_of {H H' : Hp} {p : Addr} (s : Same H H') (n : H' p = none) : H p = none := by
  cases e : H p with
  | none => rfl
  | some o =>
    rw [s _ _ e] at n
    cases n
/-- [elt for i in range(n)], the elements plain values -/
theorem g_lcR1 {H0 : Hp} {σ : L2.St} {te : TE} {ys : List V} {ta : TA} {n : Nat} {g : TG} {vs : List Nat} (hta : ∀ (H : Hp) (Q : List V → Hp → Prop), Same H0 H → Q [.int (n : Nat)] H → ta σ H Q) (hz : n ≤ 1000000) (hl : ys.length = n)
    (he : ∀ (j : Nat) (y : V), ys[j]? = some y → ∀ (H : Hp) (R : VK), Same H0 H → (∀ H', Same H H' → R y H') → g (.int (0 + j)) (wipe σ vs) H fun σ2 H2 => wipe σ2 vs = wipe σ vs ∧ te σ2 H2 R) :
    Gives H0 (tLc (iRng1 ta) g tYes te vs) (gLst (ys.map gEq)) σ := fun H Q s q => by
  refine hta H _ s ⟨(n : Nat), rfl, by omega, by omega, fun D nD => ?_⟩
  have y := sizeLine_eq
  rw [Int.toNat_natCast]
  refine lc_range (lo := 0) (n := n) (fun k H' => Same H H' ∧ H' D = some (.lst (ys.take k))) ⟨same_put nD, upd_same⟩ ?_ ?_
  · rintro k H' hk ⟨s', eD⟩
    have hk' : k < ys.length := by omega
    have hy := List.getElem?_eq_getElem hk'
    refine cast ?_ (he k ys[k] hy H' (fun y H4 => ∃ acc, H4 D = some (.lst acc) ∧ acc.length < sizeLine ∧ Same H (upd H4 D (.lst (acc ++ [y]))) ∧ upd H4 D (.lst (acc ++ [y])) D = some (.lst (ys.take (k + 1)))) (s.trans s') fun H4 s4 => ⟨_, s4 _ _ eD, ?_, ?_, ?_⟩)
    · rfl
    · rw [List.length_take]
      omega
    · intro b o e
      rw [upd_ne (ne_of_none e nD)]
      exact s4 _ _ (s' _ _ e)
    · rw [upd_same, List.take_add_one, hy]
      rfl
  · rintro H' ⟨s', eD⟩
    rw [← hl, List.take_length] at eD
    exact q H' _ s' ⟨D, ys, rfl, eD, allEq⟩
theorem s_asg {te : TE} {i : Nat} {rest : TS} {D : Ends} {σ : L2.St} {H : Hp} (h : te σ H fun u H' => rest D (σ.set i (some u)) H') : tSeq (tAsg te (gName i)) rest D σ H := h
theorem s_call {sp : Sp} {te : TE} {ta : TA} {i : Nat} {rest : TS} {D : Ends} {σ : L2.St} {H : Hp} (h : te σ H fun u H1 => ta σ H1 fun us H2 => sp (u :: us ++ []) H2 (fun v H' => rest D (σ.set i (some v)) H') E0) : tSeq (tAsg (tCall sp [] E0 (tCons te ta)) (gName i)) rest D σ H := h
/-- the same, the list being new -/
theorem lc_rng {σ : L2.St} {H : Hp} {Q : VK} {te : TE} {ys : List V} {ta : TA} {n : Nat} {g : TG} {vs : List Nat} (hta : ∀ (Q : List V → Hp → Prop), Q [.int (n : Nat)] H → ta σ H Q) (hz : n ≤ 1000000) (hl : ys.length = n)
    (he : ∀ (j : Nat) (y : V), ys[j]? = some y → ∀ (H' : Hp) (R : VK), Same H H' → (∀ H'', Same H' H'' → R y H'') → g (.int (0 + j)) (wipe σ vs) H' fun σ2 H2 => wipe σ2 vs = wipe σ vs ∧ te σ2 H2 R)
    (q : ∀ H' D, Same H H' → H D = none → H' D = some (.lst ys) → Q (.ref D) H') : tLc (iRng1 ta) g tYes te vs σ H Q := by
  refine hta _ ⟨(n : Nat), rfl, by omega, by omega, fun D nD => ?_⟩
  have y := sizeLine_eq
  rw [Int.toNat_natCast]
  refine lc_range (lo := 0) (n := n) (fun k H' => Same H H' ∧ H' D = some (.lst (ys.take k))) ⟨same_put nD, upd_same⟩ ?_ ?_
  · rintro k H' hk ⟨s', eD⟩
    have hk' : k < ys.length := by omega
    have hy := List.getElem?_eq_getElem hk'
    refine cast ?_ (he k ys[k] hy H' (fun y H4 => ∃ acc, H4 D = some (.lst acc) ∧ acc.length < sizeLine ∧ Same H (upd H4 D (.lst (acc ++ [y]))) ∧ upd H4 D (.lst (acc ++ [y])) D = some (.lst (ys.take (k + 1)))) s' fun H4 s4 => ⟨_, s4 _ _ eD, ?_, ?_, ?_⟩)
    · rfl
    · rw [List.length_take]
      omega
    · intro b o e
      rw [upd_ne (ne_of_none e nD)]
      exact s4 _ _ (s' _ _ e)
    · rw [upd_same, List.take_add_one, hy]
      rfl
  · rintro H' ⟨s', eD⟩
    rw [← hl, List.take_length] at eD
    exact q H' D s' nD eD
/-- [elt for x in a list], the elements plain values, the list new -/
theorem lc_lst {K : PySem.W.Frag} {σ : L2.St} {H : Hp} {Q : VK} {te ti : TE} {a : Addr} {xs ys : List V} {g : TG} {vs : List Nat} (hi : ∀ Q : VK, Q (.ref a) H → ti σ H Q) (hx : SqL K H a xs) (hz : xs.length ≤ 1000000) (hl : ys.length = xs.length)
    (he : ∀ (j : Nat) (x y : V), xs[j]? = some x → ys[j]? = some y → ∀ (H' : Hp) (R : VK), Same H H' → (∀ H'', Same H' H'' → R y H'') → g x (wipe σ vs) H' fun σ2 H2 => wipe σ2 vs = wipe σ vs ∧ te σ2 H2 R)
    (q : ∀ H' D, Same H H' → H D = none → H' D = some (.lst ys) → Q (.ref D) H') : tLc (iList K ti) g tYes te vs σ H Q := by
  refine hi _ ⟨a, rfl, ⟨xs, hx⟩, fun D nD => ?_⟩
  have y := sizeLine_eq
  refine lc_list (K := K) (a := a) (xs := xs) (fun k H' => Same H H' ∧ H' D = some (.lst (ys.take k))) ⟨same_put nD, upd_same⟩ (fun k H' _ ⟨s', _⟩ => s'.seq hx) ?_ ?_
  · rintro k x H' hk ⟨s', eD⟩
    have hk' : k < ys.length := by
      obtain ⟨h, _⟩ := List.getElem?_eq_some_iff.mp hk
      omega
    have hy := List.getElem?_eq_getElem hk'
    refine cast ?_ (he k x ys[k] hk hy H' (fun y H4 => ∃ acc, H4 D = some (.lst acc) ∧ acc.length < sizeLine ∧ Same H (upd H4 D (.lst (acc ++ [y]))) ∧ upd H4 D (.lst (acc ++ [y])) D = some (.lst (ys.take (k + 1)))) s' fun H4 s4 => ⟨_, s4 _ _ eD, ?_, ?_, ?_⟩)
    · rfl
    · rw [List.length_take]
      omega
    · intro b o e
      rw [upd_ne (ne_of_none e nD)]
      exact s4 _ _ (s' _ _ e)
    · rw [upd_same, List.take_add_one, hy]
      rfl
  · rintro H' ⟨s', eD⟩
    rw [← hl, List.take_length] at eD
    exact q H' D s' nD eD
/-! ### how great the numbers are -/
def Bd (R m : Nat) (f : Nat → Int) : Prop := ∀ c, c < m → (f c).natAbs < 2 ^ R
theorem sum_bd {h : Nat → Int} {R n B : Nat} (hb : ∀ k, k < n → (h k).natAbs < 2 ^ R) (hn : n < 2 ^ B) : (sumK h n).natAbs < 2 ^ (R + B) := by
  have a := sumK_le (M := (2 ^ R : Nat)) (h := h) (n := n) fun k hk => by
    have := hb k hk
    omega
  have b : n * 2 ^ R < 2 ^ B * 2 ^ R := Nat.mul_lt_mul_of_pos_right hn (Nat.pos_of_ne_zero (by simp))
  rw [← Int.natCast_mul] at a
  rw [Nat.add_comm, Nat.pow_add]
  omega
theorem bd_rep {R B m s t : Nat} {f : Nat → Int} (hm : 0 < m) (hf : Bd R m f) (ht : t < 2 ^ B) : Bd (R + B) m (repF m s t f) := fun _ _ => sum_bd (fun _ _ => hf _ (rot_lt hm _ _)) ht
theorem bd_mv {R m s : Nat} {f : Nat → Int} (hm : 0 < m) (hf : Bd R m f) : Bd R m (mvF m s f) := fun _ _ => hf _ (rot_lt hm _ _)
theorem Bd.up {R R' m : Nat} {f : Nat → Int} (hf : Bd R m f) (h : R ≤ R') : Bd R' m f := fun c hc => Nat.lt_of_lt_of_le (hf c hc) (Nat.pow_le_pow_right (by decide) h)
end Ev

/-! ## Slices with steps; sorted lists of texts -/
namespace Ev
open PySem PySem.Spec PyProof.Rows L2
/-- sorted(xs), texts, any number of them -/
def rSortedSA (K : PySem.W.Frag) : List V → Hp → VK → Prop := fun vs H Q => ∃ (a : Addr) (xs : List Str), vs = [V.ref a] ∧ SqL K H a (xs.map V.str) ∧ ∀ p, H p = none → Q (.ref p) (upd H p (.lst ((srtS xs).map V.str)))
section
variable {X : Cx}
theorem cr_sortedSA : CallR X (.builtin "sorted") (rSortedSA X.K) := by
  intro pins s σ H vs us Q I r h
  obtain ⟨a, xs, rfl, hs, q⟩ := h
  obtain ⟨its, rv, hl, hz⟩ := I.list hs
  rw [Vals.ref1 r]
  have hlen0 := rv.length
  rw [List.length_map] at hlen0 hz
  refine PyProof.Rows.sorted_strsAny hl.isList rv.strs (by omega) fun out ys h1 h2 h3 => ?_
  obtain ⟨ep, he'⟩ := PyProof.Rows.sortedAll_at s.heap its out
  have hlen : (ys.map V.str).length ≤ sizeLine := by rw [List.length_map, h2.length_eq]; exact hz
  rw [← srt_is h2 h3] at q
  exact ⟨.ref _, upd H (s.heap.objs.size + 1) (.lst (ys.map V.str)), I.laid (t' := s.toks) (fun _ _ => PyProof.Rows.sortedAll_old) (Nat.le_succ _) ⟨hlen, out.toList, ep, vals_of_strs h1, he'⟩, rfl, q _ (I.hok.fresh (Nat.le_succ _))⟩
end
/-! ### xs[a:b:c] -/
def pickX {α : Type} (xs : List α) (lo hi st : Option Int) : List α := (sliceRange (sliceBounds lo hi st xs.length).1 (sliceBounds lo hi st xs.length).2.1 (sliceBounds lo hi st xs.length).2.2).filterMap (xs[·]?)
theorem vals_pick {xs : List V} {us : List Value} (r : Vals xs us) : ∀ l : List Nat, Vals (l.filterMap (xs[·]?)) (l.filterMap (us[·]?))
  | [] => .nil
  | i :: l => by
    have ih := vals_pick r l
    have hl := r.length
    by_cases h : i < xs.length
    · have e1 := List.getElem?_eq_getElem h
      obtain ⟨u, hu, ru⟩ := r.get e1
      rw [List.filterMap_cons_some (f := (xs[·]?)) e1, List.filterMap_cons_some (f := (us[·]?)) hu]
      exact .cons ru ih
    · rw [List.filterMap_cons_none (f := (xs[·]?)) (List.getElem?_eq_none (by omega)), List.filterMap_cons_none (f := (us[·]?)) (List.getElem?_eq_none (by omega))]
      exact ih
def tSl3 (K : PySem.W.Frag) (te : TE) (tl tu ts : TO) : TE := fun σ H Q => te σ H fun x H1 => tl σ H1 fun lo H2 => tu σ H2 fun hi H3 => ts σ H3 fun st H4 => ∃ a xs, x = .ref a ∧ SqL K H4 a xs ∧ st ≠ some 0 ∧
  ∀ p, H4 p = none → Q (.ref p) (upd H4 p (.lst (pickX xs lo hi st)))
section
variable {X : Cx}
theorem pe_slice3 {e : Expr} {ol ou os : Option Expr} {te : TE} {tl tu ts : TO} {p3 pos : Pos} (he : PE X e te) (hl : PO X ol tl) (hu : PO X ou tu) (hs : PO X os ts)
    (ht : ∀ (a : Addr) (b : Addr) , subscripted (.Slice ol ou os p3) false (.ref a) (.ref b) = operate [.ref a, .ref b] (getItem (.ref a) (.ref b)) := by intros; with_unfolding_all rfl) : PE X (.Subscript e (.Slice ol ou os p3) pos) (tSl3 X.K te tl tu ts) := by
  refine ⟨fun pins s σ H Q I h => ?_⟩
  refine Subscript_ (thn (he.run pins s σ H _ I h) fun v s1 ⟨x, H1, I1, r1, q1⟩ => ?_)
  refine wpAny_Slice (thn (hl.run pins s1 σ H1 _ I1 q1) fun vl s2 ⟨l, H2, I2, pl, q2⟩ => ?_)
  refine thn (hu.run pins s2 σ H2 _ I2 q2) fun vu s3 ⟨u, H3, I3, pu, q3⟩ => ?_
  refine thn (hs.run pins s3 σ H3 _ I3 q3) fun vs s4 ⟨o, H4, I4, ps, q4⟩ => ?_
  obtain ⟨a, xs, ex, hx, h0, q⟩ := q4
  subst ex
  cases r1
  have I5 : Inv X pins σ H4 { s4 with heap := s4.heap.push { cls := .type "slice", data := .fields #[vl, vu, vs] } } := I4.kept (t' := s4.toks) fun b ob q => Heap.get?_push_of_some _ q
  obtain ⟨its, r, hT, hz⟩ := I5.list hx
  have hlen := r.length
  show wpAny (model X.prog X.w) X.A (subscriptTail e (.Slice ol ou os p3) (.ref a) (.ref s4.heap.objs.size)) (EP X pins σ Q) X.xe { s4 with heap := s4.heap.push { cls := .type "slice", data := .fields #[vl, vu, vs] } }
  refine tail_any (ops := [.ref a, .ref s4.heap.objs.size]) hT.isList.typeIs (PySem.slot_list_getitem.lookup) ?_ (ht _ _)
  refine wpAny_getItem_list_slice hT.isList (Heap.IsSliceOf.new _ vl vu vs) pl pu ps h0 ?_ (by rw [List.size_toArray]; omega)
  have ep : slicePick its.toArray l u o = (pickX its l u o).toArray := by
    unfold slicePick pickX
    rw [List.size_toArray]
    simp only [List.getElem?_toArray]
  rw [ep]
  have hv : Vals (pickX xs l u o) (pickX its l u o) := by
    unfold pickX
    rw [← hlen]
    exact vals_pick r _
  have hpl : (pickX xs l u o).length ≤ sizeLine := by
    have z := slicePick_size_le its.toArray l u o
    rw [ep, List.size_toArray, List.size_toArray] at z
    have := hv.length
    omega
  refine ⟨.ref _, _, I5.laid (t' := s4.toks) (o := .lst (pickX xs l u o)) (fun b ob q => Heap.get?_push_of_some _ q) (Nat.le_refl _) ?_, rfl, q _ (I5.hok.fresh (Nat.le_refl _))⟩
  exact ⟨hpl, _, 0, hv, Heap.get?_push_size _ rfl⟩
end
/-! ### classes of a row -/
def clsL (m c k : Nat) : List Nat := (List.range k).filter fun i => decide (i % m = c)
theorem cls_count {n : Str} {m c : Nat} (w : List Str) : ∀ k, k ≤ w.length → (((clsL m c k).filterMap (w[·]?)).count n : Int) = cf n m c (w.take k) 0
  | 0, _ => by
    rw [List.take_zero]
    rfl
  | k + 1, h => by
    have ih := cls_count (n := n) (m := m) (c := c) w k (by omega)
    have e := List.getElem?_eq_getElem (show k < w.length by omega)
    have e1 : clsL m c (k + 1) = clsL m c k ++ if k % m = c then [k] else [] := by
      unfold clsL
      rw [List.range_succ, List.filter_append]
      congr 1
      by_cases h' : k % m = c
      · rw [if_pos h']
        exact List.filter_cons_of_pos (p := fun i => decide (i % m = c)) (decide_eq_true h')
      · rw [if_neg h']
        exact List.filter_cons_of_neg (p := fun i => decide (i % m = c)) (by rw [decide_eq_false h']; exact Bool.false_ne_true)
    rw [e1, List.filterMap_append, List.count_append, List.take_add_one, e, cf_app, List.length_take, Nat.min_eq_left (by omega), ← ih]
    show _ = _ + ((if w[k] = n ∧ (0 + k) % m = c then 1 else 0) + 0)
    rw [Nat.zero_add]
    by_cases h' : k % m = c
    · rw [if_pos h', List.filterMap_cons_some (f := (w[·]?)) e, List.filterMap_nil, List.count_singleton]
      by_cases h2 : w[k] = n
      · rw [if_pos (beq_iff_eq.mpr h2), if_pos ⟨h2, h'⟩]
        omega
      · rw [if_neg (fun z => h2 (beq_iff_eq.mp z)), if_neg (fun z => h2 z.1)]
        omega
    · rw [if_neg h', if_neg (fun z => h' z.2), List.filterMap_nil, List.count_nil]
      omega
theorem range_cls {m c N : Nat} (hm : 0 < m) (hc : c < m) : (sliceRange (max 0 (min (c : Int) N)) N m).Perm (clsL m c N) := by
  by_cases hN : c < N
  · have ea : max 0 (min (c : Int) N) = (c : Int) := by omega
    have eq : sliceRange (max 0 (min (c : Int) N)) N m = (List.range ((N - c + m - 1) / m)).map fun k => c + m * k := by
      rw [ea]
      unfold sliceRange
      dsimp only
      rw [if_pos (show (m : Int) > 0 by omega), if_pos (show (c : Int) < N by omega)]
      have e1 : ((N : Int) - c + m - 1) / m = (((N - c + m - 1) / m : Nat) : Int) := by
        rw [Int.natCast_ediv]
        congr 1
        omega
      rw [e1, Int.toNat_natCast]
      refine List.map_congr_left fun k _ => ?_
      rw [show (c : Int) + (m : Int) * (k : Int) = ((c + m * k : Nat) : Int) by rw [Int.natCast_add, Int.natCast_mul], Int.toNat_natCast]
    rw [eq]
    refine (List.perm_ext_iff_of_nodup ?_ ?_).mpr fun x => ?_
    · refine List.Pairwise.map _ ?_ (List.nodup_range (n := (N - c + m - 1) / m))
      intro a b hab e
      exact hab (Nat.eq_of_mul_eq_mul_left hm (by omega))
    · exact List.Pairwise.filter _ (List.nodup_range (n := N))
    · rw [List.mem_map]
      unfold clsL
      rw [List.mem_filter, List.mem_range, decide_eq_true_iff]
      constructor
      · rintro ⟨k, hk, rfl⟩
        have hk := (Nat.lt_div_iff_mul_lt hm).mp (List.mem_range.mp hk)
        rw [Nat.mul_comm] at hk
        exact ⟨by omega, by rw [Nat.add_mul_mod_self_left, Nat.mod_eq_of_lt hc]⟩
      · rintro ⟨h1, h2⟩
        have e := Nat.div_add_mod x m
        refine ⟨x / m, List.mem_range.mpr ((Nat.lt_div_iff_mul_lt hm).mpr ?_), by omega⟩
        rw [Nat.mul_comm]
        omega
  · have ea : max 0 (min (c : Int) N) = (N : Int) := by omega
    have e1 : sliceRange (max 0 (min (c : Int) N)) N m = [] := by
      rw [ea]
      unfold sliceRange
      dsimp only
      rw [if_pos (show (m : Int) > 0 by omega), if_neg (show ¬ (N : Int) < N by omega)]
      rfl
    have e2 : clsL m c N = [] := by
      unfold clsL
      rw [List.filter_eq_nil_iff]
      intro i hi h
      have h := of_decide_eq_true h
      have hi := List.mem_range.mp hi
      have := Nat.mod_le i m
      omega
    rw [e1, e2]
/-- xs[c::m] is the class of c -/
theorem pick_cls {w : List Str} {m c : Nat} (hm : 0 < m) (hc : c < m) : (pickX w (some (c : Nat)) none (some (m : Nat))).Perm ((clsL m c w.length).filterMap (w[·]?)) := by
  unfold pickX
  have e : sliceBounds (some ((c : Nat) : Int)) none (some ((m : Nat) : Int)) w.length = (max 0 (min (c : Int) w.length), (w.length : Int), (m : Int)) := by
    unfold sliceBounds
    dsimp only
    rw [Option.getD_some, if_pos (show (m : Int) > 0 by omega), if_pos (show (m : Int) > 0 by omega), if_neg (show ¬ (c : Int) < 0 by omega)]
  rw [e]
  exact (range_cls hm hc).filterMap _
theorem pick_count {w : List Str} {n : Str} {m c : Nat} (hm : 0 < m) (hc : c < m) : ((pickX w (some (c : Nat)) none (some (m : Nat))).count n : Int) = cf n m c w 0 := by
  rw [(pick_cls hm hc).count_eq, cls_count w w.length (Nat.le_refl _), List.take_length]
theorem pick_map (w : List Str) (lo hi st : Option Int) : pickX (w.map V.str) lo hi st = (pickX w lo hi st).map V.str := by
  unfold pickX
  rw [List.length_map, List.map_filterMap]
  congr 1
  funext i
  exact List.getElem?_map
/-! ### lists of texts as data -/
theorem eqv_strs : ∀ xs ys : List Str, PyData.eqvAll (xs.map PyData.str) (ys.map PyData.str) = decide (xs = ys)
  | [], [] => by
    rw [List.map_nil, PyData.eqvAll]
    rfl
  | [], _ :: _ => by
    rw [List.map_nil, List.map_cons, PyData.eqvAll]
    · rfl
    all_goals (intros; contradiction)
  | _ :: _, [] => by
    rw [List.map_nil, List.map_cons, PyData.eqvAll]
    · rfl
    all_goals (intros; contradiction)
  | x :: xs, y :: ys => by
    rw [List.map_cons, List.map_cons, PyData.eqvAll, eqv_strs xs ys, PyData.eqv]
    by_cases h1 : x = y
    · by_cases h2 : xs = ys
      · rw [decide_eq_true h2, h1, h2]
        simp
      · rw [decide_eq_false h2, decide_eq_false (fun z => h2 (List.cons.inj z).2), Bool.and_false]
    · rw [decide_eq_false (fun z => h1 (List.cons.inj z).1)]
      simp [h1]
theorem eqv_lstr (xs ys : List Str) : PyData.eqv (.list (xs.map PyData.str)) (.list (ys.map PyData.str)) = decide (xs = ys) := by
  rw [PyData.eqv, eqv_strs]
theorem lay_strs {w : List Str} (h : ∀ x ∈ w, PyData.strOk x = true) : SeqAt.shaped (.list (w.map PyData.str)) = true := by
  have h1 : PyData.canLayAll0 (w.map PyData.str) = true ∧ PyData.depthAll (w.map PyData.str) = 0 := by
    induction w with
    | nil => exact ⟨by rw [List.map_nil, PyData.canLayAll0], by rw [List.map_nil, PyData.depthAll]⟩
    | cons x w ih =>
      obtain ⟨i1, i2⟩ := ih fun z hz => h z (List.mem_cons_of_mem _ hz)
      refine ⟨?_, ?_⟩
      · rw [List.map_cons, PyData.canLayAll0, i1, PyData.canLay0, h x (List.mem_cons_self ..)]
        rfl
      · rw [List.map_cons, PyData.depthAll, i2, PyData.depth]
        rfl
  unfold SeqAt.shaped
  rw [PyData.canLay0, h1.1, PyData.depth, h1.2]
  rfl
theorem dpl_strs {K : PySem.W.Frag} {H : Hp} {a : Addr} {w : List Str} (h : SqL K H a (w.map V.str)) : Dp K H (.ref a) (.list (w.map PyData.str)) := by
  refine .lst h ?_
  clear h
  induction w with
  | nil => exact .nil
  | cons x w ih => exact .cons (.str x) ih
theorem srt_perm_iff {l m : List Str} : srtS l = srtS m ↔ l.Perm m := by
  constructor
  · intro e
    exact (srt_perm l).symm.trans (e ▸ srt_perm m)
  · intro h
    exact pw_same (srt_pw l) (srt_pw m) ((srt_perm l).trans (h.trans (srt_perm m).symm))
end Ev

/-! ## Signs of a text; an error that tells a place -/
namespace Ev
open PySem PySem.Spec PyProof.Rows L2
theorem da_tupE {K : PySem.W.Frag} {H : Hp} {v : V} {ds : List PyData} (h : Da K H v (.tuple ds)) : ∃ a xs, v = .ref a ∧ SqT K H a xs ∧ DaAll K H xs ds := by
  cases h with
  | tup hs ha => exact ⟨_, _, rfl, hs, ha⟩
/-- an error of class C that tells a place, and nothing else -/
def RzP (C : Addr) (n : Nat) (H : Hp) (E : XK) : Prop := ∀ H' dd, Same H H' → H' dd = some (.xd [("position", .int (n : Nat))]) → E (.ref C) (some dd) H'
theorem RzP.same {C : Addr} {n : Nat} {H H1 : Hp} {E : XK} (h : RzP C n H E) (s : Same H H1) : RzP C n H1 E := fun H' dd s' => h H' dd (s.trans s')
theorem RzP.go {C : Addr} {n : Nat} {H : Hp} {E : XK} (h : RzP C n H E) : [V.int (n : Nat)].length ≤ 1000 ∧ ∀ a, H a = none → spInit1 C "position" (.ref a :: ([V.int (n : Nat)] ++ [])) (upd H a (exo a C none))
    (fun u H2 => u = .non ∧ ∃ (d : Addr) (fs : List (Str × V)), H2 a = some (exo a C (some d)) ∧ H2 d = some (exd d fs) ∧ H d = none ∧ E (.ref C) (some d) (upd (del H2 a) d (.xd fs))) (fun _ _ _ => False) :=
  raise1_go fun dd nd => h _ dd (same_put nd) upd_same
/-- what reading a place gives: goes on, or raises -/
def RdG {α : Type} (r : Rdx α) (C : Addr) (H : Hp) (E : XK) (G : α → Prop) : Prop := match r with
  | .ok x => G x
  | .error e => RzP C e H E
theorem RdG.same {α : Type} {r : Rdx α} {C : Addr} {H H1 : Hp} {E : XK} {G G1 : α → Prop} (h : RdG r C H E G) (s : Same H H1) (k : ∀ x, G x → G1 x) : RdG r C H1 E G1 := by
  cases r with
  | ok x => exact k x h
  | error e => exact RzP.same h s
/-- the sign at a place, if there is one -/
def sgN (l : List Nat) (a : Nat) : List Nat := match l[a]? with
  | some c => [c]
  | none => []
theorem take_one {l : List Nat} {a : Nat} : (l.drop a).take 1 = sgN l a := by
  unfold sgN
  cases h : l[a]? with
  | none => rw [List.drop_eq_nil_of_le (List.getElem?_eq_none_iff.mp h)]; rfl
  | some c =>
    obtain ⟨hl, e⟩ := List.getElem?_eq_some_iff.mp h
    rw [List.drop_eq_getElem_cons hl, e]
    rfl
theorem sIx_nat {n d a : Nat} : HT.sIx n d (some (a : Int)) = min a n := by
  first
    | rfl
    | (unfold HT.sIx; simp; omega)
theorem cut_nat {z : Str} {a b : Nat} : cutS z (some (a : Int)) (some (b : Int)) = cutN (TL.tl z) a b := by
  unfold cutS cutN
  rw [sIx_nat, sIx_nat]
  have hz : z.length = z.cps.toList.length := TL.len_tl z
  congr 2
  show (z.cps.toList.drop _).take _ = (z.cps.toList.drop a).take (b - a)
  rw [hz]
  by_cases ha : a ≤ z.cps.toList.length
  · rw [Nat.min_eq_left ha]
    by_cases hb : b ≤ z.cps.toList.length
    · rw [Nat.min_eq_left hb]
    · rw [Nat.min_eq_right (by omega), List.take_of_length_le (by rw [List.length_drop]; omega), List.take_of_length_le (by rw [List.length_drop]; omega)]
  · rw [List.drop_eq_nil_of_le (Nat.le_of_not_le ha), List.drop_eq_nil_of_le (by rw [Nat.min_eq_right (by omega)]; exact Nat.le_refl _)]
    simp
/-- text[a:a + 1] -/
theorem cut_sg {z : Str} {a : Nat} : cutS z (some (a : Int)) (some ((a : Int) + 1)) = ⟨(sgN (TL.tl z) a).toArray⟩ := by
  rw [show ((a : Int) + 1) = ((a + 1 : Nat) : Int) from rfl, cut_nat]
  unfold cutN
  rw [show a + 1 - a = 1 by omega, take_one]
def sgB (p : Nat → Bool) (l : List Nat) (a : Nat) : Bool := match l[a]? with
  | some c => p c
  | none => false
theorem one_lt {a b : Nat} : [a] < [b] ↔ a < b := by
  rw [List.cons_lt_cons_iff]
  simp
/-- lo <= text[a:a + 1] <= hi -/
theorem sg_between {l : List Nat} {a lo hi : Nat} : ((!decide (sgN l a < [lo])) && !decide ([hi] < sgN l a)) = sgB (fun c => decide (lo ≤ c) && decide (c ≤ hi)) l a := by
  unfold sgN sgB
  cases h : l[a]? with
  | none => simp
  | some c =>
    have e1 : decide ([c] < [lo]) = decide (c < lo) := decide_eq_decide.mpr one_lt
    have e2 : decide ([hi] < [c]) = decide (hi < c) := decide_eq_decide.mpr one_lt
    show ((!decide ([c] < [lo])) && !decide ([hi] < [c])) = _
    rw [e1, e2, Bool.eq_iff_iff]
    simp
theorem sgN_eq {l : List Nat} {a c : Nat} : sgN l a = [c] ↔ l[a]? = some c := by
  unfold sgN
  cases h : l[a]? with
  | none => simp
  | some d => simp
theorem str_mk {x y : List Nat} : (V.str ⟨x.toArray⟩ = V.str ⟨y.toArray⟩) ↔ x = y := by
  constructor
  · intro h
    injection h with h
    injection h with h
    have z := congrArg Array.toList h
    simpa using z
  · rintro rfl
    rfl
theorem dig_int {c : Nat} (h : digB c = true) : intText? ⟨#[c]⟩ = some ((c - 48 : Nat) : Int) := by
  obtain ⟨h1, h2⟩ := digB_iff.mp h
  have : ∀ k : Nat, k < 10 → intText? ⟨#[48 + k]⟩ = some (k : Int) := by decide +kernel
  have z := this (c - 48) (by omega)
  rw [show 48 + (c - 48) = c by omega] at z
  exact z
theorem sg_let {l : List Nat} {a : Nat} : ((!decide ((⟨(sgN l a).toArray⟩ : Str).cps.toList < [97])) && !decide ([122] < (⟨(sgN l a).toArray⟩ : Str).cps.toList)) = isLet l a := by
  show ((!decide (sgN l a < [97])) && !decide ([122] < sgN l a)) = _
  rw [sg_between]
  rfl
theorem sg_dig {l : List Nat} {a lo : Nat} : ((!decide ((⟨(sgN l a).toArray⟩ : Str).cps.toList < [lo])) && !decide ([57] < (⟨(sgN l a).toArray⟩ : Str).cps.toList)) = sgB (fun c => decide (lo ≤ c) && decide (c ≤ 57)) l a := by
  show ((!decide (sgN l a < [lo])) && !decide ([57] < sgN l a)) = _
  exact sg_between
theorem sgN_len (l : List Nat) (a : Nat) : (⟨(sgN l a).toArray⟩ : Str).length ≤ 1 := by
  rw [TL.len_tl]
  show (sgN l a).length ≤ 1
  unfold sgN
  cases l[a]? with
  | none => exact Nat.zero_le _
  | some c => exact Nat.le_refl _
/-- lo <= sign <= "9" -/
theorem btw_go {σ : L2.St} {H : Hp} {te : TE} {lo : Str} {n : Nat} {l : List Nat} {a : Nat} (hlo : lo.cps.toList = [n]) (he : ∀ Q : VK, Q (.str ⟨(sgN l a).toArray⟩) H → te σ H Q) {Q : Bool → Hp → Prop} (q : Q (sgB (fun c => decide (n ≤ c) && decide (c ≤ 57)) l a) H) :
    tTest (tChain (fun x y H Q => ∃ i j, x = .str i ∧ y = .str j ∧ Q (.bl (!decide (j.cps.toList < i.cps.toList))) H) (fun x y H Q => ∃ i j, x = .str i ∧ y = .str j ∧ Q (.bl (!decide (j.cps.toList < i.cps.toList))) H) (tC (.str lo)) te (tC (.str (Str.ofString "9")))) σ H Q := by
  have s9 : (Str.ofString "9").cps.toList = [57] := by decide +kernel
  refine he _ ⟨_, _, rfl, rfl, _, rfl, ?_⟩
  rw [hlo]
  rw [← sg_dig] at q
  by_cases h : (!decide ((⟨(sgN l a).toArray⟩ : Str).cps.toList < [n])) = true
  · rw [if_pos h]
    rw [h, Bool.true_and] at q
    refine ⟨_, _, rfl, rfl, _, rfl, ?_⟩
    rw [s9]
    exact q
  · rw [if_neg h]
    rw [Bool.eq_false_iff.mpr h, Bool.false_and] at q
    exact ⟨_, rfl, q⟩
theorem sgB_some {p : Nat → Bool} {l : List Nat} {a c : Nat} (h : l[a]? = some c) : sgB p l a = p c := by
  unfold sgB
  rw [h]
theorem sgB_none {p : Nat → Bool} {l : List Nat} {a : Nat} (h : l[a]? = none) : sgB p l a = false := by
  unfold sgB
  rw [h]
theorem sl1_go {σ : L2.St} {H : Hp} {z : Str} {a i j : Nat} (hz : z.length ≤ sizeLine) (h0 : σ[i]? = some (some (.str z))) (h1 : σ[j]? = some (some (.int (a : Nat)))) : ∀ Q : VK, Q (.str ⟨(sgN (TL.tl z) a).toArray⟩) H → tSl rSlS (tVar i) (tPart (tVar j)) (tPart (tOp (rI0 fun i j => .int (i + j)) (tVar j) (tC (.int 1)))) σ H Q := fun Q q => by
  refine ⟨_, h0, _, h1, _, rfl, _, h1, _, _, rfl, rfl, _, rfl, z, rfl, hz, ?_⟩
  rw [cut_sg]
  exact q
theorem da2 {K : PySem.W.Frag} {H : Hp} {u : V} {d1 d2 : PyData} (h : Da K H u (.tuple [d1, d2])) : ∃ a x y, u = .ref a ∧ SqT K H a [x, y] ∧ Da K H x d1 ∧ Da K H y d2 := by
  obtain ⟨a, xs, rfl, hs, ha⟩ := da_tupE h
  cases ha with
  | cons h1 ha =>
  cases ha with
  | cons h2 ha =>
  cases ha
  exact ⟨a, _, _, rfl, hs, h1, h2⟩
theorem da3 {K : PySem.W.Frag} {H : Hp} {u : V} {d1 d2 d3 : PyData} (h : Da K H u (.tuple [d1, d2, d3])) : ∃ a x y v, u = .ref a ∧ SqT K H a [x, y, v] ∧ Da K H x d1 ∧ Da K H y d2 ∧ Da K H v d3 := by
  obtain ⟨a, xs, rfl, hs, ha⟩ := da_tupE h
  cases ha with
  | cons h1 ha =>
  cases ha with
  | cons h2 ha =>
  cases ha with
  | cons h3 ha =>
  cases ha
  exact ⟨a, _, _, _, rfl, hs, h1, h2, h3⟩
theorem da_intE {K : PySem.W.Frag} {H : Hp} {u : V} {i : Int} (h : Da K H u (.int i)) : u = .int i := by
  cases h
  rfl
theorem da_strE {K : PySem.W.Frag} {H : Hp} {u : V} {x : Str} (h : Da K H u (.str x)) : u = .str x := by
  cases h
  rfl
end Ev

/-! ## Weaker promises; numbers from 0 -/
namespace Ev
open PySem PySem.Spec PyProof.Rows L2
theorem FnG.imp {P : Program} {w : World} {K : PySem.W.Frag} {mg : Str → Option Value} {base : Heap} {CX : CXT} {k : Nat} {f : Addr} {fd : FuncData} {ps : List Str} {sp sp' : Sp} (F : FnG P w K mg base CX k f fd ps sp)
    (h : ∀ vs H Q E, sp' vs H Q E → sp vs H Q E) : FnG P w K mg base CX k f fd ps sp' :=
  ⟨fun vs H Q E z => F.many vs H Q E (h _ _ _ _ z), fun A o s H args us vs Q E hr gd e b v z => F.go A o s H args us vs Q E hr gd e b v (h _ _ _ _ z)⟩
theorem Cal.imp {P : Program} {w : World} {K : PySem.W.Frag} {mg : Str → Option Value} {base : Heap} {k : Nat} {x : Str} {ps : List Str} {sp sp' : Sp} (C : Cal P w K mg base k x ps sp) (h : ∀ vs H Q E, sp' vs H Q E → sp vs H Q E) : Cal P w K mg base k x ps sp' := by
  obtain ⟨f, fd, F, b, m, v⟩ := C.ex
  exact ⟨f, fd, F.imp h, b, m, v⟩
theorem nn_mem : ∀ {is : List It} {i : It}, Its.nn is → i ∈ is → It.nn i
  | j :: is, i, h, m => by
    rw [Its.nn] at h
    rcases List.mem_cons.mp m with rfl | m
    · exact h.1
    · exact nn_mem h.2 m
theorem nn_of : ∀ {is : List It}, (∀ i ∈ is, It.nn i) → Its.nn is
  | [], _ => by
    rw [Its.nn]
    trivial
  | i :: is, h => by
    rw [Its.nn]
    exact ⟨h i (List.mem_cons_self ..), nn_of fun j hj => h j (List.mem_cons_of_mem _ hj)⟩
theorem nn_app {is js : List It} (h : Its.nn is) (k : Its.nn js) : Its.nn (is ++ js) := nn_of fun i hi => by
  rcases List.mem_append.mp hi with z | z
  · exact nn_mem h z
  · exact nn_mem k z
end Ev

/-! ## List comprehensions with a test, the elements plain values -/
namespace Ev
open PySem PySem.Spec PyProof.Rows L2
/-- what a turn does -/
def Turn (H : Hp) (σ : L2.St) (g : TG) (tt : TT) (te : TE) (vs : List Nat) (f : V → Bool) (e : V → V) (x : V) : Prop := ∀ (H' : Hp) (N : Hp → Prop) (R : VK), Same H H' → (f x = false → ∀ H'', Same H' H'' → N H'') → (f x = true → ∀ H'', Same H' H'' → R (e x) H'') →
  g x (wipe σ vs) H' fun σ2 H2 => wipe σ2 vs = wipe σ vs ∧ tt σ2 H2 fun b H3 => if b = true then te σ2 H3 R else N H3
theorem filt_step {f : V → Bool} {e : V → V} {xs : List V} {k : Nat} {x : V} (h : xs[k]? = some x) : ((xs.take (k + 1)).filter f).map e = ((xs.take k).filter f).map e ++ (if f x = true then [e x] else []) := by
  rw [List.take_add_one, h, List.filter_append, List.map_append]
  congr 1
  show (([x] : List V).filter f).map e = _
  by_cases hf : f x = true
  · rw [if_pos hf, List.filter_cons_of_pos hf]
    rfl
  · rw [if_neg hf, List.filter_cons_of_neg hf]
    rfl
theorem turn_inv {H H' : Hp} {σ : L2.St} {g : TG} {tt : TT} {te : TE} {vs : List Nat} {f : V → Bool} {e : V → V} {xs : List V} {k : Nat} {x : V} {D : Addr} (nD : H D = none) (hz : xs.length ≤ 1000000) (hx : xs[k]? = some x) (ht : Turn H σ g tt te vs f e x) (s' : Same H H') (eD : H' D = some (.lst (((xs.take k).filter f).map e))) :
    g x (wipe σ vs) H' fun σ2 H2 => wipe σ2 vs = wipe σ vs ∧ tt σ2 H2 fun b H3 => if b = true then te σ2 H3 (fun y H4 => ∃ acc, H4 D = some (.lst acc) ∧ acc.length < sizeLine ∧ Same H (upd H4 D (.lst (acc ++ [y]))) ∧ upd H4 D (.lst (acc ++ [y])) D = some (.lst (((xs.take (k + 1)).filter f).map e))) else Same H H3 ∧ H3 D = some (.lst (((xs.take (k + 1)).filter f).map e)) := by
  have y := sizeLine_eq
  refine ht H' (fun H3 => Same H H3 ∧ H3 D = some (.lst (((xs.take (k + 1)).filter f).map e))) _ s' (fun hf H3 s3 => ⟨s'.trans s3, ?_⟩) (fun hf H4 s4 => ⟨_, s4 _ _ eD, ?_, ?_, ?_⟩)
  · rw [filt_step hx, if_neg (by rw [hf]; exact Bool.false_ne_true), List.append_nil]
    exact s3 _ _ eD
  · rw [List.length_map]
    have z := List.length_filter_le f (xs.take k)
    rw [List.length_take] at z
    omega
  · intro b o h
    rw [upd_ne (ne_of_none h nD)]
    exact s4 _ _ (s' _ _ h)
  · rw [upd_same, filt_step hx, if_pos hf]
theorem turn_yes {H : Hp} {σ : L2.St} {g : TG} {te : TE} {vs : List Nat} {e : V → V} {x : V} (h : ∀ (H' : Hp) (R : VK), Same H H' → (∀ H'', Same H' H'' → R (e x) H'') → g x (wipe σ vs) H' fun σ2 H2 => wipe σ2 vs = wipe σ vs ∧ te σ2 H2 R) : Turn H σ g tYes te vs (fun _ => true) e x := fun H' N R s' _ hR => h H' R s' (hR rfl)
/-- over a list -/
theorem lcF_list {K : PySem.W.Frag} {σ : L2.St} {H : Hp} {Q : VK} {tt : TT} {te ti : TE} {a : Addr} {xs : List V} {g : TG} {vs : List Nat} (f : V → Bool) (e : V → V) (hi : ∀ Q : VK, Q (.ref a) H → ti σ H Q) (hx : SqL K H a xs) (hz : xs.length ≤ 1000000)
    (he : ∀ x ∈ xs, Turn H σ g tt te vs f e x) (q : ∀ H' D, Same H H' → H D = none → H' D = some (.lst ((xs.filter f).map e)) → Q (.ref D) H') : tLc (iList K ti) g tt te vs σ H Q := by
  refine hi _ ⟨a, rfl, ⟨xs, hx⟩, fun D nD => ?_⟩
  refine lc_list (K := K) (a := a) (xs := xs) (fun k H' => Same H H' ∧ H' D = some (.lst (((xs.take k).filter f).map e))) ⟨same_put nD, by rw [List.take_zero]; exact upd_same⟩ (fun k H' _ ⟨s', _⟩ => s'.seq hx) ?_ ?_
  · rintro k x H' hk ⟨s', eD⟩
    exact turn_inv nD hz hk (he x (List.mem_of_getElem? hk)) s' eD
  · rintro H' ⟨s', eD⟩
    rw [List.take_length] at eD
    exact q H' D s' nD eD
theorem lcF_tup {K : PySem.W.Frag} {σ : L2.St} {H : Hp} {Q : VK} {tt : TT} {te ti : TE} {a : Addr} {xs : List V} {g : TG} {vs : List Nat} (f : V → Bool) (e : V → V) (hi : ∀ Q : VK, Q (.ref a) H → ti σ H Q) (hx : SqT K H a xs) (hz : xs.length ≤ 1000000)
    (he : ∀ x ∈ xs, Turn H σ g tt te vs f e x) (q : ∀ H' D, Same H H' → H D = none → H' D = some (.lst ((xs.filter f).map e)) → Q (.ref D) H') : tLc (iTup K ti) g tt te vs σ H Q := by
  refine hi _ ⟨a, rfl, ⟨xs, hx⟩, fun D nD => ?_⟩
  refine lc_tup (K := K) (a := a) (xs := xs) (fun k H' => Same H H' ∧ H' D = some (.lst (((xs.take k).filter f).map e))) ⟨same_put nD, by rw [List.take_zero]; exact upd_same⟩ (fun k H' _ ⟨s', _⟩ => seqT_mono s' hx) ?_ ?_
  · rintro k x H' hk ⟨s', eD⟩
    exact turn_inv nD hz hk (he x (List.mem_of_getElem? hk)) s' eD
  · rintro H' ⟨s', eD⟩
    rw [List.take_length] at eD
    exact q H' D s' nD eD
/-- the numbers from a to b - 1 -/
def rgN (a b : Nat) : List Nat := (List.range (b - a)).map fun k => a + k
theorem rgN_len (a b : Nat) : (rgN a b).length = b - a := by
  unfold rgN
  rw [List.length_map, List.length_range]
theorem rgN_mem {a b x : Nat} : x ∈ rgN a b ↔ a ≤ x ∧ x < b := by
  unfold rgN
  rw [List.mem_map]
  constructor
  · rintro ⟨k, hk, rfl⟩
    have := List.mem_range.mp hk
    omega
  · intro h
    exact ⟨x - a, List.mem_range.mpr (by omega), by omega⟩
theorem rgN_get {a b k : Nat} (h : k < b - a) : (rgN a b)[k]? = some (a + k) := by
  unfold rgN
  rw [List.getElem?_map, List.getElem?_range h]
  rfl
abbrev nV (n : Nat) : V := .int (n : Nat)
theorem filt_nV {f : V → Bool} {e : V → V} {l : List Nat} : ((l.map nV).filter f).map e = (l.filter fun n => f (nV n)).map fun n => e (nV n) := by
  rw [List.filter_map, List.map_map]
  rfl
def fV (f : Nat → Bool) : V → Bool
  | .int i => f i.toNat
  | _ => false
def eV (e : Nat → V) : V → V
  | .int i => e i.toNat
  | v => v
theorem filt_fe {f : Nat → Bool} {e : Nat → V} {l : List Nat} : ((l.map nV).filter (fV f)).map (eV e) = (l.filter f).map e := by
  rw [filt_nV]
  rfl
theorem filt_all {e : Nat → V} {l : List Nat} : ((l.map nV).filter (fun _ => true)).map (eV e) = l.map e := by
  rw [List.filter_eq_self.mpr (fun _ _ => rfl), List.map_map]
  rfl
theorem lcF_core {σ : L2.St} {H : Hp} {Q : VK} {tt : TT} {te : TE} {g : TG} {vs : List Nat} {a b : Nat} (f : V → Bool) (e : V → V) (hz : b ≤ 1000000) (he : ∀ x ∈ (rgN a b).map nV, Turn H σ g tt te vs f e x)
    (q : ∀ H' D, Same H H' → H D = none → H' D = some (.lst ((((rgN a b).map nV).filter f).map e)) → Q (.ref D) H') {lo : Int} (hlo : lo = (a : Nat)) (D : Addr) (nD : H D = none) : ∃ W : Nat → Nat → Hp → Prop, (∃ m, W 0 m (upd H D (.lst []))) ∧ ∀ i m H, W i m H →
  ((Itr lo (b - a)).stop i H ∧ Q (.ref D) H) ∨ ((Itr lo (b - a)).go i H ∧ ∃ Nx : Hp → Prop, (∀ H', Nx H' → ∃ m', m' < m ∧ W (i + 1) m' H') ∧ ∀ x H', (Itr lo (b - a)).yld i H x H' → g x (wipe σ vs) H' fun σ2 H2 => wipe σ2 vs = wipe σ vs ∧ tt σ2 H2 fun b H3 =>
    if b = true then te σ2 H3 fun y H4 => ∃ acc, H4 D = some (.lst acc) ∧ acc.length < sizeLine ∧ Nx (upd H4 D (.lst (acc ++ [y]))) else Nx H3) := by
  have hzl : ((rgN a b).map nV).length ≤ 1000000 := by
    rw [List.length_map, rgN_len]
    omega
  refine lc_range (lo := lo) (n := b - a) (fun k H' => Same H H' ∧ H' D = some (.lst (((((rgN a b).map nV).take k).filter f).map e))) ⟨same_put nD, by rw [List.take_zero]; exact upd_same⟩ ?_ ?_
  · rintro k H' hk ⟨s', eD⟩
    have hx : ((rgN a b).map nV)[k]? = some (.int (lo + (k : Nat))) := by
      rw [List.getElem?_map, rgN_get hk, hlo]
      show some (V.int ((a + k : Nat) : Int)) = _
      rw [Int.natCast_add]
    exact turn_inv nD hzl hx (he _ (List.mem_of_getElem? hx)) s' eD
  · rintro H' ⟨s', eD⟩
    have hl : b - a = ((rgN a b).map nV).length := by rw [List.length_map, rgN_len]
    rw [hl, List.take_length] at eD
    exact q H' D s' nD eD
theorem lcF_rng1 {σ : L2.St} {H : Hp} {Q : VK} {tt : TT} {te : TE} {ta : TA} {n : Nat} {g : TG} {vs : List Nat} (f : V → Bool) (e : V → V) (hta : ∀ (Q : List V → Hp → Prop), Q [.int (n : Nat)] H → ta σ H Q) (hz : n ≤ 1000000)
    (he : ∀ x ∈ (rgN 0 n).map nV, Turn H σ g tt te vs f e x) (q : ∀ H' D, Same H H' → H D = none → H' D = some (.lst ((((rgN 0 n).map nV).filter f).map e)) → Q (.ref D) H') : tLc (iRng1 ta) g tt te vs σ H Q := by
  refine hta _ ⟨(n : Nat), rfl, by omega, by omega, fun D nD => ?_⟩
  rw [Int.toNat_natCast]
  exact lcF_core (a := 0) (b := n) f e hz he q rfl D nD
theorem lcF_rng2 {σ : L2.St} {H : Hp} {Q : VK} {tt : TT} {te : TE} {ta : TA} {a b : Nat} {g : TG} {vs : List Nat} (f : V → Bool) (e : V → V) (hta : ∀ (Q : List V → Hp → Prop), Q [.int (a : Nat), .int (b : Nat)] H → ta σ H Q) (ha : a ≤ 1000000) (hz : b ≤ 1000000)
    (he : ∀ x ∈ (rgN a b).map nV, Turn H σ g tt te vs f e x) (q : ∀ H' D, Same H H' → H D = none → H' D = some (.lst ((((rgN a b).map nV).filter f).map e)) → Q (.ref D) H') : tLc (iRng2 ta) g tt te vs σ H Q := by
  refine hta _ ⟨(a : Nat), (b : Nat), rfl, ⟨by omega, by omega, by omega, by omega⟩, fun D nD => ?_⟩
  rw [show ((b : Nat) : Int) - ((a : Nat) : Int) = ((b : Nat) : Int) - ((a : Nat) : Int) from rfl, show (((b : Nat) : Int) - ((a : Nat) : Int)).toNat = b - a by omega]
  exact lcF_core (a := a) (b := b) f e hz he q rfl D nD
end Ev

/-! ## any data in a tuple of numbers; how many different numbers -/
namespace PySem.SeqAt
open PySem
section
variable {A : Around} {s : Shared}
theorem ev_sub_di : isSubtype (.type "dict") (.type "int") = pure false := by rw [isSubtype_type]; kernel_rfl
theorem ev_int_eq_dict (b : Int) (u : Tok) (l : Addr) (c : Value) (es : Array DictEntry) (n : Nat) (dd : Option Addr) (sl : Array (Option Value)) :
    Meets (Builtin.«int.__eq__» ⟨[.int b u, .ref l], []⟩) (fun _ R s => s.heap.get? l = some { cls := c, dict := dd, data := .dict es n, slots := sl } ∧ R (.ok (.ret .notImplemented)) s) :=
  .of_wp fun prog w A R s h => by
    obtain ⟨hp, g, d, tk, os⟩ := s
    obtain ⟨hl, h⟩ := h
    wp_walk using wpAny_loadPart' hl, wpAny_load hl
    exact ⟨_, rfl, h⟩
theorem ev_sub_id : isSubtype (.type "int") (.type "dict") = pure false := by rw [isSubtype_type]; kernel_rfl
theorem ev_dict_eq_int (l : Addr) (es : Array DictEntry) (n : Nat) (dd : Option Addr) (sl : Array (Option Value)) (b : Int) (u : Tok) :
    Meets (Builtin.«dict.__eq__» ⟨[.ref l, .int b u], []⟩)
      (fun _ R s => s.heap.get? l = some { cls := .type "dict", dict := dd, data := .dict es n, slots := sl } ∧ R (.ok (.ret .notImplemented)) s) :=
  .of_wp fun prog w A R s h => by
    obtain ⟨hp, g, d, tk, os⟩ := s
    obtain ⟨hl, h⟩ := h
    have f1 := ev_sub_id
    wp_walk using wpAny_loadPart' hl, wpAny_load hl
    exact ⟨_, rfl, h⟩
theorem ev_eq_int_dict {l : Addr} {o : Obj} {es : Array DictEntry} {n : Nat} (b : Int) (u : Tok) (ho : s.heap.get? l = some o) (hc : o.cls = .type "dict") (hd : o.data = .dict es n) (hu : A.units < cLine) :
    EqAt A s (.int b u) (.ref l) false := fun prog w E Q h => by
  obtain ⟨cls, dd, data, sl⟩ := o
  simp only at hc hd
  subst hc hd
  unfold eqBool
  refine wpAny_holding (wpAny_ite_split (fun hab => absurd (eq_of_beq hab) nofun) fun _ => wpAny_bind ?_)
  refine rc_eq_decline_or (k := false) (typeIs_int s b u) ⟨_, ho, rfl⟩ (by decide) ev_sub_di F.slot_int_eq F.slot_dict_eq_refl ?_ ?_ ?_ (.inr hu) (wpAny_truthy_bool h)
  · intro _ hq
    exact call_meets F.slot_int_eq (typeIs_int s b u) F.entry_int_eq (F.args_int_eq_2 _ _) (ev_int_eq_dict b u l (.type "dict") es n dd sl) ⟨ho, hq⟩
  · intro _ hq
    exact call_meets F.slot_dict_eq_refl ⟨_, ho, rfl⟩ F.entry_dict_eq (F.args_dict_eq_2 _ _) (ev_dict_eq_int l es n dd sl b u) ⟨ho, hq⟩
  · intro _ hq
    exact wpAny_of_eq (rfl : isSame (.int b u) (.ref l) = pure false) hq
end
end PySem.SeqAt
namespace Ev
open PySem PySem.Spec PyProof.Rows L2
/-- whether a value is among numbers, as Python sees it -/
def inD (ns : List Nat) : PyData → Bool
  | .int i => ns.any fun n => ((n : Nat) : Int) == i
  | .bool b => ns.any fun n => ((n : Nat) : Int) == (if b then 1 else 0)
  | _ => false
section
variable {X : Cx}
def rInI (K : PySem.W.Frag) : R2 := fun x y H Q => ∃ (p : Addr) (ns : List Nat) (d : PyData), y = .ref p ∧ SqT K H p (ns.map nV) ∧ Da K H x d ∧ Q (.bl (inD ns d)) H
theorem ints_of : ∀ {ns : List Nat} {us : List Value}, Vals (ns.map nV) us → ∀ u ∈ us, ∃ (b : Int) (t : Tok), u = .int b t
  | [], _, .nil, _, h => by cases h
  | n :: ns, _, .cons r t, u, h => by
    rcases List.mem_cons.mp h with rfl | h
    · obtain ⟨k, rfl⟩ := r
      exact ⟨_, _, rfl⟩
    · exact ints_of t u h
theorem op_inI (hu : X.A.units + 1 < cLine) : OpR X (compareOp .In) (rInI X.K) := by
  intro pins s σ H x y v u Q I rx ry h
  obtain ⟨p, ns, d, rfl, hq, hd, q⟩ := h
  cases ry
  obtain ⟨its, r, pl, hz⟩ := I.tuple hq
  have fl : (ns.map nV).all flatV = true := by
    rw [List.all_map]
    exact List.all_eq_true.mpr fun n _ => rfl
  have hui : X.A.in1.units < cLine := hu
  have flat : ∀ (hx : flatV x = true), (∀ ns' : List Nat, ns' = ns → inV x (ns'.map nV) = inD ns d) → wpAny (model X.prog X.w) X.A (compareOp .In v (.ref p)) (EP X pins σ Q) X.xe s := fun hx he => by
    refine SeqAt.in_tupleAt (eqU x) pl (fun w hw => mem_eqAt rx hx r fl w (by simpa using hw)) ⟨.bl _, H, I, rfl, ?_⟩
    rw [show its.toArray.any (eqU x) = its.any (eqU x) by simp, any_eqU r fl, show ((ns.map nV).any fun y => eqV y x) = inV x (ns.map nV) from rfl, he ns rfl]
    exact q
  have none : (∀ w ∈ its, SeqAt.EqAt X.A.in1 s w v false) → inD ns d = false → wpAny (model X.prog X.w) X.A (compareOp .In v (.ref p)) (EP X pins σ Q) X.xe s := fun he hf => by
    refine SeqAt.in_tupleAt (fun _ => false) pl (fun w hw => he w (by simpa using hw)) ⟨.bl _, H, I, rfl, ?_⟩
    rw [show (its.toArray.any fun _ => false) = false by simp, ← hf]
    exact q
  cases hd with
  | non =>
    exact flat rfl fun ns' e => by
      subst e
      show (ns'.map nV).any _ = false
      rw [List.any_map]
      exact List.any_eq_false.mpr fun n _ => Bool.false_ne_true
  | bl b =>
    exact flat rfl fun ns' e => by
      subst e
      show (ns'.map nV).any _ = _
      rw [List.any_map]
      rfl
  | int i =>
    exact flat rfl fun ns' e => by
      subst e
      show (ns'.map nV).any _ = _
      rw [List.any_map]
      rfl
  | str z =>
    exact flat rfl fun ns' e => by
      subst e
      show (ns'.map nV).any _ = false
      rw [List.any_map]
      exact List.any_eq_false.mpr fun n _ => Bool.false_ne_true
  | lst hs ha =>
    cases rx
    obtain ⟨its', rv, pl', _⟩ := I.list hs
    exact none (fun w hw => by
      obtain ⟨b, t, rfl⟩ := ints_of r w hw
      exact SeqAt.EqAt.int_list b t pl'.isList hui) rfl
  | tup hs ha =>
    cases rx
    obtain ⟨its', rv, pl', _⟩ := I.tuple hs
    exact none (fun w hw => by
      obtain ⟨b, t, rfl⟩ := ints_of r w hw
      exact SeqAt.EqAt.int_tuple b t pl' hui) rfl
  | @dic a kvs _ he hk =>
    cases rx
    have ok : ObjOk X.prog X.w H s.heap a (.dK kvs) := I.hok a _ he
    obtain ⟨_, ns', vs, kv, o, es, ep, ho, ex, hd, _⟩ := ok
    exact none (fun w hw => by
      obtain ⟨b, t, rfl⟩ := ints_of r w hw
      exact SeqAt.ev_eq_int_dict b t ho ex.1 hd hui) rfl
end
/-- how many different numbers -/
def distI (ns : List Int) : Nat := (firstMet (fun i => ns.getD i 0) ns.length).length
def tLenSetJ (K : PySem.W.Frag) (ta : TE) : TE := fun σ H Q => ta σ H fun x H1 => ∃ (l : Addr) (ns : List Int), x = .ref l ∧ SqL K H1 l (ns.map V.int) ∧ ns.length ≤ 4000 ∧ Q (.int (distI ns : Nat)) H1
theorem pe_lenSetJ {X : Cx} {a : Expr} {ta : TE} {p p2 q pos : Pos} (hg : Gl X "len") (hm : X.mg "len" = none) (hg2 : Gl X "set") (hm2 : X.mg "set" = none) (ha : PE X a ta) (hc : X.calm = true := by rfl)
    (na : starEach [a] X.env = (false, eval a X.env) :: starEach [] X.env := by rfl) : PE X (.Call (.Name "len" p) [.Call (.Name "set" p2) [a] [] q] [] pos) (tLenSetJ X.K ta) := ⟨fun pins s σ H Q I h => by
  refine Call_ (ld_blt I hg hm boot_len (callWith_builtin1 (args_cons (Call_ (ld_blt I hg2 hm2 boot_set ?_)) rfl) rfl rfl))
  refine callWith_type1 (args_cons (thn (ha.run pins s σ H _ I h) fun v s1 ⟨x, H1, I1, r1, l, ns, ex, hq, hl, q1⟩ => args_nil ?_) na) na rfl
  subst ex
  cases r1
  obtain ⟨its, r, pl, hz⟩ := I1.list hq
  have hsz : its.toArray.size = ns.length := by
    have e1 := r.length
    rw [List.length_map] at e1
    rw [List.size_toArray, e1]
  have hb : its.toArray.size + 1 < scanBound := by
    rw [hsz]
    unfold scanBound
    omega
  refine call_set_list (I1.ok.hd hc) pl.isList (by simpa using RZ.intsAre_vals r) hb fun h' tk hS hk => args_nil ?_
  rw [hsz] at hS
  obtain ⟨o, es, ep, t, ho, hex, hd, _, _, _, hf, hn⟩ := hS
  have I2 : Inv X pins σ H1 { s1 with heap := h', toks := tk } := I1.kept fun b o e => hk b o (Heap.lt_size e) e
  have hle := firstMet_length_le (fun i => ns.getD i 0) ns.length
  refine call_len_set ho hex hd hf (by rw [hn]; omega) ⟨.int (distI ns : Nat), H1, I2.tok _, ⟨_, by rw [hn]; rfl⟩, q1⟩⟩
theorem dist_one {ns : List Int} (h : ∀ x ∈ ns, ∀ y ∈ ns, x = y) : distI ns ≤ 1 := by
  unfold distI
  have go : ∀ i, i ≤ ns.length → (firstMet (fun i => ns.getD i 0) i).length ≤ 1 := fun i => by
    induction i with
    | zero => intro _; exact Nat.zero_le _
    | succ i ih =>
      intro hi
      have ih := ih (by omega)
      rw [firstMet_succ]
      unfold step_dedup
      split
      · exact ih
      · rename_i hno
        have hany := firstMet_any (fun i => ns.getD i 0) i (ns.getD i 0)
        by_cases h0 : i = 0
        · subst h0
          rw [firstMet_zero]
          exact Nat.le_refl _
        · refine absurd ?_ hno
          rw [hany, List.any_eq_true]
          have g : ∀ j, j < ns.length → ns.getD j 0 ∈ ns := fun j hj => by
            rw [List.getD_eq_getElem?_getD, List.getElem?_eq_getElem hj]
            exact List.getElem_mem hj
          exact ⟨ns.getD 0 0, List.mem_map.mpr ⟨0, List.mem_range.mpr (by omega), rfl⟩, beq_iff_eq.mpr (h _ (g 0 (by omega)) _ (g i (by omega)))⟩
  exact go ns.length (Nat.le_refl _)
theorem dist_two {ns : List Int} {x y : Int} (hx : x ∈ ns) (hy : y ∈ ns) (hne : x ≠ y) : 1 < distI ns := by
  have mem : ∀ z ∈ ns, z ∈ firstMet (fun i => ns.getD i 0) ns.length := fun z hz => by
    have hany := firstMet_any (fun i => ns.getD i 0) ns.length z
    have e : ((List.range ns.length).map fun i => ns.getD i 0).any (· == z) = true := by
      rw [List.any_eq_true]
      obtain ⟨j, hj, e⟩ := List.getElem_of_mem hz
      refine ⟨z, List.mem_map.mpr ⟨j, List.mem_range.mpr hj, ?_⟩, beq_self_eq_true z⟩
      rw [List.getD_eq_getElem?_getD, List.getElem?_eq_getElem hj, e]
      rfl
    rw [e, List.any_eq_true] at hany
    obtain ⟨u, hu, eu⟩ := hany
    rw [← beq_iff_eq.mp eu]
    exact hu
  have a := mem x hx
  have b := mem y hy
  unfold distI
  generalize firstMet (fun i => ns.getD i 0) ns.length = l at a b
  match l, a, b with
  | [u], a, b =>
    rw [List.mem_singleton] at a b
    exact absurd (a.trans b.symm) hne
  | _ :: _ :: _, _, _ =>
    show 1 < _ + 1 + 1
    omega
end Ev

/-! ## any data in a tuple of texts; isinstance of what an expression gives -/
namespace PySem.SeqAt
open PySem
section
variable {A : Around} {s : Shared}
theorem ev_sub_ds : isSubtype (.type "dict") (.type "str") = pure false := by rw [isSubtype_type]; kernel_rfl
theorem ev_eq_str_dict {l : Addr} {o : Obj} {es : Array DictEntry} {n : Nat} (b : Str) (u : Tok) (ho : s.heap.get? l = some o) (hc : o.cls = .type "dict") (hd : o.data = .dict es n) (hu : A.units < cLine) :
    EqAt A s (.str b u) (.ref l) false := fun prog w E Q h => by
  obtain ⟨cls, dd, data, sl⟩ := o
  simp only at hc hd
  subst hc hd
  unfold eqBool
  refine wpAny_holding (wpAny_ite_split (fun hab => absurd (eq_of_beq hab) nofun) fun _ => wpAny_bind ?_)
  refine rc_eq_decline_or (k := false) (typeIs_str s b u) ⟨_, ho, rfl⟩ (by decide) ev_sub_ds F.slot_str_eq F.slot_dict_eq_refl ?_ ?_ ?_ (.inr hu) (wpAny_truthy_bool h)
  · intro _ hq
    exact call_meets F.slot_str_eq (typeIs_str s b u) F.entry_str_eq (F.args_str_eq_2 _ _) (ev_str_eq_dict b u l (.type "dict") es n dd sl) ⟨ho, hq⟩
  · intro _ hq
    exact call_meets F.slot_dict_eq_refl ⟨_, ho, rfl⟩ F.entry_dict_eq (F.args_dict_eq_2 _ _) (ev_dict_eq_str l es n dd sl b u) ⟨ho, hq⟩
  · intro _ hq
    exact wpAny_of_eq (rfl : isSame (.str b u) (.ref l) = pure false) hq
end
end PySem.SeqAt
namespace Ev
open PySem PySem.Spec PyProof.Rows L2
/-- whether a value is among texts -/
def inT (ns : List Str) : PyData → Bool
  | .str x => ns.any fun n => n == x
  | _ => false
section
variable {X : Cx}
def rNiS (K : PySem.W.Frag) : R2 := fun x y H Q => ∃ (p : Addr) (ns : List Str) (d : PyData), y = .ref p ∧ SqT K H p (ns.map V.str) ∧ Da K H x d ∧ Q (.bl (!inT ns d)) H
theorem strs_of : ∀ {ns : List Str} {us : List Value}, Vals (ns.map V.str) us → ∀ u ∈ us, ∃ (b : Str) (t : Tok), u = .str b t
  | [], _, .nil, _, h => by cases h
  | n :: ns, _, .cons r t, u, h => by
    rcases List.mem_cons.mp h with rfl | h
    · obtain ⟨k, rfl⟩ := r
      exact ⟨_, _, rfl⟩
    · exact strs_of t u h
theorem op_niS (hu : X.A.units + 1 < cLine) : OpR X (compareOp .NotIn) (rNiS X.K) := by
  intro pins s σ H x y v u Q I rx ry h
  obtain ⟨p, ns, d, rfl, hq, hd, q⟩ := h
  cases ry
  obtain ⟨its, r, pl, hz⟩ := I.tuple hq
  have fl : (ns.map V.str).all flatV = true := by
    rw [List.all_map]
    exact List.all_eq_true.mpr fun n _ => rfl
  have hui : X.A.in1.units < cLine := hu
  have flat : ∀ (hx : flatV x = true), (∀ ns' : List Str, ns' = ns → inV x (ns'.map V.str) = inT ns d) → wpAny (model X.prog X.w) X.A (compareOp .NotIn v (.ref p)) (EP X pins σ Q) X.xe s := fun hx he => by
    refine SeqAt.notIn_tupleAt (eqU x) pl (fun w hw => mem_eqAt rx hx r fl w (by simpa using hw)) ⟨.bl _, H, I, rfl, ?_⟩
    rw [show its.toArray.any (eqU x) = its.any (eqU x) by simp, any_eqU r fl, show ((ns.map V.str).any fun y => eqV y x) = inV x (ns.map V.str) from rfl, he ns rfl]
    exact q
  have none : (∀ w ∈ its, SeqAt.EqAt X.A.in1 s w v false) → inT ns d = false → wpAny (model X.prog X.w) X.A (compareOp .NotIn v (.ref p)) (EP X pins σ Q) X.xe s := fun he hf => by
    refine SeqAt.notIn_tupleAt (fun _ => false) pl (fun w hw => he w (by simpa using hw)) ⟨.bl _, H, I, rfl, ?_⟩
    rw [show (its.toArray.any fun _ => false) = false by simp, ← hf]
    exact q
  have no : ∀ (x' : V), (∀ n : Str, eqV (.str n) x' = false) → ∀ ns' : List Str, inV x' (ns'.map V.str) = false := fun x' h ns' => by
    show (ns'.map V.str).any _ = false
    rw [List.any_map]
    exact List.any_eq_false.mpr fun n _ => by
      show ¬ eqV (.str n) x' = true
      rw [h n]
      exact Bool.false_ne_true
  cases hd with
  | non => exact flat rfl fun ns' e => no _ (fun _ => rfl) ns'
  | bl b => exact flat rfl fun ns' e => no _ (fun _ => rfl) ns'
  | int i => exact flat rfl fun ns' e => no _ (fun _ => rfl) ns'
  | str z =>
    exact flat rfl fun ns' e => by
      subst e
      show (ns'.map V.str).any _ = _
      rw [List.any_map]
      rfl
  | lst hs ha =>
    cases rx
    obtain ⟨its', rv, pl', _⟩ := I.list hs
    exact none (fun w hw => by
      obtain ⟨b, t, rfl⟩ := strs_of r w hw
      exact SeqAt.EqAt.str_list b t pl'.isList hui) rfl
  | tup hs ha =>
    cases rx
    obtain ⟨its', rv, pl', _⟩ := I.tuple hs
    exact none (fun w hw => by
      obtain ⟨b, t, rfl⟩ := strs_of r w hw
      exact SeqAt.EqAt.str_tuple b t pl' hui) rfl
  | @dic a kvs _ he hk =>
    cases rx
    have ok : ObjOk X.prog X.w H s.heap a (.dK kvs) := I.hok a _ he
    obtain ⟨_, ns', vs, kv, o, es, ep, ho, ex, hd, _⟩ := ok
    exact none (fun w hw => by
      obtain ⟨b, t, rfl⟩ := strs_of r w hw
      exact SeqAt.ev_eq_str_dict b t ho ex.1 hd hui) rfl
end
def rIsE (K : PySem.W.Frag) (T : String) : List V → Hp → VK → Prop := fun xs H Q => ∃ (x : V) (d : PyData), xs = [x, .ty T] ∧ Da K H x d ∧ Q (.bl (isD T d)) H
theorem call_isE {X : Cx} {T : String} (hT : OkT T) : CallR X (.builtin "isinstance") (rIsE X.K T) := fun pins s σ H xs us Q I r h => by
  obtain ⟨x, d, rfl, hd, q⟩ := h
  exact call_isi pins s σ H _ us Q I r ⟨x, .ty T, .type (tyD d), .type T, isD T d, rfl, .ty T, hd.ty, kit_ty (kit_D hT d), q⟩
end Ev

/-! ## Comprehensions, element by element; letters -/
namespace Ev
open PySem PySem.Spec PyProof.Rows L2
section
variable {K : PySem.W.Frag} {σ : L2.St} {H : Hp} {Q : VK} {te ti : TE} {a : Addr} {xs ys : List V} {g : TG} {vs : List Nat}
/-- what a turn of such a comprehension does -/
def TurnI (H : Hp) (σ : L2.St) (g : TG) (te : TE) (vs : List Nat) (x y : V) : Prop := ∀ (H' : Hp) (R : VK), Same H H' → (∀ H'', Same H' H'' → R y H'') → g x (wipe σ vs) H' fun σ2 H2 => wipe σ2 vs = wipe σ vs ∧ te σ2 H2 R
theorem turnI_inv {H' : Hp} {k : Nat} {x y : V} {D : Addr} (nD : H D = none) (hz : ys.length ≤ 1000000) (hy : ys[k]? = some y) (ht : TurnI H σ g te vs x y) (s' : Same H H') (eD : H' D = some (.lst (ys.take k))) :
    g x (wipe σ vs) H' fun σ2 H2 => wipe σ2 vs = wipe σ vs ∧ te σ2 H2 fun y H4 => ∃ acc, H4 D = some (.lst acc) ∧ acc.length < sizeLine ∧ Same H (upd H4 D (.lst (acc ++ [y]))) ∧ upd H4 D (.lst (acc ++ [y])) D = some (.lst (ys.take (k + 1))) := by
  have sz := sizeLine_eq
  have hk := (List.getElem?_eq_some_iff.mp hy).1
  refine ht H' _ s' fun H4 s4 => ⟨_, s4 _ _ eD, ?_, fun b o h => ?_, ?_⟩
  · rw [List.length_take]
    omega
  · rw [upd_ne (ne_of_none h nD)]
    exact s4 _ _ (s' _ _ h)
  · rw [upd_same, List.take_add_one, hy]
    rfl
theorem lcI_tup (hl : ys.length = xs.length) (hi : ∀ Q : VK, Q (.ref a) H → ti σ H Q) (hx : SqT K H a xs) (hz : xs.length ≤ 1000000) (he : ∀ (k : Nat) x y, xs[k]? = some x → ys[k]? = some y → TurnI H σ g te vs x y)
    (q : ∀ H' D, Same H H' → H D = none → H' D = some (.lst ys) → Q (.ref D) H') : tLc (iTup K ti) g tYes te vs σ H Q := by
  refine hi _ ⟨a, rfl, ⟨xs, hx⟩, fun D nD => ?_⟩
  refine lc_tup (K := K) (a := a) (xs := xs) (fun k H' => Same H H' ∧ H' D = some (.lst (ys.take k))) ⟨same_put nD, upd_same⟩ (fun k H' _ ⟨s', _⟩ => seqT_mono s' hx) ?_ ?_
  · rintro k x H' hk ⟨s', eD⟩
    have hy : k < ys.length := by
      have := (List.getElem?_eq_some_iff.mp hk).1
      omega
    exact turnI_inv nD (by omega) (List.getElem?_eq_getElem hy) (he k x _ hk (List.getElem?_eq_getElem hy)) s' eD
  · rintro H' ⟨s', eD⟩
    rw [← hl, List.take_length] at eD
    exact q H' D s' nD eD
theorem lcI_list (hl : ys.length = xs.length) (hi : ∀ Q : VK, Q (.ref a) H → ti σ H Q) (hx : SqL K H a xs) (hz : xs.length ≤ 1000000) (he : ∀ (k : Nat) x y, xs[k]? = some x → ys[k]? = some y → TurnI H σ g te vs x y)
    (q : ∀ H' D, Same H H' → H D = none → H' D = some (.lst ys) → Q (.ref D) H') : tLc (iList K ti) g tYes te vs σ H Q := by
  refine hi _ ⟨a, rfl, ⟨xs, hx⟩, fun D nD => ?_⟩
  refine lc_list (K := K) (a := a) (xs := xs) (fun k H' => Same H H' ∧ H' D = some (.lst (ys.take k))) ⟨same_put nD, upd_same⟩ (fun k H' _ ⟨s', _⟩ => s'.seq hx) ?_ ?_
  · rintro k x H' hk ⟨s', eD⟩
    have hy : k < ys.length := by
      have := (List.getElem?_eq_some_iff.mp hk).1
      omega
    exact turnI_inv nD (by omega) (List.getElem?_eq_getElem hy) (he k x _ hk (List.getElem?_eq_getElem hy)) s' eD
  · rintro H' ⟨s', eD⟩
    rw [← hl, List.take_length] at eD
    exact q H' D s' nD eD
theorem lcI_str {te0 : TE} {x : Str} (hl : ys.length = x.cps.size) (hz : ys.length ≤ 1000) (hi : ∀ Q : VK, Q (.str x) H → te0 σ H Q) (he : ∀ (k c : Nat) y, x.cps[k]? = some c → ys[k]? = some y → TurnI H σ g te vs (.str ⟨#[c]⟩) y)
    (q : ∀ H' D, Same H H' → H D = none → H' D = some (.lst ys) → Q (.ref D) H') : tLc (iStr te0) g tYes te vs σ H Q := by
  refine hi _ ⟨x, rfl, fun D nD => ⟨fun k m H' => m = ys.length - k ∧ k ≤ ys.length ∧ Same H H' ∧ H' D = some (.lst (ys.take k)), ⟨_, rfl, Nat.zero_le _, same_put nD, upd_same⟩, ?_⟩⟩
  rintro k m H' ⟨rfl, hk, s', eD⟩
  by_cases hlt : k < ys.length
  · have hy := List.getElem?_eq_getElem hlt
    refine .inr ⟨by show k < x.cps.size; omega, fun H'' => Same H H'' ∧ H'' D = some (.lst (ys.take (k + 1))), fun H'' p' => ⟨ys.length - (k + 1), by omega, rfl, hlt, p'.1, p'.2⟩, ?_⟩
    rintro v H'' ⟨rfl, c, hc, rfl⟩
    exact turnI_inv nD (by omega) hy (he k c _ hc hy) s' eD
  · refine .inl ⟨by show x.cps.size ≤ k; omega, ?_⟩
    obtain rfl : k = ys.length := by omega
    rw [List.take_length] at eD
    exact q H' D s' nD eD
end
/-- letters -/
abbrev rInZ : R2 := fun x y H Q => ∃ (c : Nat) (z : Str), x = .str ⟨#[c]⟩ ∧ y = .str z ∧ Q (.bl (decide (c ∈ z.cps.toList))) H
theorem az_list : ("abcdefghijklmnopqrstuvwxyz" : Str).cps.toList = (List.range 26).map (· + 97) := by decide +kernel
theorem az (c : Nat) : decide (c ∈ ("abcdefghijklmnopqrstuvwxyz" : Str).cps.toList) = (decide (97 ≤ c) && decide (c ≤ 122)) := by
  rw [az_list, ← Bool.decide_and, decide_eq_decide, List.mem_map]
  constructor
  · rintro ⟨a, ha, rfl⟩
    have := List.mem_range.mp ha
    omega
  · intro h
    exact ⟨c - 97, List.mem_range.mpr (by omega), by omega⟩
end Ev

/-! ## raise C(), C an error class whose __init__ takes self alone -/
namespace Ev
open PySem PySem.Spec PyProof.Rows L2
def spInit0 (C : Addr) : Sp := fun vs H Q _ => ∃ a : Addr, vs = [.ref a] ∧ H a = some (exo a C none) ∧ Q .non H
/-- such a class, ready to be raised -/
structure Err0 (P : Program) (w : World) (K : PySem.W.Frag) (mg : Str → Option Value) (base : Heap) (x : Str) (C : Addr) : Prop where
  g : mg x = some (.ref C)
  cls : ErrC K C
  ini : ∃ (fI : Addr) (fd : FuncData), PySem.W.findIn K (.ref C) "__init__" = some (some (.ref fI)) ∧ PySem.W.typeIn K (.ref fI) = some (.type "function") ∧ FnOk P w K mg base CX0 1 fI fd ["self"] (spInit0 C) ∧ Binds K fd ["self"] []
section
variable {X : Cx} {x : Str} {C : Addr} {W : WX} {p pos pos' : Pos}
/-- C(): a new error, held as a value -/
theorem pe_err0 (R : Err0 X.prog X.w X.K X.mg X.base x C) (hr : Room 2 X.A) (hg : Gl X x) (hdb : (x == ("__debug__" : Str)) = false := by decide) :
    PE X (.Call (.Name x p) [] [] pos) (fun _ H Q => ∀ a, H a = none → Q (.ref a) (upd H a (exo a C none))) := by
  constructor
  intro pins s σ H Q I q
  obtain ⟨fI, fd, iC, tI, F1, hb⟩ := R.ini
  have T := R.cls.ox
  obtain ⟨nm, qn, N, bs, bm, sn, sub, ab, col, dd, k0, k1, k2, k3, k5, hC, hbm⟩ := T.cls
  refine wpAny_Call_Name_kw (ld_glob I hg R.g (PySem.W.callWith_K0 I.kIn T.kC ?_) hdb)
  obtain ⟨hp, g, dr, tk, os⟩ := s
  have hsz : hp.objs.size ≤ hp.objs.size + 1 := Nat.le_succ _
  have hn : H (hp.objs.size + 1) = none := I.hok.fresh hsz
  have there : ((hp.push (PySem.W.kdv_tup [])).push (PySem.HandSPX.excO C hp.objs.size)).get? (hp.objs.size + 1) = some (PySem.HandSPX.excO C hp.objs.size) := by heap_get
  have old : ∀ b o, hp.get? b = some o → ((hp.push (PySem.W.kdv_tup [])).push (PySem.HandSPX.excO C hp.objs.size)).get? b = some o := fun b o e => Heap.get?_push_of_some _ (Heap.get?_push_of_some _ e)
  have J : Inv X pins σ (upd H (hp.objs.size + 1) (exo (hp.objs.size + 1) C none)) ⟨_, g, dr, tk, os⟩ := I.laid (t' := tk) old hsz (exo_ok there)
  have bt := hb _ [Value.ref (hp.objs.size + 1)] J.kIn rfl
  have run := F1.run _ X.stack _ _ ⟨[Value.ref (hp.objs.size + 1)], []⟩ [Value.ref (hp.objs.size + 1)] [V.ref (hp.objs.size + 1)] (fun v H2 => v = .non ∧ Q (.ref (hp.objs.size + 1)) H2) E0 (hr.make C [] []) (J.env0.make C [] []) bt (.cons rfl .nil)
    ⟨_, rfl, upd_same, rfl, q _ hn⟩
  refine wpAny_call (PySem.HandSPX.call_own F.excBase_ValueError (fun Y => PySem.HandSPX.refsVE_contains Y bm hbm) (I.kIn _ _ hC) (PySem.W.looks_findIn I.kIn iC) (fun self => PySem.W.bind_fn I.kIn self tI) (Nat.zero_le _) (codeAny_mono run fun r s' z => ?_))
  match r, z with
  | .error er, z => exact pass0 pins σ _ _ er s' J z
  | .ok .next, z => exact False.elim z
  | .ok .brk, z => exact False.elim z
  | .ok .cont, z => exact False.elim z
  | .ok (.ret u), z =>
    obtain ⟨v, H2, J2, rv, ev, q2⟩ := (J.after z : EP X pins σ _ u s')
    subst ev
    obtain rfl : u = Value.none := rv
    exact ⟨rfl, .ref _, H2, J2, rfl, q2⟩
/-- raise C() -/
theorem ps_raise0 (R : Err0 X.prog X.w X.K X.mg X.base x C) (hc : X.calm = true) (hx : X.ex = []) (hr : Room 2 X.A) (hg : Gl X x) (tk : Takes X W) (hdb : (x == ("__debug__" : Str)) = false := by decide) :
    PS X (.Raise (some (.Call (.Name x p) [] [] pos)) none pos') (fun _ σ H => ∀ a, H a = none → Fr0 X.H_0 a ∧ W (.ref C) none σ H) := by
  refine ps_raise (t := fun σ H Q => ∀ a, H a = none → Fr0 X.H_0 a ∧ Q (.ref C) none H) hc tk fun pins s σ H Q I h => ?_
  refine wpAny_mono ((pe_err0 R hr hg hdb).run pins s σ H (fun v H1 => ∃ a, v = .ref a ∧ H a = none ∧ H1 = upd H a (exo a C none)) I fun a na => ⟨a, rfl, na, rfl⟩) (fun u s1 hu => ?_) fun _ _ z => z
  obtain ⟨v, H1, J, rv, a, rfl, na, rfl⟩ := hu
  obtain rfl : u = Value.ref a := rv
  obtain ⟨fr, q⟩ := h a na
  obtain ⟨t1, ho⟩ := exo_at J.hok (upd_same (H := H) (a := a) (o := exo a C none))
  obtain ⟨G, g1, g2, J'⟩ := J.untrack upd_same fr hx
  rw [delH_new na] at J'
  exact ⟨a, _, _, { s1 with heap := G }, H, .ref C, none, rfl, J', g1, g2, ho, ⟨rfl, rfl⟩, rfl, rfl, na, rfl, J.bare, raises_own R.cls.ox.exC R.cls.ox.tyC, q⟩
end
end Ev

/-! ## A law whose defs make lambdas: the tables of their code objects are known from the start -/
namespace Ev
open PySem PySem.Spec PyProof.Rows L2
open LamX (TabB)
/-- the script is read only: it stands whatever else changes -/
def Scr (K : PySem.W.Frag) (H : Hp) (a : Addr) (xs : List V) : Prop := (∃ o, H a = some (.frz o (.lst xs))) ∨ ∀ H', SqL K H' a xs
/-- what the ledger holds when a law begins: the script (if no written object is the script), empty tables -/
structure Begun (K : PySem.W.Frag) (a : Addr) (o : Obj) (xs : List V) (cs : List (Addr × Addr)) (H : Hp) : Prop where
  tab : ∀ p ∈ cs, H p.2 = some (.tbl #[])
  seq : Scr K H a xs
  all : ∀ b u, H b = some u → (∃ p ∈ cs, p.2 = b ∧ u = .tbl #[]) ∨ (b = a ∧ u = .frz o (.lst xs) ∧ K.lookup a = none)
theorem begun {K : PySem.W.Frag} {h : Heap} {a : Addr} {vs : List Value} {xs : List V} {cs : List (Addr × Addr)} (KX : K.In h) (ha : h.get? a = some { cls := .type "list", data := .seq vs.toArray })
    (hT : ∀ p ∈ cs, h.get? p.2 = some (PySem.W.tabObj #[])) (rv : Vals xs vs) (hl : xs.length ≤ sizeLine) : ∃ H, Begun K a { cls := .type "list", data := .seq vs.toArray } xs cs H := by
  have ne : ∀ p ∈ cs, p.2 ≠ a := fun p hp z => by
    have e := hT p hp
    rw [z, ha] at e
    cases e
  let T : Hp := fun b => if ∃ p ∈ cs, p.2 = b then some (.tbl #[]) else none
  have at1 : ∀ p ∈ cs, T p.2 = some (.tbl #[]) := fun p hp => if_pos ⟨p, hp, rfl⟩
  have inv1 : ∀ b u, T b = some u → ∃ p ∈ cs, p.2 = b ∧ u = .tbl #[] := fun b u e => by
    by_cases z : ∃ p ∈ cs, p.2 = b
    · have e2 : T b = some (.tbl #[]) := if_pos z
      obtain ⟨p, hp, hb⟩ := z
      exact ⟨p, hp, hb, Option.some.inj (e.symm.trans e2)⟩
    · exact nomatch (if_neg z : T b = none).symm.trans e
  cases hk : K.lookup a with
  | none =>
    refine ⟨upd T a (.frz { cls := .type "list", data := .seq vs.toArray } (.lst xs)), fun p hp => (upd_ne (ne p hp)).trans (at1 p hp), .inl ⟨_, upd_same⟩, fun b u e => ?_⟩
    by_cases z : b = a
    · subst z
      exact .inr ⟨rfl, Option.some.inj (e.symm.trans upd_same), hk⟩
    · exact .inl (inv1 b u ((upd_ne z).symm.trans e))
  | some ob =>
    have e := KX a ob hk
    rw [ha] at e
    cases e
    exact ⟨T, at1, .inr fun _ => .inr ⟨_, vs.toArray, _, hk, rfl, rfl, rfl, by rw [List.size_toArray, ← rv.length]; exact hl, by simpa using rv⟩, fun b u e => .inl (inv1 b u e)⟩
section
variable {P : Program} {w : World} {K : PySem.W.Frag} {mg mb : Str → Option Value} {h : Heap} {a : Addr} {vs : List Value} {xs : List V} {cs : List (Addr × Addr)} {H : Hp}
/-- what is neither the script nor a table is not in the ledger -/
theorem Begun.off (B : Begun K a { cls := .type "list", data := .seq vs.toArray } xs cs H) (ha : h.get? a = some { cls := .type "list", data := .seq vs.toArray }) (hT : ∀ p ∈ cs, h.get? p.2 = some (PySem.W.tabObj #[]))
    {b : Addr} {ob : Obj} (e : h.get? b = some ob) (n1 : ob.data ≠ .seq vs.toArray) (n2 : ob.data ≠ .fields #[]) : H b = none := by
  cases q : H b with
  | none => rfl
  | some u =>
    rcases B.all b u q with ⟨p, hp, rfl, _⟩ | ⟨rfl, _, _⟩
    · rw [hT p hp] at e
      cases e
      exact (n2 rfl).elim
    · rw [ha] at e
      cases e
      exact (n1 rfl).elim
theorem Begun.ns (B : Begun K a { cls := .type "list", data := .seq vs.toArray } xs cs H) (ha : h.get? a = some { cls := .type "list", data := .seq vs.toArray }) (hT : ∀ p ∈ cs, h.get? p.2 = some (PySem.W.tabObj #[]))
    {b : Addr} {m : Str → Option Value} : h.Ns b m → (hidT h H).Ns b m := fun ⟨ob, es, ep, e, d, r⟩ => ⟨ob, es, ep, hidT_get e (B.off ha hT e (by rw [d]; nofun) (by rw [d]; nofun)), d, r⟩
theorem Begun.kin (B : Begun K a { cls := .type "list", data := .seq vs.toArray } xs cs H) (KX : K.In h) (nT : ∀ p ∈ cs, K.lookup p.2 = none) : K.In (hidT h H) := fun b ob e => by
  refine hidT_get (KX b ob e) ?_
  cases q : H b with
  | none => rfl
  | some u =>
    rcases B.all b u q with ⟨p, hp, rfl, _⟩ | ⟨rfl, _, n⟩
    · exact nomatch (nT p hp).symm.trans e
    · exact nomatch n.symm.trans e
theorem Begun.hok (B : Begun K a { cls := .type "list", data := .seq vs.toArray } xs cs H) (ha : h.get? a = some { cls := .type "list", data := .seq vs.toArray }) (hT : ∀ p ∈ cs, h.get? p.2 = some (PySem.W.tabObj #[])) (rv : Vals xs vs) (hl : xs.length ≤ sizeLine) : HOk P w H h := fun b u e => by
  rcases B.all b u e with ⟨p, hp, rfl, rfl⟩ | ⟨rfl, rfl, _⟩
  · exact hT p hp
  · exact ⟨ha, hl, vs, _, rv, ha⟩
theorem Begun.tabB (B : Begun K a { cls := .type "list", data := .seq vs.toArray } xs cs H) (ha : h.get? a = some { cls := .type "list", data := .seq vs.toArray }) (hT : ∀ p ∈ cs, h.get? p.2 = some (PySem.W.tabObj #[])) (C : ∀ p ∈ cs, PySem.W.CodeHd h p.1 p.2) (hns : h.Ns mainGlobals mg)
    (hbm : ∃ bm ob, mg "__builtins__" = some (.ref bm) ∧ bm ≠ builtinsNs ∧ h.get? bm = some ob ∧ ob.cls = .type "module" ∧ ob.dict = some builtinsNs ∧ ob.data = .plain) {p : Addr × Addr} (hp : p ∈ cs) : TabB (hidT h H) mg p.1 p.2 where
  code := by
    obtain ⟨o, us, file, tf, flags, tg, inF, text, tt, e, r1, r2, r3, r⟩ := C p hp
    refine ⟨o, us, file, tf, flags, tg, inF, text, tt, hidT_get e (B.off ha hT e ?_ ?_), r1, r2, r3, r⟩
    · rw [r2]
      nofun
    · intro z
      rw [r2] at z
      cases z
      simp at r3
  bm := by
    obtain ⟨bm, ob, b1, b2, b3, b4, b5, b6⟩ := hbm
    refine ⟨bm, ob, b1, b2, fun z => ?_, fun z => ?_, hidT_get b3 (B.off ha hT b3 ?_ ?_), b4, b5, b6⟩
    · obtain ⟨o, es, ep, e, d, _⟩ := hns
      rw [z, e] at b3
      cases b3
      rw [d] at b6
      cases b6
    · rw [z, hT p hp] at b3
      cases b3
      cases b6
    · rw [b6]
      nofun
    · rw [b6]
      nofun
  gP := fun z => by
    obtain ⟨o, es, ep, e, d, _⟩ := hns
    rw [z, hT p hp] at e
    cases e
    cases d
/-- at the end all stands as it was, but for what the tables were told -/
theorem Begun.over {H' : Hp} {h' : Heap} (B : Begun K a { cls := .type "list", data := .seq vs.toArray } xs cs H) (ha : h.get? a = some { cls := .type "list", data := .seq vs.toArray }) (hT : ∀ p ∈ cs, h.get? p.2 = some (PySem.W.tabObj #[])) (C : ∀ p ∈ cs, PySem.W.CodeHd h p.1 p.2)
    (un : Un [] [] H H' h h') (ok : HOk P w H' h') : OldK h h' := by
  have one : ∀ b ob, h.get? b = some ob → asItWas h h' b ob ∧ ∃ o', h'.get? b = some o' := fun b ob e => by
    cases q : H b with
    | none =>
      have z := un.keep b ob e q (by simp) (by simp)
      exact ⟨.inl z, _, z⟩
    | some u =>
      rcases B.all b u q with ⟨p, hp, rfl, rfl⟩ | ⟨rfl, rfl, _⟩
      · obtain ⟨more, z⟩ := un.tbls _ _ q
        have z : h'.get? p.2 = some { cls := .none, data := .fields (#[] ++ more) } := ok _ _ z
        rw [hT p hp] at e
        cases e
        exact ⟨.inr (.inl ⟨((C p hp).tab (hT p hp)).isCodeTable, rfl, #[], more, rfl, z⟩), _, z⟩
      · obtain ⟨z, _⟩ := ok _ _ (un.frzs _ _ _ q)
        rw [ha] at e
        cases e
        exact ⟨.inl z, _, z⟩
  exact ⟨fun b ob e => (one b ob e).1, fun b ob e => (one b ob e).2⟩
end
/-- the law, called -/
theorem law_endT {P : Program} {w : World} {K : PySem.W.Frag} {mg mb : Str → Option Value} {CX : CXT} {k : Nat} {fa a : Addr} {fd : FuncData} {x : Str} {sp : Sp} {s₁ : Shared} {vs : List Value} {ns : List Int} {cs : List (Addr × Addr)}
    (KX : K.In s₁.heap) (hns : s₁.heap.Ns mainGlobals mg) (hb : s₁.heap.Ns builtinsNs mb) (hbb : ∀ x : Str, x ≠ "__name__" → mb x = bootBuiltins x) (hlim : s₁.heap.NoLimit) (hg : s₁.gens = #[])
    (hbm : ∃ bm ob, mg "__builtins__" = some (.ref bm) ∧ bm ≠ builtinsNs ∧ s₁.heap.get? bm = some ob ∧ ob.cls = .type "module" ∧ ob.dict = some builtinsNs ∧ ob.data = .plain)
    (hT : ∀ p ∈ cs, s₁.heap.get? p.2 = some (PySem.W.tabObj #[])) (nT : ∀ p ∈ cs, K.lookup p.2 = none) (C : ∀ p ∈ cs, PySem.W.CodeHd s₁.heap p.1 p.2)
    (ha : s₁.heap.get? a = some { cls := .type "list", data := .seq vs.toArray }) (hi : IntsAre vs ns) (hl : ns.length ≤ sizeLine) (hr : Room k callerA) (hsm : ∃ mm, s₁.heap.Ns sysModules mm)
    (F : ∀ base : Heap, K.In base → base.Ns mainGlobals mg → (∃ mm, base.Ns sysModules mm) → (∀ p ∈ cs, TabB base mg p.1 p.2) → FnG P w K mg base CX k fa fd [x] sp)
    (hbind : ∀ (s : Shared) (u : Value), BindsTo s fd ⟨[u], []⟩ [(x, u)])
    (hsp : ∀ H : Hp, (∀ p ∈ cs, H p.2 = some (.tbl #[])) → Scr K H a (ns.map V.int) → sp [.ref a] H (fun v _ => v = .bl true) fun _ _ _ => False)
    (hCX : ∀ H e s', CX [] H s₁ (fun _ _ _ => False) e s' → False) :
    codeAny (model P w) callerA (.call (.ref fa) ⟨[.ref a], []⟩) (fun r s' => r = .ok (.ret (.bool true)) ∧ OldK s₁.heap s'.heap ∧ s'.os = s₁.os ∧ AllBare s'.gens) s₁ := by
  have rv := vals_ints hi
  have hl' : (ns.map V.int).length ≤ sizeLine := by rw [List.length_map]; exact hl
  obtain ⟨H, B⟩ := begun KX ha hT rv hl'
  have kin := B.kin KX nT
  have seen : ∀ {b m}, s₁.heap.Ns b m → (hidT s₁.heap H).Ns b m := B.ns ha hT
  obtain ⟨mc, m1, m2⟩ := hlim
  obtain ⟨mm, hmm⟩ := hsm
  have e0 : Env0 P w K mg (hidT s₁.heap H) callerA [] s₁ H :=
    { frames := rfl, mod := ⟨kin, seen hns, ⟨mb, seen hb, hbb⟩, ⟨mc, seen m1, m2⟩⟩, bs := fun _ _ => of_hidT, bsz := Nat.le_of_eq (hidT_size _ _), funs := trivial, frf := nofun, hok := B.hok ha hT rv hl', bare := .of_eq hg }
  refine codeAny_mono ((F _ kin (seen hns) ⟨mm, seen hmm⟩ fun p hp => B.tabB ha hT C hns hbm hp).go callerA [] s₁ H ⟨[.ref a], []⟩ [.ref a] [.ref a] _ _ hr rfl e0 (hbind s₁ (.ref a)) (.cons rfl .nil) (hsp H B.tab B.seq)) fun r s' out => ?_
  match r, out with
  | .error e, out => exact (hCX H e s' out).elim
  | .ok (.ret u), ⟨v, H', os, bare, un, ok, rel, q⟩ =>
    have q : v = .bl true := q
    subst q
    cases (show u = Value.bool true from rel)
    exact ⟨rfl, B.over ha hT C un ok, os, bare⟩
/-- the code objects and tables of these defs -/
def TabF (h : Heap) (mg : Str → Option Value) (x : Str) (p : Addr × Addr) : Prop := ∃ (f : Addr) (o : Obj) (fd : FuncData), mg x = some (.ref f) ∧ h.get? f = some o ∧ o.data = .func fd ∧ fd.code = .ref p.1
theorem walkT (xs : List Str) {l : PySem.W.OpenLaw} {n k : Nat} {q : Program} {loose : List Str} {XP : (Str → Option Value) → Heap → Prop} {YP : World → Heap → Prop} {d : DefRec} {K : Params → PySem.W.Frag} {CX : CXT} {sp : PySem.W.Frag → List Addr → Sp} {x : Str}
    (hq : importsNone q = true) (hxs : (xs.all fun y => (recsOf q).any fun e => e.name == y) = true) (hK : ∀ w : World, PySem.W.noTabs (K w.params) = true) (hn : l.most = some n) (hn2 : n ≤ sizeLine) (hdf : d.params.defaults = []) (hr : Room k callerA) (hY : ∀ (w : World) (h : Heap), YP w h → (K w.params).In h)
    (F : ∀ (w : World) (mg : Str → Option Value) (fa : Addr) (h : Heap), (K w.params).In h → h.Ns mainGlobals mg → mg d.name = some (.ref fa) → ∀ cs : List (Addr × Addr), Paired (TabF h mg) xs cs →
      ∃ fd : FuncData, (∀ (s : Shared) (u : Value), BindsTo s fd ⟨[u], []⟩ [(x, u)]) ∧ ∀ base : Heap, (K w.params).In base → base.Ns mainGlobals mg → (∃ mm, base.Ns sysModules mm) → (∀ p ∈ cs, TabB base mg p.1 p.2) → FnG l.prog w (K w.params) mg base CX k fa fd [x] (sp (K w.params) (cs.map (·.2))))
    (hsp : ∀ (K : PySem.W.Frag) (H : Hp) (a : Addr) (ns : List Int) (ps : List Addr), ns.length ≤ n → (∀ P ∈ ps, H P = some (.tbl #[])) → Scr K H a (ns.map V.int) → sp K ps [.ref a] H (fun v _ => v = .bl true) fun _ _ _ => False)
    (hCX : ∀ (H : Hp) (s : Shared) (e : Value) (s' : Shared), CX [] H s (fun _ _ _ => False) e s' → False) : PySem.W.WalkO q loose XP YP l.row.toRowW d [] (fun f vs => PySem.call f vs) := by
  refine Att.attach_call hn hdf fun w s₀ s₁ mg mb fa o pm cd doc a vs ns G Y ho hd hcd hmg hobj hints hlen hg => ?_
  have KX := hY w _ Y
  obtain ⟨mm, hmm, _⟩ := (G.T.seer hq).mods
  obtain ⟨cs, hcs, tabs⟩ : ∃ cs, Paired (TabF s₁.heap mg) xs cs ∧ ∀ p ∈ cs, PySem.W.CodeHd s₁.heap p.1 p.2 ∧ s₁.heap.get? p.2 = some (PySem.W.tabObj #[]) := by
    have all := List.all_eq_true.mp hxs
    clear hxs F
    induction xs with
    | nil => exact ⟨[], .nil, nofun⟩
    | cons y ys ih =>
      obtain ⟨cs, c1, c2⟩ := ih fun z hz => all z (List.mem_cons_of_mem _ hz)
      obtain ⟨e, he, hy⟩ := List.any_eq_true.mp (all y (List.mem_cons_self ..))
      obtain ⟨f, ob, fd, c, P, h1, h2, h3, h4, h5, h6⟩ := G.T.tab e he
      rw [beq_iff_eq.mp hy] at h1
      refine ⟨(c, P) :: cs, .cons ⟨f, ob, fd, h1, h2, h3, h4⟩ c1, fun p hp => ?_⟩
      rcases List.mem_cons.mp hp with rfl | hp
      · exact ⟨.of h5 h6, h6.2⟩
      · exact c2 p hp
  have nT : ∀ p ∈ cs, (K w.params).lookup p.2 = none := fun p hp => by
    cases e : (K w.params).lookup p.2 with
    | none => rfl
    | some ob =>
      have z := KX _ _ e
      rw [(tabs p hp).2] at z
      cases z
      have y := List.all_eq_true.mp (hK w) _ (PySem.W.mem_of_lookupK e)
      exact absurd (show false = true from y) Bool.false_ne_true
  obtain ⟨fd, hb, hF⟩ := F w mg fa _ KX G.T.g hmg cs hcs
  refine law_endT KX G.T.g G.T.b G.T.builtins G.T.nolimit hg G.T.bmain (fun p hp => (tabs p hp).2) nT (fun p hp => (tabs p hp).1) hobj hints (Nat.le_trans hlen hn2) hr ⟨mm, hmm⟩ hF hb (fun H hH hS => hsp _ H a ns _ hlen (fun P hP => ?_) hS) fun H e s' => hCX H s₁ e s'
  obtain ⟨p, hp, rfl⟩ := List.mem_map.mp hP
  exact hH p hp
end Ev

/-! ## Methods that may raise; lambdas; what a table's growth leaves -/
namespace Ev
open PySem PySem.Spec PyProof.Rows L2
open LamX (CodeO TabS Tabs ExtN TabB LamS lamCx lamEnv GivesTo tLam)
/-! ### promises for any stack -/
/-- a def that keeps a promise whatever stands around it, ready to be called (CX: what it lets out) -/
structure CalN (CX : CXT) (P : Program) (w : World) (K : PySem.W.Frag) (mg : Str → Option Value) (base : Heap) (k : Nat) (x : Str) (ps : List Str) (sp : Sp) : Prop where
  ex : ∃ (f : Addr) (fd : FuncData), FnOk P w K mg base CX k f fd ps sp ∧ Binds K fd ps [] ∧ mg x = some (.ref f) ∧ PySem.W.keepIn K (.ref f) = true
/-- a method that keeps a promise or raises -/
structure MCalX (P : Program) (w : World) (K : PySem.W.Frag) (mg : Str → Option Value) (base : Heap) (k : Nat) (C : Addr) (m : Str) (ps : List Str) (sp : Sp) : Prop where
  ex : ∃ (f : Addr) (fd : FuncData), FnOk P w K mg base (L2.CX P w) k f fd ps sp ∧ Binds K fd ps [] ∧ Meth K C m f
/-- a class whose __init__ keeps a promise or raises -/
structure KCalX (P : Program) (w : World) (K : PySem.W.Frag) (mg : Str → Option Value) (base : Heap) (k : Nat) (C : Addr) (x : Str) (ps : List Str) (sp : Sp) : Prop where
  ex : ∃ (f : Addr) (fd : FuncData), FnOk P w K mg base (L2.CX P w) k f fd ps sp ∧ Binds K fd ps [] ∧ Mk K C f ∧ mg x = some (.ref C)
section
variable {P : Program} {w : World} {K : PySem.W.Frag} {mg : Str → Option Value} {base : Heap} {x q : Str} {st : Stmt} {ps N : List Str} {sp : Sp} {k j : Nat} {C : Addr}
theorem CalN.cal (c : CalN CX0 P w K mg base k x ps sp) : Cal P w K mg base k x ps sp := by
  obtain ⟨f, fd, F, b, m, v⟩ := c.ex
  exact ⟨f, fd, .of F, b, m, v⟩
theorem fun_okX {f : Addr} {fd : FuncData} (F : Fun K x q st f fd) (S : FnScope N ps (defScope st)) (len : ∀ vs H Q E, sp vs H Q E → vs.length = ps.length)
    (walk : ∀ (cdv : Value) (A : Around) (outer : List Env) (s : Shared) (H : Hp) (vs : List V) (Q : VK) (E : XK), Room k (A.deeper (envOfC q (defScope st) s.heap.objs.size f cdv)) → sp vs H Q E →
      ∃ t, PSs (cxOf (L2.CX P w) P w K mg base N q (defScope st) f cdv A outer s H E) (defBody st) t ∧ t { nx := fun _ H' => Q .non H', rt := Q } (start N vs) H) : FnOk P w K mg base (L2.CX P w) (k + 1) f fd ps sp := by
  obtain ⟨oc, od, kV, doc, pm, an, cdv, ct, osl, e, lk, hcd⟩ := F.ex
  cases e
  exact fn_of lk hcd S len fun A outer s H vs Q E hr h => walk cdv A outer s H vs Q E hr h
theorem Def.okN (D : Def K mg x st ps) (S : FnScope N ps (defScope st)) (len : ∀ vs H Q E, sp vs H Q E → vs.length = ps.length)
    (walk : ∀ (f : Addr) (cdv : Value) (A : Around) (outer : List Env) (s : Shared) (H : Hp) (vs : List V) (Q : VK) (E : XK), Room k (A.deeper (envOfC x (defScope st) s.heap.objs.size f cdv)) → sp vs H Q E →
      ∃ t, PSs (cxOf (L2.CX P w) P w K mg base N x (defScope st) f cdv A outer s H E) (defBody st) t ∧ t { nx := fun _ H' => Q .non H', rt := Q } (start N vs) H) : CalN (L2.CX P w) P w K mg base (k + 1) x ps sp := by
  obtain ⟨f, fd, F, b, m⟩ := D.ex
  exact ⟨f, fd, fun_okX F S len (walk f), b, m, F.kp⟩
theorem MDef.okX (D : MDef K C x q st ps) (S : FnScope N ps (defScope st)) (len : ∀ vs H Q E, sp vs H Q E → vs.length = ps.length)
    (walk : ∀ (f : Addr) (cdv : Value) (A : Around) (outer : List Env) (s : Shared) (H : Hp) (vs : List V) (Q : VK) (E : XK), Room k (A.deeper (envOfC q (defScope st) s.heap.objs.size f cdv)) → sp vs H Q E →
      ∃ t, PSs (cxOf (L2.CX P w) P w K mg base N q (defScope st) f cdv A outer s H E) (defBody st) t ∧ t { nx := fun _ H' => Q .non H', rt := Q } (start N vs) H) : MCalX P w K mg base (k + 1) C x ps sp := by
  obtain ⟨f, fd, F, b, m⟩ := D.ex
  exact ⟨f, fd, fun_okX F S len (walk f), b, m⟩
end
section
variable {X : Cx} {k : Nat} {C : Addr} {ps : List Str} {sp : Sp} {m x : Str} {p pos apos : Pos} {e o : Expr} {es : List Expr} {ta : TE} {t : TA} {W : WX} {E : XK}
/-- f(e, ..) -/
theorem pcallN (c : CalN (L2.CX X.prog X.w) X.prog X.w X.K X.mg X.base k x ps sp) (hr : Room k X.A) (hg : Gl X x) (tk : Takes X W) (hW : ∀ cls d σ H, E cls d H → W cls d σ H) (ha : PA X (e :: es) t)
    (hdb : (x == ("__debug__" : Str)) = false := by decide) (he : starEach (e :: es) X.env = (false, eval e X.env) :: starEach es X.env := by rfl) (hpl : (backTo pos (starEach es X.env)).any (·.1) = false := by rfl) : PE X (.Call (.Name x p) (e :: es) [] pos) (tCall sp [] E t) := by
  obtain ⟨f, fd, F, b, hm, v⟩ := c.ex
  exact pe_call F hr hg hm v b .nil (passes_call tk hW) ha hdb he hpl
theorem pcallO (c : CalN CX0 X.prog X.w X.K X.mg X.base k x ps sp) (hr : Room k X.A) (hg : Gl X x) (ha : PA X (e :: es) t)
    (hdb : (x == ("__debug__" : Str)) = false := by decide) (he : starEach (e :: es) X.env = (false, eval e X.env) :: starEach es X.env := by rfl) (hpl : (backTo pos (starEach es X.env)).any (·.1) = false := by rfl) : PE X (.Call (.Name x p) (e :: es) [] pos) (tCall sp [] E0 t) := by
  obtain ⟨f, fd, F, b, hm, v⟩ := c.ex
  exact pe_call F hr hg hm v b .nil pass0 ha hdb he hpl
theorem pmethX {pl : Sem Bool} (M : MCalX X.prog X.w X.K X.mg X.base k C m ps sp) (c : Cls X.K C) (hr : Room k X.A) (tk : Takes X W) (hW : ∀ cls d σ H, E cls d H → W cls d σ H) (ho : PE X o ta) (ha : PA X (e :: es) t)
    (h1 : starEach (e :: es) X.env = (false, eval e X.env) :: starEach es X.env := by rfl) (h2 : (backTo pos (starEach es X.env)).any (·.1) = false := by rfl)
    (h3 : eval (.Call (.Attribute o m apos) (e :: es) [] pos) X.env = (do
      let v ← eval o X.env
      standAt apos.atName
      let (f, first) ← holding [v] (getMethod v m pl)
      callWith pos f first (backTo pos (starEach (e :: es) X.env)) (backToKw pos (keywordEach [] X.env))) := by rfl) : PE X (.Call (.Attribute o m apos) (e :: es) [] pos) (tMeth C m sp [] E ta t) := by
  obtain ⟨f, fd, F, hb, hm⟩ := M.ex
  exact pe_meth (pl := pl) ho c hm F hr hb .nil (passes_call tk hW) ha h1 h2 h3
theorem pmethX0 {pl : Sem Bool} (M : MCalX X.prog X.w X.K X.mg X.base k C m ps sp) (c : Cls X.K C) (hr : Room k X.A) (tk : Takes X W) (hW : ∀ cls d σ H, E cls d H → W cls d σ H) (ho : PE X o ta)
    (h3 : eval (.Call (.Attribute o m apos) [] [] pos) X.env = (do
      let v ← eval o X.env
      standAt apos.atName
      let (f, first) ← holding [v] (getMethod v m pl)
      callWith pos f first (backTo pos (starEach [] X.env)) (backToKw pos (keywordEach [] X.env))) := by rfl) : PE X (.Call (.Attribute o m apos) [] [] pos) (tMeth C m sp [] E ta tNil) := by
  obtain ⟨f, fd, F, hb, hm⟩ := M.ex
  exact pe_meth0 (pl := pl) ho c hm F hr hb .nil (passes_call tk hW) h3
theorem pmakeX (M : KCalX X.prog X.w X.K X.mg X.base k C x ps sp) (hr : Room (k + 1) X.A) (hg : Gl X x) (tk : Takes X W) (hW : ∀ cls d σ H, E cls d H → W cls d σ H) (ha : PA X (e :: es) t)
    (h0 : (x == ("__debug__" : Str)) = false := by decide) (h1 : starEach (e :: es) X.env = (false, eval e X.env) :: starEach es X.env := by rfl) (h2 : (backTo pos (starEach es X.env)).any (·.1) = false := by rfl) : PE X (.Call (.Name x p) (e :: es) [] pos) (tMake C sp [] E t) := by
  obtain ⟨f, fd, F, hb, mk, hm⟩ := M.ex
  exact pe_make mk F hr hg hm hb .nil (passes_call tk hW) ha h0 h1 h2
end
/-- what is taken need be taken from as many slots as there are alone -/
theorem takes_len {X : Cx} {W W' : WX} (t : Takes X W) (h : ∀ c d σ H, σ.length = X.N.length → W' c d σ H → W c d σ H) : Takes X W' := fun u s' ⟨a, B, sI, pins, σ, H, cls, d, e, I, r1, r2, r3, r4, r5, r6, w⟩ =>
  t u s' ⟨a, B, sI, pins, σ, H, cls, d, e, I, r1, r2, r3, r4, r5, r6, h _ _ _ _ I.len w⟩
/-! ### list.count of plain values -/
def rCntF (K : PySem.W.Frag) : V → List V → Hp → VK → Prop := fun x xs H Q => ∃ (p : Addr) (ys : List V) (y : V), x = .ref p ∧ xs = [y] ∧ SqL K H p ys ∧ flatV y = true ∧ ys.all flatV = true ∧ Q (.int (ys.countP fun z => eqV z y : Nat)) H
theorem countP_rel {y : V} : ∀ {us : List Value} {ys : List V}, Vals ys us → ys.all flatV = true → us.countP (eqU y) = ys.countP fun z => eqV z y
  | _, _, .nil, _ => rfl
  | _, _, .cons r t, f => by
    rw [List.all_cons, Bool.and_eq_true] at f
    rw [List.countP_cons, List.countP_cons, countP_rel t f.2, eqU_of r f.1]
theorem mt_lcountF {X : Cx} : MtR X "list.count" (rCntF X.K) := by
  intro pins s σ H x xs v us Q I rx rxs h
  obtain ⟨p, ys, y, rfl, rfl, hs, fy, fys, q⟩ := h
  cases rx
  obtain ⟨u, rfl, ru⟩ := rxs.one
  obtain ⟨its, rv, ⟨⟨cls, dd, data, sl⟩, n, ho, hc, hdn, hd⟩, hlen⟩ := I.list hs
  cases (show cls = _ from hc)
  cases (show data = _ from hd)
  refine call_meets PySem.F.slot_list_count ⟨_, ho, rfl⟩ PySem.F.entry_list_count (PySem.F.args_list_count_2 _ _)
    (SeqAt.list_countAt p its.toArray n dd sl u (eqU y)) ⟨ho, fun z hz => mem_eqAt ru fy rv fys z (by simpa using hz), ?_⟩
  refine ⟨.int (ys.countP fun z => eqV z y : Nat), H, I.tok _, ⟨s.toks, ?_⟩, q⟩
  show Value.int ((its.toArray.toList.countP (eqU y) : Nat) : Int) s.toks = _
  rw [show its.toArray.toList = its from rfl, countP_rel rv fys]
/-! ### a lambda handed to a def of the module -/
def tLam1 (Pt : Addr) (q : Str) (TT : (XK → Hp → VK → Prop) → Hp → VK → Prop) (t : XK → TE) : TE := fun σ H Q => TabS H Pt q ∧ ∀ H1, ExtN H H1 → TabS H1 Pt q → TT (fun E H' Q' => t E σ H' Q') H1 Q
/-- x(lambda: body), x a def of one parameter -/
theorem pe_lamD {X : Cx} {TT : (XK → Hp → VK → Prop) → Hp → VK → Prop} {x a q : Str} {st : Stmt} {c Pt : Addr} {k : Nat} {Ng : List Str} {params : Arguments} {body : Expr} {scope : Scope} {t : XK → TE} {p lpos pos : Pos} (D : Def X.K X.mg x st [a]) (hg : Gl X x) (Sg : FnScope Ng [a] (defScope st)) (hNg : Ng[0]? = some a) (hva : Vis (defScope st) a)
    (hG : ∀ g cdg, GivesTo X Ng x (defScope st) g cdg (defBody st) a q TT) (TB : TabB X.base X.mg c Pt) (hcode : X.env.code = .ref c) (hr : Room (k + 2) X.A) (L : LamS X.env.scope scope) (hq : X.env.qual ++ "<lambda>" = q) (hdef : defaultsOf params X.env = ([], []))
    (hbind : ∀ (q : Str) (cl : List (Str × Addr)) (pm cv ctv : Value), bindArgs (PySem.W.kla_fn "<lambda>" q params body scope cl pm cv ctv) ⟨[], []⟩ = pure [])
    (hbody : ∀ (A : Around) (outer : List Env) (s : Shared) (H : Hp) (E : XK) (f c' : Addr), Room k (A.deeper (lamEnv X scope s.heap.objs.size f c')) → PE (lamCx X A outer s H E scope f c') body (t E))
    (hdb : (x == ("__debug__" : Str)) = false := by decide) (hd : (a == ("__debug__" : Str)) = false := by decide) (hcd : (a == ("__classdict__" : Str)) = false := by decide) : PE X (.Call (.Name x p) [.Lambda params body scope lpos] [] pos) (tLam1 Pt q TT t) := by
  obtain ⟨g, fd, F, b, m⟩ := D.ex
  obtain ⟨oc, od, kV, doc, pm, an, cdv, ct, osl, e, lk, hcdv⟩ := id F.ex
  cases e
  subst hq
  have z : PE X (.Call (.Name x p) [.Lambda params body scope lpos] [] pos) (tLam [(Pt, X.env.qual ++ "<lambda>")] TT t) :=
    LamX.pe_lamcall hg m F.kp lk hcdv b Sg hNg hva (hG g cdv) TB hcode (List.mem_singleton.mpr rfl) (fun r hr _ => by rw [List.mem_singleton.mp hr]) hr L hdef hbind hbody hdb hd hcd
  refine ⟨fun pins s σ H Q I h => z.run pins s σ H Q I ⟨fun r hr => ?_, fun H1 e1 t1 => h.2 H1 e1 (t1 _ (List.mem_singleton.mpr rfl))⟩⟩
  rw [List.mem_singleton.mp hr]
  exact h.1
end Ev

/-! ## defs that may be called within a lambda: no word of guards -/
namespace Ev
open PySem PySem.Spec PyProof.Rows L2
section
variable {P : Program} {w : World} {K : PySem.W.Frag} {mg : Str → Option Value} {base : Heap} {x : Str} {st : Stmt} {ps N : List Str} {sp sp' : Sp} {k j : Nat}
theorem Def.okO (D : Def K mg x st ps) (S : FnScope N ps (defScope st)) (len : ∀ vs H Q E, sp vs H Q E → vs.length = ps.length)
    (hbody : ∀ (f : Addr) (cdv : Value) (A : Around) (outer : List Env) (s : Shared) (H : Hp) (vs : List V) (Q : VK) (E : XK),
      Room k (A.deeper (envOfC x (defScope st) s.heap.objs.size f cdv)) → sp vs H Q E →
      ∃ t, PSs (cxOf CX0 P w K mg base N x (defScope st) f cdv A outer s H E).nox (defBody st) t ∧
        t { nx := fun _ H' => Q .non H', rt := Q } (start N vs) H) : CalN CX0 P w K mg base (k + 1) x ps sp := by
  obtain ⟨f, fd, F, b, m⟩ := D.ex
  exact ⟨f, fd, F.ok S len fun cdv A outer s H vs Q E hr h => hbody f cdv A outer s H vs Q E hr h, b, m, F.kp⟩
theorem no_calO (D : Def K mg x st ps) : CalN CX0 P w K mg base k x ps (fun _ _ _ _ => False) := by
  obtain ⟨f, fd, F, b, m⟩ := D.ex
  exact ⟨f, fd, no_fn, b, m, F.kp⟩
theorem CalN.of0 {f : Addr} {fd : FuncData} (F : FnOk P w K mg base CX0 k f fd ps sp) (b : Binds K fd ps []) (m : mg x = some (.ref f)) (v : PySem.W.keepIn K (.ref f) = true) : CalN CX0 P w K mg base k x ps sp := ⟨f, fd, F, b, m, v⟩
theorem CalN.imp {CX : CXT} (C : CalN CX P w K mg base k x ps sp) (h : ∀ vs H Q E, sp' vs H Q E → sp vs H Q E) : CalN CX P w K mg base k x ps sp' := by
  obtain ⟨f, fd, F, b, m, v⟩ := C.ex
  exact ⟨f, fd, F.imp h, b, m, v⟩
end
end Ev

/-! ## first, *others = a list -/
namespace Ev
open PySem PySem.Spec PyProof.Rows L2
section
variable {prog : Program} {w : World} {A : Around} {E : Value → Shared → Prop} {s : Shared}
/-- the first item and a new list of all the others -/
theorem un_star {l : Addr} {its : Array Value} {v : Value} {vs : List Value} {Q : List Value → Shared → Prop} (hh : A.handled = none) (hl : s.heap.IsList l its) (hz : its.size ≤ sizeLine) (hv : its.toList = v :: vs)
    (hQ : ∀ (h2 : Heap) (tk : Nat), (∀ b o, s.heap.get? b = some o → h2.get? b = some o) → Q [v, .ref h2.objs.size] { s with heap := h2.push { cls := .type "list", data := .seq vs.toArray }, toks := tk }) :
    wpAny (model prog w) A (unpackItems (.ref l) 2 (some 1)) Q E s := by
  have hsz : its.size = vs.length + 1 := by rw [← Array.length_toList, hv]; rfl
  have hll : l < s.heap.objs.size := by
    obtain ⟨o, e, _⟩ := hl
    exact Heap.lt_size e
  have ne : l ≠ s.heap.objs.size := Nat.ne_of_lt hll
  unfold unpackItems notIterableAtAll
  refine wpAny_bind (wpAny_bind (wpAny_specialOf hl.typeIs PySem.F.slot_list_iter.lookup (wpAny_pure ?_)))
  dsimp only
  refine wpAny_bind (wpAny_holding (wpAny_pyIter_list hl ?_))
  refine wpAny_bind (wpAny_holding (PySem.W.kun_draw (l := l) (items := its) ne 1 0 _ _ ⟨_, Heap.get?_push_size _ rfl, rfl, rfl⟩ (hl.push _) (by omega) fun h1 i1 s1 => ?_))
  have l1 : h1.IsList l its := (hl.push _).extBut s1.extBut ne
  have k1 : ∀ b o, s.heap.get? b = some o → h1.get? b = some o := fun b o e => s1.extBut b o (Nat.ne_of_lt (Heap.lt_size e)) (Heap.get?_push_of_some _ e)
  have e1 : (its.toList.drop 0).take 1 = [v] := by rw [hv]; rfl
  rw [e1]
  dsimp only [List.length_cons, List.length_nil]
  rw [if_neg (by decide)]
  obtain ⟨oi, ei, di⟩ := i1
  obtain ⟨ol, el, dl⟩ := l1
  refine wpAny_bind (wpAny_holding (PySem.W.kun_collect (s := { s with heap := h1 }) (T := "list_iterator") (k := 1) (.inr (.inr (.inl rfl))) (Walks.list (A := A.in1) hh s.heap.objs.size l ne its) (fun j u st => st.1.typeIs) (by omega) ⟨⟨oi, ei, di⟩, ⟨ol, el, dl⟩⟩ (Heap.lt_size ei) (Heap.lt_size el) (fun h2 tk k2 => ?_) hz))
  have e2 : its.toList.drop 1 = vs := by rw [hv]; rfl
  rw [e2]
  dsimp only
  rw [if_neg (by omega)]
  have e3 : vs.take (vs.length - (2 - 1 - 1)) = vs := by rw [show vs.length - (2 - 1 - 1) = vs.length by omega, List.take_length]
  have e4 : vs.drop (vs.length - (2 - 1 - 1)) = [] := by rw [show vs.length - (2 - 1 - 1) = vs.length by omega, List.drop_length]
  rw [e3, e4]
  have k3 : ∀ b o, s.heap.get? b = some o → h2.get? b = some o := fun b o e => k2 b o (Nat.ne_of_lt (Heap.lt_size e)) (k1 b o e)
  refine wpAny_bind (wpAny_newList (wpAny_pure ?_) (by omega))
  exact hQ h2 tk k3
end
def gStarL (K : PySem.W.Frag) (t : TGs) : TG := fun v σ H Q => ∃ a x xs, v = .ref a ∧ SqL K H a (x :: xs) ∧ ∀ l, H l = none → t [x, .ref l] σ (upd H l (.lst xs)) Q
section
variable {X : Cx} {pos : Pos}
theorem pg_starL {es : List Expr} {k : Nat} {t : TGs} (hc : X.calm = true) (h : PGs X es t)
    (hn : (assignEach es X.env).length = 2 := by rfl) (hst : (assignEach es X.env).findIdx? (·.1) = some 1 := by rfl) : PG X (.Tuple es k pos) (gStarL X.K t) := by
  refine ⟨fun pins s σ H v u Q I r hw => ?_⟩
  obtain ⟨a, x, xs, e1, hq, hw⟩ := hw
  subst e1
  cases r
  obtain ⟨its, rv, pl, hz⟩ := I.list hq
  cases rv with
  | cons r0 rv =>
    rename_i u0 us
    rw [PyProof.Rows.assign_Tuple]
    refine wpAny_bind (wpAny_standAt ?_)
    unfold unpack
    rw [hn, hst]
    have hl := rv.length
    refine wpAny_bind (wpAny_holding (un_star (v := u0) (vs := us) (I.ok.hd hc) pl.isList (by
      rw [List.size_toArray, List.length_cons, ← hl]
      exact hz) (by simp) fun h2 tk kp => ?_))
    have I1 : Inv X pins σ H { s with heap := h2, toks := tk } := I.kept kp
    have I2 : Inv X pins σ (upd H h2.objs.size (.lst xs)) { s with heap := h2.push { cls := .type "list", data := .seq us.toArray }, toks := tk } :=
      I1.laid (fun b o e => Heap.get?_push_of_some _ e) (Nat.le_refl _) (show ObjOk X.prog X.w _ _ _ (.lst xs) from ⟨by
        rw [List.length_cons] at hz
        omega, us, 0, rv, Heap.get?_push_size _ rfl⟩)
    exact h.run pins _ σ _ _ _ Q I2 (.cons r0 (.cons (show RelV (V.ref h2.objs.size) (Value.ref h2.objs.size) from rfl) .nil)) (hw _ (I1.hok.fresh (Nat.le_refl _)))
theorem pgs_starS {e : Expr} {es : List Expr} {p : Pos} {t : TG} {u : TGs} (h1 : PG X e t) (h2 : PGs X es u)
    (hs : (assignEach (.Starred e p :: es) X.env).map (·.2) = assign e X.env :: (assignEach es X.env).map (·.2) := by rfl) : PGs X (.Starred e p :: es) (gCons t u) := by
  refine ⟨fun pins s σ H vs us Q I r h => ?_⟩
  obtain ⟨v, vr, rfl, h⟩ := h
  cases r with
  | cons r rr =>
    rw [hs]
    exact assignInOrder_cons (thn (h1.run pins s σ H _ _ _ I r h) fun _ s1 ⟨σ1, H1, I1, q1⟩ => h2.run pins s1 σ1 H1 _ _ Q I1 rr q1)
end
end Ev

/-! ## Defs called by keywords alone, in the order from the last one -/
namespace Ev
open PySem PySem.Spec PyProof.Rows L2
structure CalR (P : Program) (w : World) (K : PySem.W.Frag) (mg : Str → Option Value) (base : Heap) (k : Nat) (x : Str) (ps : List Str) (sp : Sp) : Prop where
  ex : ∃ (f : Addr) (fd : FuncData), FnG P w K mg base CX0 k f fd ps sp ∧ (∀ (s : Shared) (us : List Value), us.length = ps.length → BindsTo s fd ⟨[], ps.reverse.zip us⟩ (ps.zip us.reverse)) ∧ mg x = some (.ref f) ∧ PySem.W.keepIn K (.ref f) = true
def tCallR (n : Nat) (sp : Sp) (tk : TA) : TE := fun σ H Q => tk σ H fun zs H2 => zs.length = n ∧ sp zs.reverse H2 Q E0
section
variable {P : Program} {w : World} {K : PySem.W.Frag} {mg : Str → Option Value} {base : Heap} {x : Str} {st : Stmt} {ps N : List Str} {sp : Sp} {k j : Nat}
theorem Def.okR (D : Def K mg x st ps) (S : FnScope N ps (defScope st)) (len : ∀ vs H Q E, sp vs H Q E → vs.length = ps.length)
    (hbody : ∀ (f : Addr) (cdv : Value) (A : Around) (outer : List Env) (s : Shared) (H : Hp) (vs : List V) (Q : VK) (E : XK),
      Room k (A.deeper (envOfC x (defScope st) s.heap.objs.size f cdv)) → A.guards = some [] → sp vs H Q E →
      ∃ t, PSs (cxOf CX0 P w K mg base N x (defScope st) f cdv A outer s H E).nox (defBody st) t ∧
        t { nx := fun _ H' => Q .non H', rt := Q } (start N vs) H)
    (hb : ∀ (kV doc pm : Value) (an : Option Addr) (cdv ct : Value) (us : List Value), us.length = ps.length → bindArgs (PySem.W.fnOf x x (defArgs st) (defBody st) (defScope st) .none kV doc pm an cdv ct) ⟨[], ps.reverse.zip us⟩ = pure (ps.zip us.reverse)) : CalR P w K mg base (k + 1) x ps sp := by
  obtain ⟨f, fd, F, b, m⟩ := D.ex
  have F0 := F
  obtain ⟨oc, od, kV, doc, pm, an, cdv, ct, osl, rfl, lk, hcd⟩ := F.ex
  exact ⟨f, _, okG F0 S len (hbody f), fun s us hl => .of_eq (hb kV doc pm an cdv ct us hl), m, F0.kp⟩
end
section
variable {X : Cx} {k : Nat} {ps : List Str} {sp : Sp} {x : Str} {p pos : Pos} {kws : List Keyword} {tk : TA}
theorem pcallR (C : CalR X.prog X.w X.K X.mg X.base k x ps sp) (hr : Room k X.A) (gd : X.A.guards = some []) (hg : Gl X x) (hkw : PK X kws tk)
    (hall : (backToKw pos (keywordEach kws X.env)).all (·.1.isSome) = true := by rfl) (hks : (backToKw pos (keywordEach kws X.env)).filterMap (·.1) = ps.reverse := by rfl) (hdb : (x == ("__debug__" : Str)) = false := by decide)
    (hpl : ((backTo pos (starEach [] X.env)).any (·.1) || (backToKw pos (keywordEach kws X.env)).any (·.1.isNone)) = false := by rfl) :
    PE X (.Call (.Name x p) [] kws pos) (tCallR ps.length sp tk) := by
  obtain ⟨f, fd, F, hb, hm, hk⟩ := C.ex
  refine ⟨fun pins s σ H Q I h => ?_⟩
  refine wpAny_Call_Name_kw (ld_glob I hg hm ?_ hdb)
  refine PySem.W.callWith_KW0 (h₀ := X.base) I.ok.mod.kin hk hall ?_ hpl
  refine thn (hkw.run pos pins s σ H _ I h) fun ws s2 ⟨zs, H2, I2, rz, l1, q2⟩ => ⟨I2.kIn, ?_⟩
  rw [hks]
  have hl : ws.length = ps.length := rz.length.symm.trans l1
  have z := F.go X.A X.stack s2 H2 ⟨[], ps.reverse.zip ws⟩ ws.reverse zs.reverse Q E0 hr gd I2.env0 (hb s2 ws hl) rz.reverse q2
  refine wpAny_call (codeAny_mono z fun res s' hq => ?_)
  match res, hq with
  | .error e, hq => exact pass0 pins σ H2 s2 e s' I2 hq
  | .ok (.ret u), hq => exact I2.after hq
  | .ok .next, hq => exact False.elim hq
  | .ok .brk, hq => exact False.elim hq
  | .ok .cont, hq => exact False.elim hq
end
end Ev

/-! ## A def that may raise, where it doesn't -/
namespace Ev
open PySem PySem.Spec PyProof.Rows L2
section
variable {P : Program} {w : World} {K : PySem.W.Frag} {mg : Str → Option Value} {base : Heap} {x : Str} {ps : List Str} {sp sp' : Sp} {k : Nat} {f : Addr} {fd : FuncData}
theorem tame_fn (F : FnOk P w K mg base (L2.CX P w) k f fd ps sp) (h : ∀ vs H Q E, sp' vs H Q E → sp vs H Q (fun _ _ _ => False)) : FnOk P w K mg base CX0 k f fd ps sp' :=
  ⟨fun vs H Q E q => F.len vs H Q _ (h _ _ _ _ q), fun A outer s H args us vs Q E hr he hb hv hs => codeAny_mono (F.run A outer s H args us vs Q _ hr he hb hv (h _ _ _ _ hs)) fun res s' hq => by
    match res, hq with
    | .error e, hq =>
      obtain ⟨_, _, _, _, _, _, _, _, _, _, _, _, no⟩ := hq
      exact no.elim
    | .ok (.ret u), hq => exact hq
    | .ok .next, hq => exact hq
    | .ok .brk, hq => exact hq
    | .ok .cont, hq => exact hq⟩
theorem CalN.tame (C : CalN (L2.CX P w) P w K mg base k x ps sp) (h : ∀ vs H Q E, sp' vs H Q E → sp vs H Q (fun _ _ _ => False)) : Cal P w K mg base k x ps sp' := by
  obtain ⟨f, fd, F, b, m, v⟩ := C.ex
  exact ⟨f, fd, .of (tame_fn F h), b, m, v⟩
theorem CalN.tameN (C : CalN (L2.CX P w) P w K mg base k x ps sp) (h : ∀ vs H Q E, sp' vs H Q E → sp vs H Q (fun _ _ _ => False)) : CalN CX0 P w K mg base k x ps sp' := by
  obtain ⟨f, fd, F, b, m, v⟩ := C.ex
  exact ⟨f, fd, tame_fn F h, b, m, v⟩
end
end Ev

/-! ## f(e, *y), f a local that holds a def; methods and classes called by keywords -/
namespace Ev
open PySem PySem.Spec PyProof.Rows L2
/-- the def at f, called with items from a star, keeps sp -/
structure StarF (P : Program) (w : World) (K : PySem.W.Frag) (mg : Str → Option Value) (base : Heap) (k : Nat) (f : Addr) (sp : Sp) : Prop where
  ex : ∃ (fd : FuncData) (ps : List Str), FnOk P w K mg base CX0 k f fd ps sp ∧ Binds K fd ps [] ∧ PySem.W.keepIn K (.ref f) = true
theorem CalN.star {P : Program} {w : World} {K : PySem.W.Frag} {mg : Str → Option Value} {base : Heap} {j k : Nat} {x : Str} {ps : List Str} {sp : Sp} {f : Addr} (C : CalN CX0 P w K mg base j x ps sp) (h : j ≤ k) (m : mg x = some (.ref f)) : StarF P w K mg base k f sp := by
  obtain ⟨f', fd, G, b, m', v⟩ := C.ex
  rw [m] at m'
  cases m'
  exact ⟨fd, ps, G.mono h, b, v⟩
/-- the slot holds f, what f is asked for is S f -/
def tCallStar (i : Nat) (S : Addr → Sp → Prop) (t : TA) : TE := fun σ H Q => ∃ f sp, σ[i]? = some (some (.ref f)) ∧ S f sp ∧ t σ H fun vs H1 => sp vs H1 Q E0
section
variable {X : Cx} {k i : Nat} {x : Str} {p pos : Pos} {e : Expr} {es : List Expr} {t : TA} {S : Addr → Sp → Prop}
theorem pe_callStar (A : ∀ f sp, S f sp → StarF X.prog X.w X.K X.mg X.base k f sp) (hr : Room k X.A) (hN : X.N[i]? = some x) (hv : Vis X.env.scope x) (ha : PA X (e :: es) t)
    (hdb : (x == ("__debug__" : Str)) = false := by decide) (hcd : (x == ("__classdict__" : Str)) = false := by decide)
    (he : starEach (e :: es) X.env = (false, eval e X.env) :: starEach es X.env := by rfl) (hst : (backTo pos (starEach es X.env)).any (·.1) = true := by rfl) : PE X (.Call (.Name x p) (e :: es) [] pos) (tCallStar i S t) := by
  refine ⟨fun pins s σ H Q I h => ?_⟩
  obtain ⟨f, sp, hs, hS, ht⟩ := h
  obtain ⟨fd, ps, F, hb, hk⟩ := (A f sp hS).ex
  refine wpAny_Call_Name_kw (thn ((pe_var (pos := p) hN hv hdb hcd).run pins s σ H (fun v H1 => v = .ref f ∧ H1 = H) I ⟨.ref f, hs, rfl, rfl⟩) fun u s1 ⟨v, H1, I1, r1, q1⟩ => ?_)
  obtain ⟨rfl, rfl⟩ := q1
  cases r1
  refine PySem.W.callWith_S2 (h₀ := X.base) I.ok.mod.kin hk (thn (ha.run pos pins s1 σ _ _ I1 ht) fun us s2 ⟨vs, H2, I2, r, q⟩ => ⟨I2.kIn, ?_⟩) he hst
  have len := F.len _ _ _ _ q
  have z := F.run X.A X.stack s2 H2 ⟨us, []⟩ us vs Q E0 hr I2.env0 (by have b := hb s2 us I2.kIn (by rw [List.append_nil, ← r.length, len]); rw [List.append_nil] at b; exact b) r q
  show wpAny (model X.prog X.w) X.A (call (.ref f) us) (EP X pins σ Q) X.xe s2
  refine wpAny_call (codeAny_mono z fun res s' hq => ?_)
  match res, hq with
  | .error e, hq => exact pass0 pins σ H2 s2 e s' I2 hq
  | .ok (.ret u), hq => exact I2.after hq
  | .ok .next, hq => exact False.elim hq
  | .ok .brk, hq => exact False.elim hq
  | .ok .cont, hq => exact False.elim hq
end
/-! ### o.m(k = v, ..) and C(k = v, ..), from the last parameter on -/
/-- a method that takes its arguments by name, in the order from the last one -/
structure MCalR (P : Program) (w : World) (K : PySem.W.Frag) (mg : Str → Option Value) (base : Heap) (k : Nat) (C : Addr) (m : Str) (ps : List Str) (sp : Sp) : Prop where
  ex : ∃ (f : Addr) (fd : FuncData), FnOk P w K mg base CX0 k f fd ("self" :: ps) sp ∧ (∀ (s : Shared) (o : Value) (us : List Value), us.length = ps.length → BindsTo s fd ⟨[o], ps.reverse.zip us⟩ (("self", o) :: ps.zip us.reverse)) ∧ Meth K C m f
structure KCalR (P : Program) (w : World) (K : PySem.W.Frag) (mg : Str → Option Value) (base : Heap) (k : Nat) (C : Addr) (x : Str) (ps : List Str) (sp : Sp) : Prop where
  ex : ∃ (f : Addr) (fd : FuncData), FnOk P w K mg base CX0 k f fd ("self" :: ps) sp ∧ (∀ (s : Shared) (o : Value) (us : List Value), us.length = ps.length → BindsTo s fd ⟨[o], ps.reverse.zip us⟩ (("self", o) :: ps.zip us.reverse)) ∧ Mk K C f ∧ mg x = some (.ref C)
section
variable {P : Program} {w : World} {K : PySem.W.Frag} {mg : Str → Option Value} {base : Heap} {x q : Str} {st : Stmt} {ps N : List Str} {sp : Sp} {k j : Nat} {C : Addr}
/-- how a def binds names given from the last on -/
def BindsR (st : Stmt) (m q : Str) (ps : List Str) : Prop := ∀ (kV doc pm : Value) (an : Option Addr) (cdv ct : Value) (o : Value) (us : List Value), us.length = ps.length → bindArgs (PySem.W.fnOf m q (defArgs st) (defBody st) (defScope st) .none kV doc pm an cdv ct) ⟨[o], ps.reverse.zip us⟩ = pure ((("self" : Str), o) :: ps.zip us.reverse)
theorem MDef.okR (D : MDef K C x q st (("self" : Str) :: ps)) (S : FnScope N (("self" : Str) :: ps) (defScope st)) (len : ∀ vs H Q E, sp vs H Q E → vs.length = ps.length + 1)
    (hbody : ∀ (f : Addr) (cdv : Value) (A : Around) (outer : List Env) (s : Shared) (H : Hp) (vs : List V) (Q : VK) (E : XK),
      Room k (A.deeper (envOfC q (defScope st) s.heap.objs.size f cdv)) → sp vs H Q E →
      ∃ t, PSs (cxOf CX0 P w K mg base N q (defScope st) f cdv A outer s H E).nox (defBody st) t ∧
        t { nx := fun _ H' => Q .non H', rt := Q } (start N vs) H) (hb : BindsR st x q ps) : MCalR P w K mg base (k + 1) C x ps sp := by
  obtain ⟨f, fd, F, b, m⟩ := D.ex
  have F0 := F
  obtain ⟨oc, od, kV, doc, pm, an, cdv, ct, osl, rfl, lk, hcd⟩ := F.ex
  exact ⟨f, _, F0.ok S len (hbody f), fun s o us hl => .of_eq (hb kV doc pm an cdv ct o us hl), m⟩
theorem MCalR.of {f : Addr} {fd : FuncData} (F : Fun K x q st f fd) (G : FnOk P w K mg base CX0 k f fd ("self" :: ps) sp) (m : Meth K C x f) (hb : BindsR st x q ps) : MCalR P w K mg base k C x ps sp := by
  obtain ⟨oc, od, kV, doc, pm, an, cdv, ct, osl, rfl, lk, hcd⟩ := F.ex
  exact ⟨f, _, G, fun s o us hl => .of_eq (hb kV doc pm an cdv ct o us hl), m⟩
theorem KCalR.of {f : Addr} {fd : FuncData} (F : Fun K "__init__" q st f fd) (G : FnOk P w K mg base CX0 k f fd ("self" :: ps) sp) (mk : Mk K C f) (m : mg x = some (.ref C)) (hb : BindsR st "__init__" q ps) : KCalR P w K mg base k C x ps sp := by
  obtain ⟨oc, od, kV, doc, pm, an, cdv, ct, osl, rfl, lk, hcd⟩ := F.ex
  exact ⟨f, _, G, fun s o us hl => .of_eq (hb kV doc pm an cdv ct o us hl), mk, m⟩
/-- a method that may be called both ways -/
structure MCalB (P : Program) (w : World) (K : PySem.W.Frag) (mg : Str → Option Value) (base : Heap) (k : Nat) (C : Addr) (m q : Str) (st : Stmt) (ps : List Str) (sp : Sp) : Prop where
  ex : ∃ (f : Addr) (fd : FuncData), FnOk P w K mg base CX0 k f fd ("self" :: ps) sp ∧ Fun K m q st f fd ∧ Binds K fd ("self" :: ps) [] ∧ Meth K C m f
theorem MCalB.cal (M : MCalB P w K mg base k C x q st ps sp) : MCal P w K mg base k C x ("self" :: ps) sp := by
  obtain ⟨f, fd, G, F, b, m⟩ := M.ex
  exact ⟨f, fd, G, b, m⟩
theorem MCalB.kw (M : MCalB P w K mg base k C x q st ps sp) (hb : BindsR st x q ps) : MCalR P w K mg base k C x ps sp := by
  obtain ⟨f, fd, G, F, b, m⟩ := M.ex
  exact .of F G m hb
theorem MCalB.up (M : MCalB P w K mg base j C x q st ps sp) (h : j ≤ k) : MCalB P w K mg base k C x q st ps sp := by
  obtain ⟨f, fd, G, F, b, m⟩ := M.ex
  exact ⟨f, fd, G.mono h, F, b, m⟩
theorem MDef.okMB (D : MDef K C x q st (("self" : Str) :: ps)) (S : FnScope N (("self" : Str) :: ps) (defScope st)) (len : ∀ vs H Q E, sp vs H Q E → vs.length = ps.length + 1)
    (hbody : ∀ (f : Addr) (cdv : Value) (A : Around) (outer : List Env) (s : Shared) (H : Hp) (vs : List V) (Q : VK) (E : XK),
      Room k (A.deeper (envOfC q (defScope st) s.heap.objs.size f cdv)) → sp vs H Q E →
      ∃ t, PSs (cxOf CX0 P w K mg base N q (defScope st) f cdv A outer s H E).nox (defBody st) t ∧
        t { nx := fun _ H' => Q .non H', rt := Q } (start N vs) H) : MCalB P w K mg base (k + 1) C x q st ps sp := by
  obtain ⟨f, fd, F, b, m⟩ := D.ex
  exact ⟨f, fd, F.ok S len (hbody f), F, b, m⟩
/-- a def that may be called both ways, without a word of guards -/
structure CalBX (CX : CXT) (P : Program) (w : World) (K : PySem.W.Frag) (mg : Str → Option Value) (base : Heap) (k : Nat) (x : Str) (st : Stmt) (ps : List Str) (sp : Sp) : Prop where
  ex : ∃ (f : Addr) (fd : FuncData), FnOk P w K mg base CX k f fd ps sp ∧ Fun K x x st f fd ∧ Binds K fd ps [] ∧ mg x = some (.ref f)
theorem CalBX.cal {CX : CXT} (C : CalBX CX P w K mg base k x st ps sp) : CalN CX P w K mg base k x ps sp := by
  obtain ⟨f, fd, G, F, b, m⟩ := C.ex
  exact ⟨f, fd, G, b, m, F.kp⟩
theorem CalBX.tame {sp' : Sp} (C : CalBX (L2.CX P w) P w K mg base k x st ps sp) (h : ∀ vs H Q E, sp' vs H Q E → sp vs H Q (fun _ _ _ => False)) : CalBX CX0 P w K mg base k x st ps sp' := by
  obtain ⟨f, fd, G, F, b, m⟩ := C.ex
  exact ⟨f, fd, tame_fn G h, F, b, m⟩
theorem CalBX.kw (C : CalBX CX0 P w K mg base k x st ps sp)
    (hb : ∀ (kV doc pm : Value) (an : Option Addr) (cdv ct : Value) (us : List Value), us.length = ps.length → bindArgs (PySem.W.fnOf x x (defArgs st) (defBody st) (defScope st) .none kV doc pm an cdv ct) ⟨[], ps.reverse.zip us⟩ = pure (ps.zip us.reverse)) : CalR P w K mg base k x ps sp := by
  obtain ⟨f, fd, G, F, b, m⟩ := C.ex
  have F0 := F
  obtain ⟨oc, od, kV, doc, pm, an, cdv, ct, osl, rfl, lk, hcd⟩ := F.ex
  exact ⟨f, _, .of G, fun s us hl => .of_eq (hb kV doc pm an cdv ct us hl), m, F0.kp⟩
theorem Def.okBO (D : Def K mg x st ps) (S : FnScope N ps (defScope st)) (len : ∀ vs H Q E, sp vs H Q E → vs.length = ps.length)
    (hbody : ∀ (f : Addr) (cdv : Value) (A : Around) (outer : List Env) (s : Shared) (H : Hp) (vs : List V) (Q : VK) (E : XK),
      Room k (A.deeper (envOfC x (defScope st) s.heap.objs.size f cdv)) → sp vs H Q E →
      ∃ t, PSs (cxOf CX0 P w K mg base N x (defScope st) f cdv A outer s H E).nox (defBody st) t ∧
        t { nx := fun _ H' => Q .non H', rt := Q } (start N vs) H) : CalBX CX0 P w K mg base (k + 1) x st ps sp := by
  obtain ⟨f, fd, F, b, m⟩ := D.ex
  exact ⟨f, fd, F.ok S len fun cdv A outer s H vs Q E hr h => hbody f cdv A outer s H vs Q E hr h, F, b, m⟩
theorem Def.okBN (D : Def K mg x st ps) (S : FnScope N ps (defScope st)) (len : ∀ vs H Q E, sp vs H Q E → vs.length = ps.length)
    (walk : ∀ (f : Addr) (cdv : Value) (A : Around) (outer : List Env) (s : Shared) (H : Hp) (vs : List V) (Q : VK) (E : XK), Room k (A.deeper (envOfC x (defScope st) s.heap.objs.size f cdv)) → sp vs H Q E →
      ∃ t, PSs (cxOf (L2.CX P w) P w K mg base N x (defScope st) f cdv A outer s H E) (defBody st) t ∧ t { nx := fun _ H' => Q .non H', rt := Q } (start N vs) H) : CalBX (L2.CX P w) P w K mg base (k + 1) x st ps sp := by
  obtain ⟨f, fd, F, b, m⟩ := D.ex
  exact ⟨f, fd, fun_okX F S len (walk f), F, b, m⟩
theorem MCalR.up (M : MCalR P w K mg base j C x ps sp) (h : j ≤ k) : MCalR P w K mg base k C x ps sp := by
  obtain ⟨f, fd, F, b, m⟩ := M.ex
  exact ⟨f, fd, F.mono h, b, m⟩
end
def tMethR2 (C : Addr) (m : Str) (n : Nat) (sp : Sp) (ta : TE) (tk : TA) : TE := fun σ H Q => ta σ H fun x H1 => ∃ a dx fs, x = .ref a ∧ H1 a = some (.ins C dx fs) ∧ fs.lookup m = none ∧ tk σ H1 fun zs H2 => zs.length = n ∧ sp (x :: zs.reverse) H2 Q E0
def tMakeR (C : Addr) (n : Nat) (sp : Sp) (tk : TA) : TE := fun σ H Q => tk σ H fun zs H2 => zs.length = n ∧ ∀ x dx, H2 x = none → H2 dx = none → dx ≠ x → sp (.ref x :: zs.reverse) (upd (upd H2 dx (.own x)) x (.ins C dx [])) (fun v H3 => v = .non ∧ Q (.ref x) H3) E0
section
variable {X : Cx} {k : Nat} {C : Addr} {ps : List Str} {sp : Sp} {x m : Str} {p pos apos : Pos} {o : Expr} {kws : List Keyword} {ta : TE} {tk : TA}
theorem pmethR {pl : Sem Bool} (M : MCalR X.prog X.w X.K X.mg X.base k C m ps sp) (c : Cls X.K C) (hr : Room k X.A) (ho : PE X o ta) (hkw : PK X kws tk)
    (ht : eval (.Call (.Attribute o m apos) [] kws pos) X.env = (do
      let v ← eval o X.env
      standAt apos.atName
      let (f, first) ← holding [v] (getMethod v m pl)
      callWith pos f first (backTo pos (starEach [] X.env)) (backToKw pos (keywordEach kws X.env))) := by rfl)
    (hall : (backToKw pos (keywordEach kws X.env)).all (·.1.isSome) = true := by rfl) (hks : (backToKw pos (keywordEach kws X.env)).filterMap (·.1) = ps.reverse := by rfl)
    (hpl : ((backTo pos (starEach [] X.env)).any (·.1) || (backToKw pos (keywordEach kws X.env)).any (·.1.isNone)) = false := by rfl) :
    PE X (.Call (.Attribute o m apos) [] kws pos) (tMethR2 C m ps.length sp ta tk) := by
  obtain ⟨f, fd, F, hb, hm⟩ := M.ex
  refine ⟨fun pins s σ H Q I h => ?_⟩
  refine PySem.W.methodCall_KW (pl := pl) (thn (ho.run pins s σ H _ I h) fun u s1 ⟨x, H1, I1, rx, a, dx, fs, ex, ea, l, q⟩ => ?_) ht
  subst ex
  obtain rfl : u = Value.ref a := rx
  refine getmeth_ok I1 ea c hm l ?_
  refine PySem.W.callWith_KW0 (first := [.ref a]) (h₀ := X.base) I.ok.mod.kin hm.kp hall ?_ hpl
  refine thn (hkw.run pos pins s1 σ H1 _ I1 q) fun ws s2 ⟨zs, H2, I2, rz, l1, q2⟩ => ⟨I2.kIn, ?_⟩
  rw [hks]
  have hl : ws.length = ps.length := rz.length.symm.trans l1
  refine wpAny_call (codeAny_mono (F.run X.A X.stack s2 H2 ⟨[.ref a], ps.reverse.zip ws⟩ (.ref a :: ws.reverse) (.ref a :: zs.reverse) Q E0 hr I2.env0 (hb s2 (.ref a) ws hl) (.cons rfl rz.reverse) q2) fun res s' hq => ?_)
  match res, hq with
  | .error e, hq => exact pass0 pins σ H2 s2 e s' I2 hq
  | .ok (.ret u), hq => exact I2.after hq
  | .ok .next, hq => exact False.elim hq
  | .ok .brk, hq => exact False.elim hq
  | .ok .cont, hq => exact False.elim hq
theorem pmakeR (M : KCalR X.prog X.w X.K X.mg X.base k C x ps sp) (hr : Room (k + 1) X.A) (hg : Gl X x) (hkw : PK X kws tk)
    (hall : (backToKw pos (keywordEach kws X.env)).all (·.1.isSome) = true := by rfl) (hks : (backToKw pos (keywordEach kws X.env)).filterMap (·.1) = ps.reverse := by rfl) (hdb : (x == ("__debug__" : Str)) = false := by decide)
    (hpl : ((backTo pos (starEach [] X.env)).any (·.1) || (backToKw pos (keywordEach kws X.env)).any (·.1.isNone)) = false := by rfl) :
    PE X (.Call (.Name x p) [] kws pos) (tMakeR C ps.length sp tk) := by
  obtain ⟨f, fd, F, hb, mk, hm⟩ := M.ex
  refine ⟨fun pins s σ H Q I h => ?_⟩
  refine wpAny_Call_Name_kw (ld_glob I hg hm ?_ hdb)
  refine PySem.W.callWith_KW0 (h₀ := X.base) I.ok.mod.kin mk.kp hall ?_ hpl
  refine thn (hkw.run pos pins s σ H _ I h) fun ws s2 ⟨zs, H2, I2, rz, l1, q2⟩ => ⟨I2.kIn, ?_⟩
  rw [hks]
  have hbn : KBn X.K fd ("self" :: ps) 1 ps.reverse (fun us ws => us ++ ws.reverse) (fun vs zs => vs ++ zs.reverse) := by
    refine ⟨fun s us ws _ h1 h2 => ?_, fun r1 r2 => r1.append r2.reverse⟩
    obtain ⟨o, rfl⟩ : ∃ o, us = [o] := by
      match us, h1 with
      | [o], _ => exact ⟨o, rfl⟩
    exact hb s o ws (by rw [h2, List.length_reverse])
  exact run_makeK (us := []) (vs := []) mk F hr hbn (fun pins σ H s e s' I z => pass0 pins σ H s e s' I z) I2 .nil rz rfl (by rw [List.length_reverse]; exact l1) q2
end
end Ev

/-! ## show_program -/
namespace Ev
open PySem PySem.Spec PyProof.Rows L2
def spDec : Sp := fun vs H Q _ => ∃ n : Nat, vs = [.int (n : Nat)] ∧ n < 10 ^ 64 ∧ ∀ H', Same H H' → Q (.str (Str.ofString (toString ((n : Nat) : Int)))) H'
def spItx (K : PySem.W.Frag) (dep : Nat) : Sp := fun vs H Q _ => ∃ (x : V) (i : It), vs = [x] ∧ Da K H x (It.d i) ∧ Vt dep i ∧ It.ni i ≤ 1000 ∧ ∀ H', Same H H' → Q (.str (mkS (It.tx i))) H'
def spShw (K : PySem.W.Frag) (dep : Nat) : Sp := fun vs H Q _ => ∃ (x : V) (is : List It), vs = [x] ∧ Da K H x (.tuple (is.map It.d)) ∧ (∀ i ∈ is, Vt dep i) ∧ Its.ni is ≤ 1000 ∧ ∀ H', Same H H' → Q (.str (mkS (Its.tx is))) H'
theorem scDec : FnScope ["number", "pieces", "low"] ["number"] (defScope (topS 19)) := ⟨rfl, rfl, rfl, by decide +kernel, rfl, by decide +kernel, by decide +kernel⟩
theorem scItx : FnScope ["item", "kind", "first", "second"] ["item"] (defScope (topS 80)) := ⟨rfl, rfl, rfl, by decide +kernel, rfl, by decide +kernel, by decide +kernel⟩
theorem scShw : FnScope ["program", "item"] ["program"] (defScope (topS 78)) := ⟨rfl, rfl, rfl, by decide +kernel, rfl, by decide +kernel, by decide +kernel⟩
theorem pick_back {v : V} : pickX ([] ++ [v]) none none (some (-1)) = [v] := by
  have e : sliceRange (sliceBounds none none (some (-1)) 1).1 (sliceBounds none none (some (-1)) 1).2.1 (sliceBounds none none (some (-1)) 1).2.2 = [0] := by decide +kernel
  unfold pickX
  show (sliceRange (sliceBounds none none (some (-1)) 1).1 (sliceBounds none none (some (-1)) 1).2.1 (sliceBounds none none (some (-1)) 1).2.2).filterMap _ = _
  rw [e]
  rfl
section
variable {P : Program} {w : World} {K : PySem.W.Frag} {mg : Str → Option Value} {base : Heap} {tP : Tok}
theorem ok_dec (D : Def K mg "decimal" (topS 19) ["number"]) (g_PIECE : mg "PIECE" = some (.int (10 ^ 64) tP)) (nb : NB mg) : CalN CX0 P w K mg base 1 "decimal" ["number"] spDec := by
  refine D.okO scDec (fun vs H Q E h => ?_) (fun fa cdv A outer sh H vs Q E hr h => ?_)
  · obtain ⟨n, rfl, _⟩ := h
    rfl
  · obtain ⟨n, rfl, hn, q⟩ := h
    refine ⟨_, (pss_cons (ps_set (i := 1) scDec.nd rfl (.inl rfl) (pe_lst pa_nil))
      (pss_cons (ps_while PassesOwn.never (pt_cmpR op_ge (pv 0) (pe_glob (v := .int (10^64)) rfl g_PIECE ⟨_, rfl⟩) (nomark _)) pss_dead)
      (pss_cons (ps_expr (pe_bm PySem.F.plainAttrs_list PySem.F.slot_list_append PySem.F.type_list_append mt_append (pv 1) (pa_cons (pe_callTy call_str_int (by rfl) nb.at (by decide +kernel) (pa_cons (pv 0) pa_nil)) pa_nil)))
      (pss_one (ps_ret (pe_join pe_str (pe_slice3 (pv 1) po_none po_none (po_some (pe_un un_neg pe_int))))))))), ?_⟩
    have sl := sizeLine_eq
    refine ⟨Nat.zero_le _, fun l nl => ?_⟩
    refine ⟨fun m σ' H' => σ' = [some (.int (n : Nat)), some (.ref l), none] ∧ H' = upd H l (.lst []), ⟨0, rfl, rfl⟩, ?_⟩
    rintro m σ' H' ⟨rfl, rfl⟩
    have hlog : ((n : Nat) : Int).natAbs.log2 < 1920 := Nat.lt_of_lt_of_le (PySem.Flt.log2_lt_of (k := 640) (by decide) (Nat.lt_trans (show ((n : Nat) : Int).natAbs < 10 ^ 64 from hn) (by decide +kernel))) (by decide)
    have hlt : ¬ ((10 : Int) ^ 64 ≤ ((n : Nat) : Int)) := by
      have e : ((10 : Int) ^ 64) = ((10 ^ 64 : Nat) : Int) := by decide +kernel
      rw [e]
      omega
    refine ⟨_, rfl, _, _, rfl, rfl, _, rfl, ite2 (fun z => absurd (of_decide_eq_true z) hlt) (fun _ => ?_)⟩
    refine ⟨_, rfl, .inl ⟨rfl, _, .inl (.inl upd_same)⟩, _, rfl, _, rfl, hlog, l, [], _, rfl, rfl, upd_same, by rw [sl]; decide, ?_⟩
    have s1 : Same H (upd (upd H l (.lst [])) l (.lst ([] ++ [V.str (Str.ofString (toString ((n : Nat) : Int)))]))) := fun b o e => by
      have z : b ≠ l := fun z => by rw [z, nl] at e; cases e
      rw [upd_ne z, upd_ne z]
      exact e
    dsimp only [tNoPart]
    refine ⟨⟨_, rfl⟩, _, rfl, _, rfl, _, rfl, l, _, rfl, .inl (.inl upd_same), by decide, fun p np => ?_⟩
    rw [show pickX ([] ++ [V.str (Str.ofString (toString ((n : Nat) : Int)))]) none none (some (-1)) = [V.str (Str.ofString (toString ((n : Nat) : Int)))] from pick_back]
    refine ⟨_, p, [Str.ofString (toString ((n : Nat) : Int))], rfl, rfl, .inl (.inl (.inl upd_same)), ?_, q _ (s1.trans (same_put np))⟩
    have hl := TL.numL_len (n := n) (k := 64) (by decide) hn
    rw [← TL.tl_num, ← TL.len_tl] at hl
    show (Str.ofString (toString ((n : Nat) : Int))).length + 0 + 1 * 0 ≤ 16777216
    omega
theorem itx_step {k dep : Nat} {spR : Sp} (D : Def K mg "item_text" (topS 80) ["item"]) (C_decimal : CalN CX0 P w K mg base 1 "decimal" ["number"] spDec) (C_show_program : CalN CX0 P w K mg base k "show_program" ["program"] spR) (hk : 1 ≤ k) (nb : NB mg)
    (hR : dep = 0 ∨ ∃ d, dep = d + 1 ∧ spR = spShw K d) : CalN CX0 P w K mg base (k + 1) "item_text" ["item"] (spItx K dep) := by
  refine D.okO scItx (fun vs H Q E h => ?_) (fun fa cdv A outer sh H vs Q E hr h => ?_)
  · obtain ⟨x, i, rfl, _⟩ := h
    rfl
  · obtain ⟨x, i, rfl, hx, hv, hn, q⟩ := h
    refine ⟨_, (pss_cons (ps_asg (pv 0) (pg_tup rfl (pgs_cons (pg_name (i := 1) scItx.nd rfl (Or.inl rfl)) (pgs_cons (pg_name (i := 2) scItx.nd rfl (Or.inl rfl)) (pgs_cons (pg_name (i := 3) scItx.nd rfl (Or.inl rfl)) pgs_nil)))))
      (pss_cons (ps_if (pt_cmpR op_eq (pv 1) pe_str (nomark _))
        (pss_one (ps_ret (pe_joined (.cons (pe_fmt (pv 2)) (.cons pe_str (.cons (pe_fmt (pcallO C_decimal (hr.mono (by omega)) (by rfl) (pa_cons (pv 3) pa_nil))) .nil))))))
        pss_nil)
      (pss_one (ps_ret (pe_joined (.cons (pe_fmt (pcallO C_decimal (hr.mono (by omega)) (by rfl) (pa_cons (pv 2) pa_nil))) (.cons pe_str (.cons (pe_fmt (pcallO C_show_program (hr.mono (by omega)) (by rfl) (pa_cons (pv 3) pa_nil))) (.cons pe_str .nil))))))))), ?_⟩
    have sl := sizeLine_eq
    cases i with
    | line z t =>
      obtain ⟨hz, t1, t2⟩ := vt_line.mp hv
      obtain ⟨b, rfl, hb⟩ := da_line hx
      obtain ⟨n, rfl⟩ := Int.eq_ofNat_of_zero_le (show 0 ≤ t by omega)
      refine ⟨_, rfl, b, _, rfl, hb, rfl, _, _, rfl, _, _, rfl, _, _, rfl, rfl, ?_⟩
      refine ⟨_, rfl, rfl, _, rfl, iteT ?_⟩
      have hl := TL.numL_len (n := n) (k := 13) (by decide) (by omega)
      rw [← TL.tl_num, ← TL.len_tl] at hl
      have hz8 : z.length ≤ 8 := hz.2.1
      have e1 : (Str.empty ++ z).length ≤ 8 := by
        rw [TL.len_tl, TL.tl_append, List.length_append, ← TL.len_tl]
        exact (Nat.zero_add _).symm ▸ hz8
      have e2 : (Str.empty ++ z ++ Str.ofString ":").length ≤ 9 := by
        rw [TL.len_tl, TL.tl_append, List.length_append, ← TL.len_tl, show (TL.tl (Str.ofString ":")).length = 1 from by decide +kernel]
        omega
      have e3 : (Str.empty ++ z ++ Str.ofString ":" ++ Str.ofString (toString ((n : Nat) : Int))).length ≤ 22 := by
        rw [TL.len_tl, TL.tl_append, List.length_append, ← TL.len_tl, ← TL.len_tl]
        omega
      refine ⟨_, rfl, .inl ⟨z, rfl, by omega, z, rfl, by omega, Str.ofString ":", rfl, by omega, _, rfl, n, rfl, Nat.lt_of_le_of_lt (show n ≤ 1000000000000 by omega) (by decide), fun H1 s1 => .inl ⟨_, rfl, by omega, _, rfl, by omega, ?_⟩⟩⟩
      have e : Str.empty ++ z ++ Str.ofString ":" ++ Str.ofString (toString ((n : Nat) : Int)) = mkS (It.tx (.line z (n : Nat))) := by
        refine TL.ext_tl ?_
        rw [TL.tl_append, TL.tl_append, TL.tl_append, tl_mkS, TL.tl_num, It.tx, Int.toNat_natCast, show TL.tl (Str.ofString ":") = [58] from by decide +kernel, show TL.tl Str.empty = [] from rfl, List.nil_append, List.append_assoc]
        rfl
      show Q (.str (Str.empty ++ z ++ Str.ofString ":" ++ Str.ofString (toString ((n : Nat) : Int)))) H1
      rw [e]
      exact q H1 s1
    | loop r is =>
      obtain ⟨d, rfl, hsp⟩ : ∃ d, dep = d + 1 ∧ spR = spShw K d := by
        rcases hR with h | h
        · subst h
          exact hv.elim
        · exact h
      subst hsp
      obtain ⟨r1, r2, l1, l2, hg⟩ : 1 ≤ r ∧ r ≤ 1000000000000000000 ∧ 1 ≤ is.length ∧ is.length ≤ 20 ∧ ∀ i ∈ is, Vt d i := hv
      obtain ⟨b, v, rfl, hb, hw⟩ := da_loop hx
      obtain ⟨n, rfl⟩ := Int.eq_ofNat_of_zero_le (show 0 ≤ r by omega)
      rw [It.ni] at hn
      refine ⟨_, rfl, b, _, rfl, hb, rfl, _, _, rfl, _, _, rfl, _, _, rfl, rfl, ?_⟩
      refine ⟨_, rfl, rfl, _, rfl, ?_⟩
      rw [show decide (V.str "loop" = V.str "line") = false from decide_eq_false fun h => absurd (V.str.inj h) (by decide)]
      refine iteF ?_
      have hl := TL.numL_len (n := n) (k := 19) (by decide) (by omega)
      rw [← TL.tl_num, ← TL.len_tl] at hl
      have hti := Its.tx_len d is hg
      have f1 : (Str.empty ++ Str.ofString (toString ((n : Nat) : Int))).length ≤ 19 := by
        rw [TL.len_tl, TL.tl_append, List.length_append, ← TL.len_tl, ← TL.len_tl]
        exact (Nat.zero_add _).symm ▸ hl
      have f2 : (Str.empty ++ Str.ofString (toString ((n : Nat) : Int)) ++ Str.ofString "*(").length ≤ 21 := by
        rw [TL.len_tl, TL.tl_append, List.length_append, ← TL.len_tl, show (TL.tl (Str.ofString "*(")).length = 2 from by decide +kernel]
        omega
      have f3 : (Str.empty ++ Str.ofString (toString ((n : Nat) : Int)) ++ Str.ofString "*(" ++ mkS (Its.tx is)).length ≤ 41021 := by
        rw [TL.len_tl, TL.tl_append, List.length_append, ← TL.len_tl, tl_mkS]
        omega
      have f4 : (Str.empty ++ Str.ofString (toString ((n : Nat) : Int)) ++ Str.ofString "*(" ++ mkS (Its.tx is) ++ Str.ofString ")").length ≤ 41022 := by
        rw [TL.len_tl, TL.tl_append, List.length_append, ← TL.len_tl, show (TL.tl (Str.ofString ")")).length = 1 from by decide +kernel]
        omega
      refine ⟨_, rfl, n, rfl, Nat.lt_of_le_of_lt (show n ≤ 1000000000000000000 by omega) (by decide), fun H1 s1 => .inl ⟨_, rfl, by omega, _, rfl, by omega, Str.ofString "*(", rfl, by omega, _, rfl, v, is, rfl, hw.mono s1, hg, by omega, fun H2 s2 => .inl ⟨_, rfl, ?_, _, rfl, by omega, Str.ofString ")", rfl, by omega, ?_⟩⟩⟩
      · rw [TL.len_tl, tl_mkS]
        omega
      have e : Str.empty ++ Str.ofString (toString ((n : Nat) : Int)) ++ Str.ofString "*(" ++ mkS (Its.tx is) ++ Str.ofString ")" = mkS (It.tx (.loop (n : Nat) is)) := by
        refine TL.ext_tl ?_
        simp only [TL.tl_append, tl_mkS, TL.tl_num]
        rw [It.tx, Int.toNat_natCast, show TL.tl (Str.ofString "*(") = [42, 40] from by decide +kernel, show TL.tl (Str.ofString ")") = [41] from by decide +kernel, show TL.tl Str.empty = [] from rfl]
        simp
      show Q (.str (Str.empty ++ Str.ofString (toString ((n : Nat) : Int)) ++ Str.ofString "*(" ++ mkS (Its.tx is) ++ Str.ofString ")")) H2
      rw [e]
      exact q H2 (s1.trans s2)
theorem shw_step {k dep : Nat} (D : Def K mg "show_program" (topS 78) ["program"]) (C_item_text : CalN CX0 P w K mg base k "item_text" ["item"] (spItx K dep)) (nb : NB mg) : CalN CX0 P w K mg base (k + 1) "show_program" ["program"] (spShw K dep) := by
  refine D.okO scShw (fun vs H Q E h => ?_) (fun fa cdv A outer sh H vs Q E hr h => ?_)
  · obtain ⟨x, is, rfl, _⟩ := h
    rfl
  · obtain ⟨x, is, rfl, hx, hg, hn, q⟩ := h
    refine ⟨_, (pss_one (ps_ret (pe_join pe_str (pe_lc (own := [("item", 1)]) (g := (gName 1)) (tt := tYes) (te := (tCall (spItx K dep) [] E0 (tCons (tVar 1) tNil))) rfl scShw.nd (pi_tup (pv 0)) (blkOk_by (N := ["program", "item"]) (sc := defScope (topS 78)) (by decide +kernel)) (fun _ _ _ _ _ => (pg_name (i := 1) scShw.nd rfl (Or.inl rfl))) (fun _ _ _ _ _ => pts_nil) (fun _ _ _ _ _ => (pcallO C_item_text (hr.mono (by omega)) (by rfl) (pa_cons (pv 1) pa_nil))))))), ?_⟩
    have sl := sizeLine_eq
    obtain ⟨a, xs, rfl, hs, ha⟩ := da_prog hx
    have hl := daAll_len ha
    rw [List.length_map] at hl
    have hnl := ni_len0 is
    refine ⟨⟨_, rfl⟩, ?_⟩
    refine lcI_tup (ys := is.map fun i => V.str (mkS (It.tx i))) (by rw [List.length_map, hl]) (fun Q hq => ⟨_, rfl, hq⟩) hs (by omega) (fun k x y hk hy H' R s' hR => ⟨rfl, ?_⟩) (fun H2 D' s2 nD hD => ?_)
    · obtain ⟨d, hdk, hdv⟩ := daAll_at ha hk
      rw [List.getElem?_map] at hdk hy
      obtain ⟨i, hi, rfl⟩ := Option.map_eq_some_iff.mp hdk
      rw [hi] at hy
      cases hy
      have hm := List.mem_of_getElem? hi
      exact ⟨_, rfl, x, i, rfl, hdv.mono s', hg i hm, Nat.le_trans (ni_mem0 hm) hn, fun H'' s'' => hR H'' s''⟩
    · have hsum := sum_tx is hg
      refine ⟨_, D', is.map fun i => mkS (It.tx i), rfl, rfl, .inl (.inl (.inl (by rw [hD, List.map_map]; rfl))), ?_, ?_⟩
      · rw [List.length_map, show (Str.ofString " ").length = 1 from by decide +kernel]
        omega
      · rw [txt_join]
        exact q H2 s2
theorem shw_stepB {k dep : Nat} (D : Def K mg "show_program" (topS 78) ["program"]) (C_item_text : CalN CX0 P w K mg base k "item_text" ["item"] (spItx K dep)) (nb : NB mg) : CalBX CX0 P w K mg base (k + 1) "show_program" (topS 78) ["program"] (spShw K dep) := by
  refine D.okBO scShw (fun vs H Q E h => ?_) (fun fa cdv A outer sh H vs Q E hr h => ?_)
  · obtain ⟨x, is, rfl, _⟩ := h
    rfl
  · obtain ⟨x, is, rfl, hx, hg, hn, q⟩ := h
    refine ⟨_, (pss_one (ps_ret (pe_join pe_str (pe_lc (own := [("item", 1)]) (g := (gName 1)) (tt := tYes) (te := (tCall (spItx K dep) [] E0 (tCons (tVar 1) tNil))) rfl scShw.nd (pi_tup (pv 0)) (blkOk_by (N := ["program", "item"]) (sc := defScope (topS 78)) (by decide +kernel)) (fun _ _ _ _ _ => (pg_name (i := 1) scShw.nd rfl (Or.inl rfl))) (fun _ _ _ _ _ => pts_nil) (fun _ _ _ _ _ => (pcallO C_item_text (hr.mono (by omega)) (by rfl) (pa_cons (pv 1) pa_nil))))))), ?_⟩
    have sl := sizeLine_eq
    obtain ⟨a, xs, rfl, hs, ha⟩ := da_prog hx
    have hl := daAll_len ha
    rw [List.length_map] at hl
    have hnl := ni_len0 is
    refine ⟨⟨_, rfl⟩, ?_⟩
    refine lcI_tup (ys := is.map fun i => V.str (mkS (It.tx i))) (by rw [List.length_map, hl]) (fun Q hq => ⟨_, rfl, hq⟩) hs (by omega) (fun k x y hk hy H' R s' hR => ⟨rfl, ?_⟩) (fun H2 D' s2 nD hD => ?_)
    · obtain ⟨d, hdk, hdv⟩ := daAll_at ha hk
      rw [List.getElem?_map] at hdk hy
      obtain ⟨i, hi, rfl⟩ := Option.map_eq_some_iff.mp hdk
      rw [hi] at hy
      cases hy
      have hm := List.mem_of_getElem? hi
      exact ⟨_, rfl, x, i, rfl, hdv.mono s', hg i hm, Nat.le_trans (ni_mem0 hm) hn, fun H'' s'' => hR H'' s''⟩
    · have hsum := sum_tx is hg
      refine ⟨_, D', is.map fun i => mkS (It.tx i), rfl, rfl, .inl (.inl (.inl (by rw [hD, List.map_map]; rfl))), ?_, ?_⟩
      · rw [List.length_map, show (Str.ofString " ").length = 1 from by decide +kernel]
        omega
      · rw [txt_join]
        exact q H2 s2
theorem ok_shwd (D_item_text : Def K mg "item_text" (topS 80) ["item"]) (D_show_program : Def K mg "show_program" (topS 78) ["program"]) (C_decimal : CalN CX0 P w K mg base 1 "decimal" ["number"] spDec) (nb : NB mg) : ∀ dep : Nat, CalN CX0 P w K mg base (2 * dep + 3) "show_program" ["program"] (spShw K dep)
  | 0 => shw_step D_show_program (itx_step (k := 1) D_item_text C_decimal (no_calO D_show_program) (Nat.le_refl 1) nb (.inl rfl)) nb
  | d + 1 => shw_step D_show_program (itx_step (k := 2 * d + 3) D_item_text C_decimal (ok_shwd D_item_text D_show_program C_decimal nb d) (by omega) nb (.inr ⟨d, rfl, rfl⟩)) nb
end
end Ev

/-! ## Lists of pairs, and dicts of them -/
namespace Ev
open PySem PySem.Spec PyProof.Rows L2
theorem paired_of {α β : Type} {R : α → β → Prop} : ∀ {as : List α} {bs : List β}, as.length = bs.length → (∀ (j : Nat) a b, as[j]? = some a → bs[j]? = some b → R a b) → Paired R as bs
  | [], [], _, _ => .nil
  | [], _ :: _, h, _ => by simp at h
  | _ :: _, [], h, _ => by simp at h
  | a :: as, b :: bs, h, f => .cons (f 0 a b rfl rfl) (paired_of (by simpa using h) fun j x y h1 h2 => f (j + 1) x y (by simpa using h1) (by simpa using h2))
/-- [(..) for x in a list] -/
theorem lcT_list {K : PySem.W.Frag} {σ : L2.St} {H : Hp} {Q : VK} {te ti : TE} {a : Addr} {xs : List V} {g : TG} {vs : List Nat} (row : V → List V) (hi : ∀ Q : VK, Q (.ref a) H → ti σ H Q) (hx : SqL K H a xs) (hz : xs.length ≤ 1000000)
    (he : ∀ x ∈ xs, ∀ (H' : Hp) (R : VK), Same H H' → (∀ H'' t, Same H' H'' → H' t = none → H'' t = some (.tup (row x)) → R (.ref t) H'') → g x (wipe σ vs) H' fun σ2 H2 => wipe σ2 vs = wipe σ vs ∧ te σ2 H2 R)
    (q : ∀ H' D (ps : List Addr), Same H H' → H D = none → H' D = some (.lst (ps.map V.ref)) → ps.length = xs.length → (∀ (j : Nat) t x, ps[j]? = some t → xs[j]? = some x → H' t = some (.tup (row x))) → Q (.ref D) H') : tLc (iList K ti) g tYes te vs σ H Q := by
  refine hi _ ⟨a, rfl, ⟨xs, hx⟩, fun D nD => ?_⟩
  have y := sizeLine_eq
  refine lc_list (K := K) (a := a) (xs := xs) (fun k H' => Same H H' ∧ ∃ ps : List Addr, H' D = some (.lst (ps.map V.ref)) ∧ ps.length = k ∧ ∀ (j : Nat) t x, ps[j]? = some t → xs[j]? = some x → t ≠ D ∧ H' t = some (.tup (row x)))
    ⟨same_put nD, [], upd_same, rfl, fun j t x h => by simp at h⟩ (fun k H' _ ⟨s', _⟩ => s'.seq hx) ?_ ?_
  · rintro k x H' hk ⟨s', ps, eD, hl, hp⟩
    have hkl : k < xs.length := (List.getElem?_eq_some_iff.mp hk).1
    refine cast ?_ (he x (List.mem_of_getElem? hk) H' (fun y H4 => ∃ acc, H4 D = some (.lst acc) ∧ acc.length < sizeLine ∧ Same H (upd H4 D (.lst (acc ++ [y]))) ∧ ∃ ps : List Addr, upd H4 D (.lst (acc ++ [y])) D = some (.lst (ps.map V.ref)) ∧ ps.length = k + 1 ∧ ∀ (j : Nat) t x, ps[j]? = some t → xs[j]? = some x → t ≠ D ∧ upd H4 D (.lst (acc ++ [y])) t = some (.tup (row x))) s' fun H4 t s4 nt h4 => ⟨_, s4 _ _ eD, ?_, ?_, ps ++ [t], ?_, ?_, ?_⟩)
    · rfl
    · rw [List.length_map]
      omega
    · intro b o h
      rw [upd_ne (ne_of_none h nD)]
      exact s4 _ _ (s' _ _ h)
    · rw [upd_same, List.map_append]
      rfl
    · rw [List.length_append, hl]
      rfl
    · intro j u z hj hz
      have htD : t ≠ D := fun e => by
        rw [e, eD] at nt
        cases nt
      by_cases hjk : j < k
      · rw [List.getElem?_append_left (by omega)] at hj
        obtain ⟨g1, g2⟩ := hp j u z hj hz
        refine ⟨g1, ?_⟩
        rw [upd_ne g1]
        exact s4 _ _ g2
      · have hjk : j = k := by
          obtain ⟨h1, _⟩ := List.getElem?_eq_some_iff.mp hj
          rw [List.length_append, hl] at h1
          have h1 : j < k + 1 := h1
          omega
        subst hjk
        rw [List.getElem?_append_right (by omega), hl, Nat.sub_self] at hj
        obtain rfl : t = u := Option.some.inj hj
        obtain rfl : x = z := Option.some.inj (hk.symm.trans hz)
        refine ⟨htD, ?_⟩
        rw [upd_ne htD]
        exact h4
  · rintro H' ⟨s', ps, eD, hl, hp⟩
    exact q H' D ps s' nD eD hl fun j t x h1 h2 => (hp j t x h1 h2).2
theorem merge_val {v : Key → V} {k : Key} : ∀ {kvs acc : List (Key × V)}, (∀ p ∈ kvs, p.2 = v p.1) → ((∃ p ∈ kvs, p.1 = k) ∨ valV acc k = some (v k)) → valV (mergeK acc kvs) k = some (v k)
  | [], acc, _, h => by
    rcases h with ⟨p, hp, _⟩ | h
    · cases hp
    · exact h
  | p :: kvs, acc, hv, h => by
    show valV (mergeK (putK acc p.1 p.2) kvs) k = _
    refine merge_val (fun q hq => hv q (List.mem_cons_of_mem _ hq)) ?_
    by_cases e : k = p.1
    · right
      rw [valV_put, if_pos e, hv p (List.mem_cons_self ..), e]
    · rcases h with ⟨q, hq, eq⟩ | h
      · rcases List.mem_cons.mp hq with rfl | hq
        · exact absurd eq.symm e
        · exact .inl ⟨q, hq, eq⟩
      · right
        rw [valV_put, if_neg e]
        exact h
/-- a dict from numbers -/
theorem merge_nat {v : Nat → V} {ds : List Nat} {d : Nat} (h : d ∈ ds) : valV (mergeK [] (ds.map fun d => ((.inl ((d : Nat) : Int) : Key), v d))) (.inl ((d : Nat) : Int)) = some (v d) := by
  refine merge_val (v := fun k => match k with | .inl i => v i.toNat | .inr _ => .non) (k := .inl ((d : Nat) : Int)) (fun p hp => ?_) (.inl ⟨(.inl ((d : Nat) : Int), v d), List.mem_map.mpr ⟨d, h, rfl⟩, rfl⟩)
  obtain ⟨e, _, rfl⟩ := List.mem_map.mp hp
  rfl
end Ev

/-! ## is True, is False; tuples in a comprehension over a range -/
namespace Ev
open PySem PySem.Spec PyProof.Rows L2
section
variable {X : Cx} {a : Expr} {ta : TE}
def tIsB (b : Bool) (ta : TE) : TE := fun σ H Q => ta σ H fun x H1 => ∃ c, x = .bl c ∧ Q (.bl (c == b)) H1
def tNotB (b : Bool) (ta : TE) : TE := fun σ H Q => ta σ H fun x H1 => ∃ c, x = .bl c ∧ Q (.bl (c != b)) H1
theorem pc_isB {b : Bool} {j pos'} (ha : PE X a ta) : PC X .Is a (.Constant (.bool b) j pos') (tIsB b ta) := by
  refine ⟨fun pins s σ H Q I h => thn (ha.run pins s σ H _ I h) fun v s1 ⟨x, H1, I1, r1, c, ex, q1⟩ => ?_⟩
  subst ex
  cases r1
  exact Constant_bool (is_bool ⟨.bl _, H1, I1, rfl, q1⟩)
theorem pc_notB {b : Bool} {j pos'} (ha : PE X a ta) : PC X .IsNot a (.Constant (.bool b) j pos') (tNotB b ta) := by
  refine ⟨fun pins s σ H Q I h => thn (ha.run pins s σ H _ I h) fun v s1 ⟨x, H1, I1, r1, c, ex, q1⟩ => ?_⟩
  subst ex
  cases r1
  exact Constant_bool (isnot_bool ⟨.bl _, H1, I1, rfl, q1⟩)
end
abbrev rTupOf (K : PySem.W.Frag) : List V → Hp → VK → Prop := fun xs H Q => ∃ p ys, xs = [.ref p] ∧ ((SqL K H p ys ∧ ∀ l, H l = none → Q (.ref l) (upd H l (.tup ys))) ∨ (SqT K H p ys ∧ Q (.ref p) H))
/-- [(..) for k in range(n)] -/
theorem lcT_rng {σ : L2.St} {H : Hp} {Q : VK} {te : TE} {ta : TA} {n : Nat} {g : TG} {vs : List Nat} (row : Nat → List V) (hta : ∀ (Q : List V → Hp → Prop), Q [.int (n : Nat)] H → ta σ H Q) (hz : n ≤ 1000000)
    (he : ∀ k, k < n → ∀ (H' : Hp) (R : VK), Same H H' → (∀ H'' t, Same H' H'' → H' t = none → H'' t = some (.tup (row k)) → R (.ref t) H'') → g (nV k) (wipe σ vs) H' fun σ2 H2 => wipe σ2 vs = wipe σ vs ∧ te σ2 H2 R)
    (q : ∀ H' D (ps : List Addr), Same H H' → H D = none → H' D = some (.lst (ps.map V.ref)) → ps.length = n → (∀ (j : Nat) t, ps[j]? = some t → H' t = some (.tup (row j))) → Q (.ref D) H') : tLc (iRng1 ta) g tYes te vs σ H Q := by
  refine hta _ ⟨(n : Nat), rfl, by omega, by omega, fun D nD => ?_⟩
  have y := sizeLine_eq
  rw [Int.toNat_natCast]
  refine lc_range (lo := 0) (n := n) (fun k H' => Same H H' ∧ ∃ ps : List Addr, H' D = some (.lst (ps.map V.ref)) ∧ ps.length = k ∧ ∀ (j : Nat) t, ps[j]? = some t → t ≠ D ∧ H' t = some (.tup (row j)))
    ⟨same_put nD, [], upd_same, rfl, fun j t h => by simp at h⟩ ?_ ?_
  · rintro k H' hk ⟨s', ps, eD, hl, hp⟩
    have e0 : V.int (0 + (k : Nat)) = nV k := by
      show V.int (0 + (k : Nat)) = V.int (k : Nat)
      rw [Int.zero_add]
    rw [e0]
    refine cast ?_ (he k hk H' (fun y H4 => ∃ acc, H4 D = some (.lst acc) ∧ acc.length < sizeLine ∧ Same H (upd H4 D (.lst (acc ++ [y]))) ∧ ∃ ps : List Addr, upd H4 D (.lst (acc ++ [y])) D = some (.lst (ps.map V.ref)) ∧ ps.length = k + 1 ∧ ∀ (j : Nat) t, ps[j]? = some t → t ≠ D ∧ upd H4 D (.lst (acc ++ [y])) t = some (.tup (row j))) s' fun H4 t s4 nt h4 => ⟨_, s4 _ _ eD, ?_, ?_, ps ++ [t], ?_, ?_, ?_⟩)
    · rfl
    · rw [List.length_map]
      omega
    · intro b o h
      rw [upd_ne (ne_of_none h nD)]
      exact s4 _ _ (s' _ _ h)
    · rw [upd_same, List.map_append]
      rfl
    · rw [List.length_append, hl]
      rfl
    · intro j u hj
      have htD : t ≠ D := fun e => by
        rw [e, eD] at nt
        cases nt
      by_cases hjk : j < k
      · rw [List.getElem?_append_left (by omega)] at hj
        obtain ⟨g1, g2⟩ := hp j u hj
        refine ⟨g1, ?_⟩
        rw [upd_ne g1]
        exact s4 _ _ g2
      · have hjk : j = k := by
          obtain ⟨h1, _⟩ := List.getElem?_eq_some_iff.mp hj
          rw [List.length_append, hl] at h1
          have h1 : j < k + 1 := h1
          omega
        subst hjk
        rw [List.getElem?_append_right (by omega), hl, Nat.sub_self] at hj
        obtain rfl : t = u := Option.some.inj hj
        refine ⟨htD, ?_⟩
        rw [upd_ne htD]
        exact h4
  · rintro H' ⟨s', ps, eD, hl, hp⟩
    exact q H' D ps s' nD eD hl fun j t h1 => (hp j t h1).2
theorem cb_lcB {tl : TE} {r : List V → Hp → VK → Prop} {Q : VK} {σ : L2.St} {H : Hp} (h : tl σ H fun v H1 => r [v] H1 Q) : tCB r (tCons tl tNil) σ H Q := h
theorem ret_cbB {tl : TE} {r : List V → Hp → VK → Prop} {D : Ends} {σ : L2.St} {H : Hp} (h : tl σ H fun v H1 => r [v] H1 D.rt) : tRet (tCB r (tCons tl tNil)) D σ H := h
def stV (e : Str → V) : V → V
  | .str x => e x
  | v => v
theorem filt_st {e : Str → V} {l : List Str} : ((l.map V.str).filter (fun _ => true)).map (stV e) = l.map e := by
  rw [List.filter_eq_self.mpr (fun _ _ => rfl), List.map_map]
  rfl
end Ev

/-! ## read_program -/
namespace Ev
open PySem PySem.Spec PyProof.Rows L2
def spIl : Sp := fun vs H Q _ => ∃ x : Str, vs = [.str x] ∧ Q (.bl ((!decide (x.cps.toList < [97])) && !decide ([122] < x.cps.toList))) H
def spRn (K : PySem.W.Frag) : Sp := fun vs H Q _ => ∃ (z : Str) (a : Nat), vs = [.str z, .int (a : Nat)] ∧ z.length ≤ sizeLine ∧ ∀ H' u, Same H H' → Da K H' u (.tuple [.str (cutN (TL.tl z) a (nameEnd (TL.tl z) a)), .int (nameEnd (TL.tl z) a : Nat)]) → Q u H'
def spBh (cB : Addr) : Sp := fun vs H Q E => ∃ (z y : Str) (a : Nat), vs = [.str z, .int (a : Nat), .str y] ∧ z.length ≤ sizeLine ∧ y.length ≤ 1000 ∧ RdG (rdBh (TL.tl z) (TL.tl y) a) cB H E fun b => ∀ H', Same H H' → Q (.int (b : Nat)) H'
def spRm (K : PySem.W.Frag) (cB : Addr) : Sp := fun vs H Q E => ∃ (z : Str) (a most : Nat), vs = [.str z, .int (a : Nat), .int (most : Nat)] ∧ z.length ≤ sizeLine ∧ most ≤ 10 ^ 18 ∧ 9 ≤ most ∧
  RdG (rdNum (TL.tl z) most a) cB H E fun b => ∀ H' u, Same H H' → Da K H' u (.tuple [.int (b.1 : Nat), .int (b.2 : Nat)]) → Q u H'
def spRi (K : PySem.W.Frag) (cB : Addr) (d : Nat) : Sp := fun vs H Q E => ∃ (z : Str) (a r : Nat), vs = [.str z, .int (a : Nat), .int (d : Nat), .int (r : Nat)] ∧ z.length ≤ sizeLine ∧ 1 ≤ r ∧ r ≤ 60 ∧
  RdG (rdIt (TL.tl z) d a r) cB H E fun b => ∀ H' u, Same H H' → Da K H' u (.tuple [It.d b.1, .int (b.2.1 : Nat), .int (b.2.2 : Nat)]) → Q u H'
def spRis (K : PySem.W.Frag) (cB : Addr) (d : Nat) : Sp := fun vs H Q E => ∃ (z : Str) (a r : Nat), vs = [.str z, .int (a : Nat), .int (d : Nat), .int (r : Nat)] ∧ z.length ≤ sizeLine ∧ 1 ≤ r ∧ r ≤ 60 ∧
  RdG (rdMany (rdIt (TL.tl z) d) (TL.tl z) a r) cB H E fun b => ∀ H' u, Same H H' → Da K H' u (.tuple [.tuple (b.1.map It.d), .int (b.2.1 : Nat), .int (b.2.2 : Nat)]) → Q u H'
def spRp (K : PySem.W.Frag) (cB : Addr) : Sp := fun vs H Q E => ∃ (v : V) (dd : PyData), vs = [v] ∧ Da K H v dd ∧ (∀ z, dd = .str z → z.length ≤ sizeLine ∧ RdG (rdP (TL.tl z)) cB H E fun is => ∀ H' u, Same H H' → Da K H' u (.tuple (is.map It.d)) → Q u H') ∧ ((∀ z, dd ≠ .str z) → RzP cB 0 H E)
theorem scIl : FnScope ["text"] ["text"] (defScope (topS 85)) := ⟨rfl, rfl, rfl, by decide +kernel, rfl, by decide +kernel, by decide +kernel⟩
theorem scRn : FnScope ["text", "at", "stop"] ["text", "at"] (defScope (topS 83)) := ⟨rfl, rfl, rfl, by decide +kernel, rfl, by decide +kernel, by decide +kernel⟩
theorem scBh : FnScope ["text", "at", "signs", "sign"] ["text", "at", "signs"] (defScope (topS 86)) := ⟨rfl, rfl, rfl, by decide +kernel, rfl, by decide +kernel, by decide +kernel⟩
theorem scRm : FnScope ["text", "at", "most", "number"] ["text", "at", "most"] (defScope (topS 84)) := ⟨rfl, rfl, rfl, by decide +kernel, rfl, by decide +kernel, by decide +kernel⟩
theorem scRi : FnScope ["text", "at", "depth", "room", "name", "ticks", "rounds", "items"] ["text", "at", "depth", "room"] (defScope (topS 82)) := ⟨rfl, rfl, rfl, by decide +kernel, rfl, by decide +kernel, by decide +kernel⟩
theorem scRis : FnScope ["text", "at", "depth", "room", "item", "items"] ["text", "at", "depth", "room"] (defScope (topS 81)) := ⟨rfl, rfl, rfl, by decide +kernel, rfl, by decide +kernel, by decide +kernel⟩
theorem scRpg : FnScope ["text", "items", "at", "room"] ["text"] (defScope (topS 79)) := ⟨rfl, rfl, rfl, by decide +kernel, rfl, by decide +kernel, by decide +kernel⟩
section
variable {P : Program} {w : World} {K : PySem.W.Frag} {mg : Str → Option Value} {base : Heap} {cB : Addr} {tT tR tL tE : Tok}
theorem ok_il (D : Def K mg "is_letter" (topS 85) ["text"]) (nb : NB mg) : CalN CX0 P w K mg base 1 "is_letter" ["text"] spIl := by
  refine D.okO scIl (fun vs H Q E h => ?_) (fun fa cdv A outer sh H vs Q E hr h => ?_)
  · obtain ⟨x, rfl, _⟩ := h
    rfl
  · obtain ⟨x, rfl, q⟩ := h
    refine ⟨_, (pss_one (ps_ret (pe_chain op_le_str op_le_str pe_str (pv 0) pe_str))), ?_⟩
    rw [show ([97] : List Nat) = (Str.ofString "a").cps.toList from by decide +kernel, show ([122] : List Nat) = (Str.ofString "z").cps.toList from by decide +kernel] at q
    refine ⟨_, rfl, _, _, rfl, rfl, _, rfl, ?_⟩
    by_cases h : (!decide (x.cps.toList < (Str.ofString "a").cps.toList)) = true
    · rw [if_pos h]
      rw [h, Bool.true_and] at q
      exact ⟨_, _, rfl, rfl, q⟩
    · rw [if_neg h]
      rw [Bool.eq_false_iff.mpr h, Bool.false_and] at q
      exact q
theorem ok_bh (D : Def K mg "behind" (topS 86) ["text", "at", "signs"]) (R_BadText : Err1 P w K mg base "BadText" cB "position") (nb : NB mg) : CalN (L2.CX P w) P w K mg base 3 "behind" ["text", "at", "signs"] (spBh cB) := by
  refine D.okN scBh (fun vs H Q E h => ?_) (fun fa cdv A outer sh H vs Q E hr h => ?_)
  · obtain ⟨z, y, a, rfl, _⟩ := h
    rfl
  · obtain ⟨z, y, a, rfl, hz, hy, g⟩ := h
    refine ⟨_, (pss_cons (ps_for (passes_of rfl) rfl (pi_str (pv 2)) (pg_name (i := 3) scBh.nd rfl (Or.inl rfl))
        (pss_cons (ps_if (pt_cmpR op_ne (pe_slice sl_str (pv 0) (po_some (pv 1)) (po_some (pe_op op_add (pv 1) pe_int))) (pv 3) (nomark _))
          (pss_one (ps_raise1 R_BadText rfl (hr.mono (by omega)) (by rfl) (takes_of rfl rfl rfl rfl) (pv 1)))
          pss_nil)
        (pss_one (ps_aug (i := 1) scBh.nd rfl (.inl rfl) pe_int ip_add))))
      (pss_one (ps_ret (pv 1)))), ?_⟩
    refine ⟨_, rfl, _, rfl, ?_⟩
    refine for_it walk_str (fun i σ' H' => ∃ y3 : Option V, σ' = [some (.str z), some (.int ((a + i : Nat) : Int)), some (.str y), y3] ∧ H' = H ∧ RdG (rdBh (TL.tl z) ((TL.tl y).drop i) (a + i)) cB H E fun b => ∀ H', Same H H' → Q (.int (b : Nat)) H')
      ⟨_, rfl, rfl, g⟩ (fun _ _ _ _ _ => trivial) ?_ ?_
    · rintro i x σ' H1 H2 hi ⟨y3, rfl, rfl, g1⟩ ⟨rfl, c, hc, rfl⟩
      have hd : (TL.tl y).drop i = c :: (TL.tl y).drop (i + 1) := by
        have h1 : (TL.tl y)[i]? = some c := by rw [← hc]; exact Array.getElem?_toList
        obtain ⟨hl, e⟩ := List.getElem?_eq_some_iff.mp h1
        rw [List.drop_eq_getElem_cons hl, e]
      rw [hd] at g1
      refine ⟨_, rfl, _, rfl, _, rfl, _, rfl, _, _, rfl, rfl, _, rfl, z, rfl, hz, _, rfl, rfl, _, rfl, ?_⟩
      rw [cut_sg]
      by_cases e : (TL.tl z)[a + i]? = some c
      · rw [rdBh, if_pos e] at g1
        rw [show (!decide (V.str ⟨(sgN (TL.tl z) (a + i)).toArray⟩ = V.str ⟨#[c]⟩)) = false from by
          rw [decide_eq_true (str_mk.mpr (sgN_eq.mpr e))]
          rfl]
        refine iteF ⟨_, rfl, _, _, rfl, rfl, ?_⟩
        exact ⟨_, rfl, rfl, g1⟩
      · rw [rdBh, if_neg e] at g1
        rw [show (!decide (V.str ⟨(sgN (TL.tl z) (a + i)).toArray⟩ = V.str ⟨#[c]⟩)) = true from by
          rw [decide_eq_false (fun h => e (sgN_eq.mp (str_mk.mp h)))]
          rfl]
        exact iteT ⟨_, rfl, RzP.go g1⟩
    · rintro σ' H1 ⟨y3, rfl, rfl, g1⟩
      rw [List.drop_of_length_le (by show (y.cps.toList).length ≤ y.cps.size; rw [Array.length_toList]; exact Nat.le_refl _)] at g1
      exact ⟨_, rfl, g1 _ Same.rfl'⟩
theorem ok_rn (D : Def K mg "read_name" (topS 83) ["text", "at"]) (C_is_letter : CalN CX0 P w K mg base 1 "is_letter" ["text"] spIl) (g_MOST_LETTERS : mg "MOST_LETTERS" = some (.int 8 tL)) (nb : NB mg) : CalN CX0 P w K mg base 2 "read_name" ["text", "at"] (spRn K) := by
  refine D.okO scRn (fun vs H Q E h => ?_) (fun fa cdv A outer sh H vs Q E hr h => ?_)
  · obtain ⟨z, a, rfl, _⟩ := h
    rfl
  · obtain ⟨z, a, rfl, hz, q⟩ := h
    refine ⟨_, (pss_cons (ps_set (i := 2) scRn.nd rfl (.inl rfl) (pe_op op_add (pv 1) pe_int))
      (pss_cons (ps_while PassesOwn.never (PW.pt (pw_and (pt_val (pcallO C_is_letter (hr.mono (by omega)) (by rfl) (pa_cons (pe_slice sl_str (pv 0) (po_some (pv 2)) (po_some (pe_op op_add (pv 2) pe_int))) pa_nil))) (pw_and1 (pt_cmpR op_lt (pe_op op_sub (pv 2) (pv 1)) (pe_glob (v := .int 8) rfl g_MOST_LETTERS ⟨_, rfl⟩) (nomark _)))))
        (pss_one (ps_aug (i := 2) scRn.nd rfl (.inl rfl) pe_int ip_add)))
      (pss_one (ps_ret (pe_tup (pa_cons (pe_slice sl_str (pv 0) (po_some (pv 1)) (po_some (pv 2))) (pa_cons (pv 2) pa_nil))))))), ?_⟩
    have sl := sizeLine_eq
    have h7 := nameL_le (TL.tl z) a
    refine ⟨_, rfl, _, _, rfl, rfl, ?_⟩
    refine ⟨fun m σ' H' => ∃ k : Nat, m + k = (nameL (TL.tl z) a).length ∧ σ' = [some (.str z), some (.int (a : Nat)), some (.int ((a + 1 + k : Nat) : Int))] ∧ Same H H', ⟨_, 0, rfl, rfl, Same.rfl'⟩, ?_⟩
    rintro m σ' H1 ⟨k, hk, rfl, s1⟩
    refine ⟨_, rfl, _, rfl, _, rfl, _, rfl, _, _, rfl, rfl, _, rfl, z, rfl, hz, ?_⟩
    rw [cut_sg]
    refine ⟨_, rfl, ?_⟩
    rw [sg_let]
    by_cases hm : k < (nameL (TL.tl z) a).length
    · obtain ⟨k7, e⟩ := nameL_go hm
      rw [e]
      refine ⟨true, rfl, iteT ⟨_, rfl, _, rfl, _, _, rfl, rfl, _, _, rfl, rfl, _, rfl, ite2 (fun _ => ?_) (fun h => ?_)⟩⟩
      · refine ⟨_, fun _ _ n => n, _, rfl, _, _, rfl, rfl, m - 1, by omega, k + 1, by omega, rfl, s1⟩
      · exact absurd (decide_eq_true (by omega)) h
    · have e : k = (nameL (TL.tl z) a).length := by omega
      have fin : ∀ H2, Same H1 H2 → tRet (tTup (tCons (tSl rSlS (tVar 0) (tPart (tVar 1)) (tPart (tVar 2))) (tCons (tVar 2) tNil))) { nx := fun _ H' => Q .non H', rt := Q } [some (.str z), some (.int (a : Nat)), some (.int ((a + 1 + k : Nat) : Int))] H2 := fun H2 s2 => by
        refine ⟨_, rfl, _, rfl, _, rfl, _, rfl, _, rfl, z, rfl, hz, _, rfl, (by show 2 ≤ sizeLine; rw [sl]; decide), fun p np => ?_⟩
        refine q _ _ (s1.trans (s2.trans (same_put np))) (.tup (.inl (.inl upd_same)) (.cons ?_ (.cons ?_ .nil)))
        · rw [cut_nat, nameEnd_eq, e]
          exact .str _
        · rw [nameEnd_eq, e]
          exact .int _
      by_cases k7 : k < 7
      · have e2 := nameL_end (l := TL.tl z) (a := a) (by omega)
        rw [← e] at e2
        rw [e2]
        refine ⟨false, rfl, iteF (iteF (fin _ Same.rfl'))⟩
      · cases isLet (TL.tl z) (a + 1 + k) with
        | false => exact ⟨false, rfl, iteF (iteF (fin _ Same.rfl'))⟩
        | true =>
          refine ⟨true, rfl, iteT ⟨_, rfl, _, rfl, _, _, rfl, rfl, _, _, rfl, rfl, _, rfl, ite2 (fun h => ?_) (fun _ => fin _ Same.rfl')⟩⟩
          have h := of_decide_eq_true h
          omega
theorem ok_rm (D : Def K mg "read_number" (topS 84) ["text", "at", "most"]) (R_BadText : Err1 P w K mg base "BadText" cB "position") (nb : NB mg) : CalN (L2.CX P w) P w K mg base 3 "read_number" ["text", "at", "most"] (spRm K cB) := by
  refine D.okN scRm (fun vs H Q E h => ?_) (fun fa cdv A outer sh H vs Q E hr h => ?_)
  · obtain ⟨z, a, most, rfl, _⟩ := h
    rfl
  · obtain ⟨z, a, most, rfl, hz, hm, h9, g⟩ := h
    refine ⟨_, (pss_cons (ps_if (pt_not (pt_chain op_le_str op_le_str pe_str (pe_slice sl_str (pv 0) (po_some (pv 1)) (po_some (pe_op op_add (pv 1) pe_int))) pe_str))
        (pss_one (ps_raise1 R_BadText rfl (hr.mono (by omega)) (by rfl) (takes_of rfl rfl rfl rfl) (pv 1)))
        pss_nil)
      (pss_cons (ps_set (i := 3) scRm.nd rfl (.inl rfl) pe_int)
      (pss_cons (ps_while (passes_of rfl) (PW.pt (pw_and (pt_chain op_le_str op_le_str pe_str (pe_slice sl_str (pv 0) (po_some (pv 1)) (po_some (pe_op op_add (pv 1) pe_int))) pe_str) (pw_and1 (pt_cmpR op_le (pe_op op_add (pe_op op_mul (pv 3) pe_int) (pe_callTy call_int_str (by rfl) nb.at (by decide +kernel) (pa_cons (pe_ix ix_str (pv 0) (pv 1) (fun _ _ => rfl)) pa_nil))) (pv 2) (nomark _)))))
        (pss_cons (ps_set (i := 3) scRm.nd rfl (.inl rfl) (pe_op op_add (pe_op op_mul (pv 3) pe_int) (pe_callTy call_int_str (by rfl) nb.at (by decide +kernel) (pa_cons (pe_ix ix_str (pv 0) (pv 1) (fun _ _ => rfl)) pa_nil))))
        (pss_one (ps_aug (i := 1) scRm.nd rfl (.inl rfl) pe_int ip_add))))
      (pss_one (ps_ret (pe_tup (pa_cons (pv 3) (pa_cons (pv 1) pa_nil)))))))), ?_⟩
    have sl := sizeLine_eq
    have s0 : (Str.ofString "0").cps.toList = [48] := by decide +kernel
    have s1 : (Str.ofString "1").cps.toList = [49] := by decide +kernel
    have sgo : ∀ (σ : L2.St) (a' : Nat) (H1 : Hp), σ[0]? = some (some (.str z)) → σ[1]? = some (some (.int (a' : Nat))) → ∀ Q : VK, Q (.str ⟨(sgN (TL.tl z) a').toArray⟩) H1 → tSl rSlS (tVar 0) (tPart (tVar 1)) (tPart (tOp (rI0 fun i j => .int (i + j)) (tVar 1) (tC (.int 1)))) σ H1 Q := fun σ a' H1 h0 h1 Q q => by
      refine ⟨_, h0, _, h1, _, rfl, _, h1, _, _, rfl, rfl, _, rfl, z, rfl, hz, ?_⟩
      rw [cut_sg]
      exact q
    refine btw_go s1 (sgo _ a _ rfl rfl) ?_
    by_cases hc : ∃ c, (TL.tl z)[a]? = some c ∧ digB c = true ∧ c ≠ 48
    · obtain ⟨c, hc, hd, h48⟩ := hc
      have hb := digB_iff.mp hd
      rw [sgB_some hc, decide_eq_true (by omega), decide_eq_true hb.2]
      unfold rdNum at g
      rw [hc] at g
      dsimp only at g
      rw [if_pos ⟨hd, h48⟩] at g
      refine iteF ?_
      refine ⟨fun m σ' H' => ∃ a' n : Nat, m = (TL.tl z).length - a' ∧ σ' = [some (.str z), some (.int (a' : Nat)), some (.int (most : Nat)), some (.int (n : Nat))] ∧ H' = H ∧ n ≤ most ∧ (numW most n ((TL.tl z).drop a')).1 = (numW most 0 ((TL.tl z).drop a)).1 ∧ a' + (numW most n ((TL.tl z).drop a')).2 = a + (numW most 0 ((TL.tl z).drop a)).2,
        ⟨_, a, 0, rfl, rfl, rfl, Nat.zero_le _, rfl, rfl⟩, ?_⟩
      rintro m σ' H1 ⟨a', n, rfl, rfl, rfl, hn, e1, e2⟩
      refine btw_go s0 (sgo _ a' _ rfl rfl) ?_
      have fin : (numW most n ((TL.tl z).drop a')) = (n, 0) → tRet (tTup (tCons (tVar 3) (tCons (tVar 1) tNil))) { nx := fun _ H' => Q .non H', rt := Q } [some (.str z), some (.int (a' : Nat)), some (.int (most : Nat)), some (.int (n : Nat))] H1 := fun e => by
        rw [e] at e1 e2
        refine ⟨_, rfl, _, rfl, (by show 2 ≤ sizeLine; rw [sl]; decide), fun p np => g _ _ (same_put np) (.tup (.inl (.inl upd_same)) (.cons ?_ (.cons ?_ .nil)))⟩
        · show Da K _ (.int (n : Nat)) (.int ((numW most 0 ((TL.tl z).drop a)).1 : Nat))
          rw [← e1]
          exact .int _
        · show Da K _ (.int (a' : Nat)) (.int ((a + (numW most 0 ((TL.tl z).drop a)).2 : Nat) : Int))
          rw [← e2]
          exact .int _
      have stp := numW_step (l := TL.tl z) (most := most) (n := n) (a := a')
      cases hc' : (TL.tl z)[a']? with
      | none =>
        rw [hc'] at stp
        rw [sgB_none hc']
        exact iteF (iteF (fin stp))
      | some c' =>
        rw [hc'] at stp
        dsimp only at stp
        rw [sgB_some hc']
        by_cases hd' : digB c' = true
        · have hb' := digB_iff.mp hd'
          have hat : atI z.cps.toList ((a' : Nat) : Int) = some c' := atI_nat hc'
          rw [decide_eq_true hb'.1, decide_eq_true hb'.2]
          have hin := dig_int hd'
          have hmul : CMul ((n : Nat) : Int) 10 := .inr ⟨by decide, by decide⟩
          refine iteT ⟨_, rfl, _, _, rfl, rfl, hmul, _, rfl, _, rfl, z, _, c', rfl, rfl, hz, hat, _, _, rfl, hin, (by show 1 ≤ 640; decide), _, _, rfl, rfl, _, rfl, _, _, rfl, rfl, _, rfl, ite2 (fun h => ?_) (fun h => ?_)⟩
          · have h : ((n : Nat) : Int) * 10 + ((c' - 48 : Nat) : Int) ≤ ((most : Nat) : Int) := of_decide_eq_true h
            have h' : n * 10 + (c' - 48) ≤ most := by omega
            rw [if_pos ⟨hd', h'⟩] at stp
            have hl : a' < (TL.tl z).length := (List.getElem?_eq_some_iff.mp hc').1
            rw [stp] at e1 e2
            refine ⟨_, fun _ _ n => n, _, rfl, _, _, rfl, rfl, hmul, _, rfl, _, rfl, z, _, c', rfl, rfl, hz, hat, _, _, rfl, hin, (by show 1 ≤ 640; decide), _, _, rfl, rfl, ?_⟩
            refine ⟨_, rfl, _, _, rfl, rfl, (TL.tl z).length - (a' + 1), by omega, a' + 1, n * 10 + (c' - 48), rfl, ?_, rfl, h', e1, by omega⟩
            show [some (V.str z), some (V.int (((a' : Nat) : Int) + 1)), some (V.int ((most : Nat) : Int)), some (V.int (((n : Nat) : Int) * 10 + ((c' - 48 : Nat) : Int)))] = _
            rw [Int.natCast_add, Int.natCast_add, Int.natCast_mul]
            rfl
          · have h : ¬ ((n : Nat) : Int) * 10 + ((c' - 48 : Nat) : Int) ≤ ((most : Nat) : Int) := of_decide_eq_false (Bool.eq_false_iff.mpr h)
            rw [if_neg (fun x => h (by omega))] at stp
            exact fin stp
        · have hd2 : (decide (48 ≤ c') && decide (c' ≤ 57)) = false := Bool.eq_false_iff.mpr hd'
          rw [hd2]
          rw [if_neg (fun x => hd' x.1)] at stp
          exact iteF (iteF (fin stp))
    · have e : sgB (fun c => decide (49 ≤ c) && decide (c ≤ 57)) (TL.tl z) a = false := by
        cases hc' : (TL.tl z)[a]? with
        | none => exact sgB_none hc'
        | some c =>
          rw [sgB_some hc']
          refine Bool.eq_false_iff.mpr fun h => hc ⟨c, hc', ?_⟩
          rw [Bool.and_eq_true, decide_eq_true_eq, decide_eq_true_eq] at h
          exact ⟨digB_iff.mpr (by omega), by omega⟩
      rw [e]
      have g : RzP cB a H E := by
        unfold rdNum at g
        cases hc' : (TL.tl z)[a]? with
        | none =>
          rw [hc'] at g
          exact g
        | some c =>
          rw [hc'] at g
          dsimp only at g
          rw [if_neg (fun x => hc ⟨c, hc', x⟩)] at g
          exact g
      exact iteT ⟨_, rfl, RzP.go g⟩
theorem ri_line {k d : Nat} {spR : Sp} (D : Def K mg "read_item" (topS 82) ["text", "at", "depth", "room"]) (C_is_letter : CalN CX0 P w K mg base 1 "is_letter" ["text"] spIl) (C_read_name : CalN CX0 P w K mg base 2 "read_name" ["text", "at"] (spRn K))
    (X_behind : CalN (L2.CX P w) P w K mg base 3 "behind" ["text", "at", "signs"] (spBh cB)) (X_read_number : CalN (L2.CX P w) P w K mg base 3 "read_number" ["text", "at", "most"] (spRm K cB)) (X_read_items : CalN (L2.CX P w) P w K mg base k "read_items" ["text", "at", "depth", "room"] spR) (hk : 3 ≤ k)
    (hR : d = 0 ∨ ∃ e, d = e + 1 ∧ spR = spRis K cB e) (R_BadText : Err1 P w K mg base "BadText" cB "position") (g_MOST_TICKS : mg "MOST_TICKS" = some (.int 1000000000000 tT)) (g_MOST_ROUNDS : mg "MOST_ROUNDS" = some (.int 1000000000000000000 tR)) (nb : NB mg) :
    CalN (L2.CX P w) P w K mg base (k + 1) "read_item" ["text", "at", "depth", "room"] (spRi K cB d) := by
  refine D.okN scRi (fun vs H Q E h => ?_) (fun fa cdv A outer sh H vs Q E hr h => ?_)
  · obtain ⟨z, a, r, rfl, _⟩ := h
    rfl
  · obtain ⟨z, a, r, rfl, hz, r1, r2, g⟩ := h
    refine ⟨_, (pss_cons (ps_if (pt_val (pcallO C_is_letter (hr.mono (by omega)) (by rfl) (pa_cons (pe_slice sl_str (pv 0) (po_some (pv 1)) (po_some (pe_op op_add (pv 1) pe_int))) pa_nil)))
        (pss_cons (ps_asg (pcallO C_read_name (hr.mono (by omega)) (by rfl) (pa_cons (pv 0) (pa_cons (pv 1) pa_nil))) (pg_tup rfl (pgs_cons (pg_name (i := 4) scRi.nd rfl (Or.inl rfl)) (pgs_cons (pg_name (i := 1) scRi.nd rfl (Or.inl rfl)) pgs_nil))))
        (pss_cons (ps_asg (pcallN X_read_number (hr.mono (by omega)) (by rfl) (takes_of rfl rfl rfl rfl) (fun _ _ _ _ h => h) (pa_cons (pv 0) (pa_cons (pcallN X_behind (hr.mono (by omega)) (by rfl) (takes_of rfl rfl rfl rfl) (fun _ _ _ _ h => h) (pa_cons (pv 0) (pa_cons (pv 1) (pa_cons pe_str pa_nil)))) (pa_cons (pe_glob (v := .int 1000000000000) rfl g_MOST_TICKS ⟨_, rfl⟩) pa_nil)))) (pg_tup rfl (pgs_cons (pg_name (i := 5) scRi.nd rfl (Or.inl rfl)) (pgs_cons (pg_name (i := 1) scRi.nd rfl (Or.inl rfl)) pgs_nil))))
        (pss_one (ps_ret (pe_tup (pa_cons (pe_tup (pa_cons pe_str (pa_cons (pv 4) (pa_cons (pv 5) pa_nil)))) (pa_cons (pv 1) (pa_cons (pe_op op_sub (pv 3) pe_int) pa_nil))))))))
        pss_nil)
      (pss_cons (ps_if (PW.pt (pw_or (pt_cmpR op_eq (pv 2) pe_int (nomark _)) (pw_or1 (pt_cmpR op_lt (pv 3) pe_int (nomark _)))))
        (pss_one (ps_raise1 R_BadText rfl (hr.mono (by omega)) (by rfl) (takes_of rfl rfl rfl rfl) (pv 1)))
        pss_nil)
      (pss_cons (ps_asg (pcallN X_read_number (hr.mono (by omega)) (by rfl) (takes_of rfl rfl rfl rfl) (fun _ _ _ _ h => h) (pa_cons (pv 0) (pa_cons (pv 1) (pa_cons (pe_glob (v := .int 1000000000000000000) rfl g_MOST_ROUNDS ⟨_, rfl⟩) pa_nil)))) (pg_tup rfl (pgs_cons (pg_name (i := 6) scRi.nd rfl (Or.inl rfl)) (pgs_cons (pg_name (i := 1) scRi.nd rfl (Or.inl rfl)) pgs_nil))))
      (pss_cons (ps_asg (pcallN X_read_items (hr.mono (by omega)) (by rfl) (takes_of rfl rfl rfl rfl) (fun _ _ _ _ h => h) (pa_cons (pv 0) (pa_cons (pcallN X_behind (hr.mono (by omega)) (by rfl) (takes_of rfl rfl rfl rfl) (fun _ _ _ _ h => h) (pa_cons (pv 0) (pa_cons (pv 1) (pa_cons pe_str pa_nil)))) (pa_cons (pe_op op_sub (pv 2) pe_int) (pa_cons (pe_op op_sub (pv 3) pe_int) pa_nil))))) (pg_tup rfl (pgs_cons (pg_name (i := 7) scRi.nd rfl (Or.inl rfl)) (pgs_cons (pg_name (i := 1) scRi.nd rfl (Or.inl rfl)) (pgs_cons (pg_name (i := 3) scRi.nd rfl (Or.inl rfl)) pgs_nil)))))
      (pss_one (ps_ret (pe_tup (pa_cons (pe_tup (pa_cons pe_str (pa_cons (pv 6) (pa_cons (pv 7) pa_nil)))) (pa_cons (pcallN X_behind (hr.mono (by omega)) (by rfl) (takes_of rfl rfl rfl rfl) (fun _ _ _ _ h => h) (pa_cons (pv 0) (pa_cons (pv 1) (pa_cons pe_str pa_nil)))) (pa_cons (pv 3) pa_nil)))))))))), ?_⟩
    have sl := sizeLine_eq
    refine sl1_go hz rfl rfl _ ⟨_, rfl, ?_⟩
    rw [sg_let]
    refine ⟨_, rfl, ite2 (fun e => ?_) (fun e => ?_)⟩
    · have g : RdG (rdLine (TL.tl z) a r) cB H E fun b => ∀ H' u, Same H H' → Da K H' u (.tuple [It.d b.1, .int (b.2.1 : Nat), .int (b.2.2 : Nat)]) → Q u H' := by
        cases d <;> (rw [rdIt] at g; dsimp only at g; rw [if_pos e] at g; exact g)
      unfold rdLine at g
      refine ⟨_, rfl, _, rfl, z, a, rfl, hz, fun H1 u1 s1 hu1 => ?_⟩
      obtain ⟨b1, x1, y1, rfl, hq1, hx1, hy1⟩ := da2 hu1
      cases da_strE hx1
      cases da_intE hy1
      refine ⟨b1, _, rfl, hq1, rfl, _, _, rfl, _, _, rfl, rfl, ?_⟩
      refine ⟨_, rfl, _, rfl, _, rfl, z, Str.ofString ":", _, rfl, hz, by decide +kernel, ?_⟩
      rw [show TL.tl (Str.ofString ":") = [58] from by decide +kernel]
      cases hB : rdBh (TL.tl z) [58] (nameEnd (TL.tl z) a) with
      | error e =>
        rw [hB] at g
        exact RzP.same g s1
      | ok b =>
        rw [hB] at g
        dsimp only at g
        intro H2 s2
        refine ⟨z, b, 1000000000000, rfl, hz, by decide, by decide, ?_⟩
        cases hN : rdNum (TL.tl z) 1000000000000 b with
        | error e =>
          rw [hN] at g
          exact RzP.same g (s1.trans s2)
        | ok tc =>
          obtain ⟨t, c⟩ := tc
          rw [hN] at g
          dsimp only at g
          intro H3 u3 s3 hu3
          obtain ⟨b3, x3, y3, rfl, hq3, hx3, hy3⟩ := da2 hu3
          cases da_intE hx3
          cases da_intE hy3
          refine ⟨b3, _, rfl, hq3, rfl, _, _, rfl, _, _, rfl, rfl, ?_⟩
          refine ⟨_, rfl, _, rfl, (by show 3 ≤ sizeLine; rw [sl]; decide), fun p np => ⟨_, rfl, _, rfl, _, _, rfl, rfl, (by show 3 ≤ sizeLine; rw [sl]; decide), fun p2 np2 => ?_⟩⟩
          refine g _ _ (s1.trans (s2.trans (s3.trans ((same_put np).trans (same_put np2))))) (.tup (.inl (.inl upd_same)) (.cons ?_ (.cons (.int _) (.cons ?_ .nil))))
          · show Da K _ _ (It.d (.line (cutN (TL.tl z) a (nameEnd (TL.tl z) a)) (t : Nat)))
            rw [It.d]
            exact .tup (.inl (.inl (same_put np2 _ _ upd_same))) (.cons (.str _) (.cons (.str _) (.cons (.int _) .nil)))
          · show Da K _ (.int (((r : Nat) : Int) - 1)) (.int ((r - 1 : Nat) : Int))
            rw [show ((r : Nat) : Int) - 1 = ((r - 1 : Nat) : Int) by omega]
            exact .int _
    · refine ⟨_, rfl, rfl, _, rfl, ?_⟩
      cases d with
      | zero =>
        rw [rdIt] at g
        dsimp only at g
        rw [if_neg e] at g
        exact iteT (iteT ⟨_, rfl, RzP.go g⟩)
      | succ d =>
        obtain ⟨d', hd', rfl⟩ : ∃ e, d + 1 = e + 1 ∧ spR = spRis K cB e := by
          rcases hR with h | h
          · cases h
          · exact h
        obtain rfl : d = d' := by omega
        rw [rdIt] at g
        dsimp only at g
        rw [if_neg e] at g
        unfold rdLoop at g
        rw [show decide (V.int (((d + 1 : Nat) : Nat) : Int) = V.int 0) = false from decide_eq_false fun z => by
          have z := V.int.inj z
          omega]
        refine iteF ⟨_, rfl, _, _, rfl, rfl, _, rfl, ite2 (fun h => ?_) (fun h => ?_)⟩
        · have h : ((r : Nat) : Int) < 2 := of_decide_eq_true h
          rw [if_pos (show r < 2 by omega)] at g
          exact ⟨_, rfl, RzP.go g⟩
        · have h : ¬ ((r : Nat) : Int) < 2 := of_decide_eq_false (Bool.eq_false_iff.mpr h)
          rw [if_neg (show ¬ r < 2 by omega)] at g
          refine ⟨_, rfl, _, rfl, z, a, 1000000000000000000, rfl, hz, by decide, by decide, ?_⟩
          cases hN : rdNum (TL.tl z) 1000000000000000000 a with
          | error e =>
            rw [hN] at g
            exact g
          | ok tc =>
            obtain ⟨t, c⟩ := tc
            rw [hN] at g
            dsimp only at g
            intro H1 u1 s1 hu1
            obtain ⟨b1, x1, y1, rfl, hq1, hx1, hy1⟩ := da2 hu1
            cases da_intE hx1
            cases da_intE hy1
            refine ⟨b1, _, rfl, hq1, rfl, _, _, rfl, _, _, rfl, rfl, ?_⟩
            refine ⟨_, rfl, _, rfl, _, rfl, z, Str.ofString "*(", _, rfl, hz, by decide +kernel, ?_⟩
            rw [show TL.tl (Str.ofString "*(") = [42, 40] from by decide +kernel]
            cases hB : rdBh (TL.tl z) [42, 40] c with
            | error e =>
              rw [hB] at g
              exact RzP.same g s1
            | ok b =>
              rw [hB] at g
              dsimp only at g
              intro H2 s2
              refine ⟨_, rfl, _, _, rfl, rfl, _, rfl, _, _, rfl, rfl, z, b, r - 1, ?_, hz, by omega, by omega, ?_⟩
              · show [V.str z, V.int (b : Nat), V.int (((d + 1 : Nat) : Int) - 1), V.int (((r : Nat) : Int) - 1)] = _
                rw [show ((d + 1 : Nat) : Int) - 1 = ((d : Nat) : Int) by omega, show ((r : Nat) : Int) - 1 = ((r - 1 : Nat) : Int) by omega]
              cases hI : rdMany (rdIt (TL.tl z) d) (TL.tl z) b (r - 1) with
              | error e =>
                rw [hI] at g
                exact RzP.same g (s1.trans s2)
              | ok tr =>
                obtain ⟨is, c2, r3⟩ := tr
                rw [hI] at g
                dsimp only at g
                intro H3 u3 s3 hu3
                obtain ⟨b3, x3, y3, v3, rfl, hq3, hx3, hy3, hv3⟩ := da3 hu3
                cases da_intE hy3
                cases da_intE hv3
                refine ⟨b3, _, rfl, hq3, rfl, _, _, rfl, _, _, rfl, _, _, rfl, rfl, ?_⟩
                refine ⟨_, rfl, _, rfl, (by show 3 ≤ sizeLine; rw [sl]; decide), fun p np => ⟨_, rfl, _, rfl, z, Str.ofString ")", _, rfl, hz, by decide +kernel, ?_⟩⟩
                rw [show TL.tl (Str.ofString ")") = [41] from by decide +kernel]
                cases hC : rdBh (TL.tl z) [41] c2 with
                | error e =>
                  rw [hC] at g
                  exact RzP.same g (s1.trans (s2.trans (s3.trans (same_put np))))
                | ok e2 =>
                  rw [hC] at g
                  dsimp only at g
                  intro H4 s4
                  refine ⟨_, rfl, (by show 3 ≤ sizeLine; rw [sl]; decide), fun p2 np2 => ?_⟩
                  have s5 := s4.trans (same_put (o := .tup [.ref p, .int (e2 : Nat), .int (r3 : Nat)]) np2)
                  refine g _ _ (s1.trans (s2.trans (s3.trans ((same_put np).trans s5)))) (.tup (.inl (.inl upd_same)) (.cons ?_ (.cons (.int _) (.cons (.int _) .nil))))
                  show Da K _ _ (It.d (.loop (t : Nat) is))
                  rw [It.d, Its.d_map]
                  exact .tup (.inl (.inl (s5 _ _ upd_same))) (.cons (.str _) (.cons (.int _) (.cons (hx3.mono ((same_put np).trans s5)) .nil)))
theorem ris_step {k d : Nat} (D : Def K mg "read_items" (topS 81) ["text", "at", "depth", "room"]) (X_read_item : CalN (L2.CX P w) P w K mg base k "read_item" ["text", "at", "depth", "room"] (spRi K cB d)) (g_MOST_BESIDE : mg "MOST_BESIDE" = some (.int 20 tE)) (nb : NB mg) :
    CalN (L2.CX P w) P w K mg base (k + 1) "read_items" ["text", "at", "depth", "room"] (spRis K cB d) := by
  refine D.okN scRis (fun vs H Q E h => ?_) (fun fa cdv A outer sh H vs Q E hr h => ?_)
  · obtain ⟨z, a, r, rfl, _⟩ := h
    rfl
  · obtain ⟨z, a, r, rfl, hz, r1, r2, g⟩ := h
    refine ⟨_, (pss_cons (ps_asg (pcallN X_read_item (hr.mono (by omega)) (by rfl) (takes_of rfl rfl rfl rfl) (fun _ _ _ _ h => h) (pa_cons (pv 0) (pa_cons (pv 1) (pa_cons (pv 2) (pa_cons (pv 3) pa_nil))))) (pg_tup rfl (pgs_cons (pg_name (i := 4) scRis.nd rfl (Or.inl rfl)) (pgs_cons (pg_name (i := 1) scRis.nd rfl (Or.inl rfl)) (pgs_cons (pg_name (i := 3) scRis.nd rfl (Or.inl rfl)) pgs_nil)))))
      (pss_cons (ps_set (i := 5) scRis.nd rfl (.inl rfl) (pe_lst (pa_cons (pv 4) pa_nil)))
      (pss_cons (ps_while (passes_of rfl) (PW.pt (pw_and (pt_cmpR op_eq (pe_slice sl_str (pv 0) (po_some (pv 1)) (po_some (pe_op op_add (pv 1) pe_int))) pe_str (nomark _)) (pw_and (pt_cmpR op_lt (pe_callB call_len_seq (by rfl) nb.at PySem.boot_len (pa_cons (pv 5) pa_nil)) (pe_glob (v := .int 20) rfl g_MOST_BESIDE ⟨_, rfl⟩) (nomark _)) (pw_and1 (pt_cmpR op_gt (pv 3) pe_int (nomark _))))))
        (pss_cons (ps_asg (pcallN X_read_item (hr.mono (by omega)) (by rfl) (takes_of rfl rfl rfl rfl) (fun _ _ _ _ h => h) (pa_cons (pv 0) (pa_cons (pe_op op_add (pv 1) pe_int) (pa_cons (pv 2) (pa_cons (pv 3) pa_nil))))) (pg_tup rfl (pgs_cons (pg_name (i := 4) scRis.nd rfl (Or.inl rfl)) (pgs_cons (pg_name (i := 1) scRis.nd rfl (Or.inl rfl)) (pgs_cons (pg_name (i := 3) scRis.nd rfl (Or.inl rfl)) pgs_nil)))))
        (pss_one (ps_expr (pe_bm PySem.F.plainAttrs_list PySem.F.slot_list_append PySem.F.type_list_append mt_append (pv 5) (pa_cons (pv 4) pa_nil))))))
      (pss_one (ps_ret (pe_tup (pa_cons (pe_callTy call_tuple_of (by rfl) nb.at (by decide +kernel) (pa_cons (pv 5) pa_nil)) (pa_cons (pv 1) (pa_cons (pv 3) pa_nil))))))))), ?_⟩
    have sl := sizeLine_eq
    have s32 : Str.ofString " " = ⟨([32] : List Nat).toArray⟩ := by decide +kernel
    rw [rdMany_app] at g
    refine ⟨_, rfl, _, rfl, _, rfl, _, rfl, z, a, r, rfl, hz, r1, r2, ?_⟩
    cases hI : rdIt (TL.tl z) d a r with
    | error e =>
      rw [hI] at g
      exact g
    | ok x =>
      rw [hI] at g
      dsimp only at g
      intro H1 u1 s1 hu1
      obtain ⟨b1, x1, y1, v1, rfl, hq1, hx1, hy1, hv1⟩ := da3 hu1
      cases da_intE hy1
      cases da_intE hv1
      refine ⟨b1, _, rfl, hq1, rfl, _, _, rfl, _, _, rfl, _, _, rfl, rfl, ?_⟩
      refine ⟨_, rfl, (by show 1 ≤ sizeLine; rw [sl]; decide), fun l nl => ?_⟩
      have hro := rdIt_room hI
      refine ⟨fun m σ' H' => ∃ (js : List It) (us : List V) (a2 rr : Nat) (v : V), m + js.length = 20 ∧ 1 ≤ js.length ∧ rr ≤ 60 ∧ σ' = [some (.str z), some (.int (a2 : Nat)), some (.int (d : Nat)), some (.int (rr : Nat)), some v, some (.ref l)] ∧ Same H H' ∧ H' l = some (.lst us) ∧ DaAll K H' us (js.map It.d) ∧
          RdG (rdApp js (rdMore (rdIt (TL.tl z) d) (TL.tl z) m a2 rr)) cB H E fun b => ∀ H' u, Same H H' → Da K H' u (.tuple [.tuple (b.1.map It.d), .int (b.2.1 : Nat), .int (b.2.2 : Nat)]) → Q u H',
        ⟨19, [x.1], [x1], x.2.1, x.2.2, x1, rfl, Nat.le_refl _, by omega, rfl, s1.trans (same_put nl), upd_same, .cons (hx1.mono (same_put nl)) .nil, g⟩, ?_⟩
      rintro m σ' H2 ⟨js, us, a2, rr, v, hm, hj, hrr, rfl, s2, hl2, hd2, g2⟩
      have hul := daAll_len hd2
      rw [List.length_map] at hul
      have fin : (m = 0 ∨ ¬ ((TL.tl z)[a2]? = some 32 ∧ 0 < rr)) → ∀ H3, Same H2 H3 → tRet (tTup (tCons (tCB (rTupOf K) (tCons (tVar 5) tNil)) (tCons (tVar 1) (tCons (tVar 3) tNil)))) { nx := fun _ H' => Q .non H', rt := Q } [some (.str z), some (.int (a2 : Nat)), some (.int (d : Nat)), some (.int (rr : Nat)), some v, some (.ref l)] H3 := fun e H3 s3 => by
        rw [rdMore_no e] at g2
        refine ⟨_, rfl, l, us, rfl, .inl ⟨.inl (.inl (s3 _ _ hl2)), fun t nt => ⟨_, rfl, _, rfl, (by show 3 ≤ sizeLine; rw [sl]; decide), fun p np => ?_⟩⟩⟩
        have s5 := (same_put (o := .tup us) nt).trans (same_put (o := .tup [.ref t, .int (a2 : Nat), .int (rr : Nat)]) np)
        exact g2 _ _ (s2.trans (s3.trans s5)) (.tup (.inl (.inl upd_same)) (.cons (.tup (.inl (.inl (same_put np _ _ upd_same))) (hd2.mono (s3.trans s5))) (.cons (.int _) (.cons (.int _) .nil))))
      refine sl1_go hz rfl rfl _ ⟨rfl, _, rfl, ?_⟩
      rw [s32]
      by_cases e : (TL.tl z)[a2]? = some 32
      · rw [decide_eq_true (str_mk.mpr (sgN_eq.mpr e))]
        refine iteT ⟨_, rfl, l, us, rfl, .inl (.inl (.inl hl2)), _, _, rfl, rfl, _, rfl, ite2 (fun h => ?_) (fun h => ?_)⟩
        · have h : ((us.length : Nat) : Int) < 20 := of_decide_eq_true h
          refine ⟨_, rfl, _, _, rfl, rfl, _, rfl, ite2 (fun h2 => ?_) (fun h2 => ?_)⟩
          · have h2 : (0 : Int) < ((rr : Nat) : Int) := of_decide_eq_true h2
            obtain ⟨m, rfl⟩ : ∃ k, m = k + 1 := ⟨m - 1, by omega⟩
            rw [rdMore_yes ⟨e, by omega⟩] at g2
            refine ⟨_, fun _ _ n => n, _, rfl, _, rfl, _, _, rfl, rfl, _, rfl, _, rfl, z, a2 + 1, rr, ?_, hz, by omega, hrr, ?_⟩
            · show [V.str z, V.int (((a2 : Nat) : Int) + 1), V.int (d : Nat), V.int (rr : Nat)] = _
              rw [Int.natCast_add]
              rfl
            cases hI2 : rdIt (TL.tl z) d (a2 + 1) rr with
            | error e =>
              rw [hI2] at g2
              exact RzP.same g2 s2
            | ok x2 =>
              rw [hI2] at g2
              dsimp only at g2
              intro H3 u3 s3 hu3
              obtain ⟨b3, x3, y3, v3, rfl, hq3, hx3, hy3, hv3⟩ := da3 hu3
              cases da_intE hy3
              cases da_intE hv3
              have hro2 := rdIt_room hI2
              have hl3 : H3 l = some (.lst us) := s3 _ _ hl2
              refine ⟨b3, _, rfl, hq3, rfl, _, _, rfl, _, _, rfl, _, _, rfl, rfl, ?_⟩
              refine ⟨_, rfl, .inl ⟨rfl, _, .inl (.inl hl3)⟩, _, rfl, l, us, _, rfl, rfl, hl3, by omega, ?_⟩
              have kt : Kt H3 (upd H3 l (.lst (us ++ [x3]))) := Kt.put hl3
              have nlH : H l = none := back_none s1 nl
              have s4 : Same H (upd H3 l (.lst (us ++ [x3]))) := fun b o e => by
                rw [upd_ne (ne_of_none e nlH)]
                exact s3 _ _ (s2 _ _ e)
              refine ⟨m, by omega, js ++ [x2.1], us ++ [x3], x2.2.1, x2.2.2, x3, by rw [List.length_append, List.length_singleton]; omega, by rw [List.length_append]; omega, by omega, rfl, s4, upd_same, ?_, g2⟩
              rw [List.map_append]
              have t1 := prog_tup js
              rw [tupD] at t1
              have t2 := prog_tup [x2.1]
              rw [tupD] at t2
              exact da_app (DaAll.kt kt t1 (hd2.mono s3)) (DaAll.kt kt t2 (.cons hx3 .nil))
          · have h2 : ¬ (0 : Int) < ((rr : Nat) : Int) := of_decide_eq_false (Bool.eq_false_iff.mpr h2)
            exact fin (.inr fun x => h2 (by omega)) _ Same.rfl'
        · have h : ¬ ((us.length : Nat) : Int) < 20 := of_decide_eq_false (Bool.eq_false_iff.mpr h)
          exact fin (.inl (by omega)) _ Same.rfl'
      · rw [decide_eq_false (fun h => e (sgN_eq.mp (str_mk.mp h)))]
        exact iteF (iteF (fin (.inr fun x => e x.1) _ Same.rfl'))
theorem no_calN {x : Str} {st : Stmt} {ps : List Str} {k : Nat} (D : Def K mg x st ps) : CalN (L2.CX P w) P w K mg base k x ps (fun _ _ _ _ => False) := by
  obtain ⟨f, fd, F, b, m⟩ := D.ex
  exact ⟨f, fd, no_fn, b, m, F.kp⟩
theorem ok_ris (D_read_item : Def K mg "read_item" (topS 82) ["text", "at", "depth", "room"]) (D_read_items : Def K mg "read_items" (topS 81) ["text", "at", "depth", "room"]) (C_is_letter : CalN CX0 P w K mg base 1 "is_letter" ["text"] spIl) (C_read_name : CalN CX0 P w K mg base 2 "read_name" ["text", "at"] (spRn K))
    (X_behind : CalN (L2.CX P w) P w K mg base 3 "behind" ["text", "at", "signs"] (spBh cB)) (X_read_number : CalN (L2.CX P w) P w K mg base 3 "read_number" ["text", "at", "most"] (spRm K cB)) (R_BadText : Err1 P w K mg base "BadText" cB "position") (g_MOST_TICKS : mg "MOST_TICKS" = some (.int 1000000000000 tT)) (g_MOST_ROUNDS : mg "MOST_ROUNDS" = some (.int 1000000000000000000 tR))
    (g_MOST_BESIDE : mg "MOST_BESIDE" = some (.int 20 tE)) (nb : NB mg) : ∀ d : Nat, CalN (L2.CX P w) P w K mg base (2 * d + 5) "read_items" ["text", "at", "depth", "room"] (spRis K cB d)
  | 0 => ris_step (k := 4) D_read_items (ri_line (k := 3) D_read_item C_is_letter C_read_name X_behind X_read_number (no_calN D_read_items) (Nat.le_refl 3) (.inl rfl) R_BadText g_MOST_TICKS g_MOST_ROUNDS nb) g_MOST_BESIDE nb
  | d + 1 => ris_step (k := 2 * d + 6) D_read_items (ri_line (k := 2 * d + 5) D_read_item C_is_letter C_read_name X_behind X_read_number (ok_ris D_read_item D_read_items C_is_letter C_read_name X_behind X_read_number R_BadText g_MOST_TICKS g_MOST_ROUNDS g_MOST_BESIDE nb d) (by omega) (.inr ⟨d, rfl, rfl⟩) R_BadText g_MOST_TICKS g_MOST_ROUNDS nb) g_MOST_BESIDE nb
theorem ok_rp {tD tI : Tok} (D : Def K mg "read_program" (topS 79) ["text"]) (X_read_items : CalN (L2.CX P w) P w K mg base 15 "read_items" ["text", "at", "depth", "room"] (spRis K cB 5)) (R_BadText : Err1 P w K mg base "BadText" cB "position")
    (g_MOST_DEEP : mg "MOST_DEEP" = some (.int 5 tD)) (g_MOST_ITEMS : mg "MOST_ITEMS" = some (.int 60 tI)) (nb : NB mg) : CalN (L2.CX P w) P w K mg base 16 "read_program" ["text"] (spRp K cB) := by
  refine D.okN scRpg (fun vs H Q E h => ?_) (fun fa cdv A outer sh H vs Q E hr h => ?_)
  · obtain ⟨v, dd, rfl, _⟩ := h
    rfl
  · obtain ⟨v, dd, rfl, hd, g1, g2⟩ := h
    refine ⟨_, (pss_cons (ps_if (pt_not (pt_val (pe_isT (.inr (.inr (.inr rfl))) nb.at (fun _ => pv 0) (fun _ => ty_of rfl nb.at (by decide +kernel)))))
        (pss_one (ps_raise1 R_BadText rfl (hr.mono (by omega)) (by rfl) (takes_of rfl rfl rfl rfl) pe_int))
        pss_nil)
      (pss_cons (ps_asg (pcallN X_read_items (hr.mono (by omega)) (by rfl) (takes_of rfl rfl rfl rfl) (fun _ _ _ _ h => h) (pa_cons (pv 0) (pa_cons pe_int (pa_cons (pe_glob (v := .int 5) rfl g_MOST_DEEP ⟨_, rfl⟩) (pa_cons (pe_glob (v := .int 60) rfl g_MOST_ITEMS ⟨_, rfl⟩) pa_nil))))) (pg_tup rfl (pgs_cons (pg_name (i := 1) scRpg.nd rfl (Or.inl rfl)) (pgs_cons (pg_name (i := 2) scRpg.nd rfl (Or.inl rfl)) (pgs_cons (pg_name (i := 3) scRpg.nd rfl (Or.inl rfl)) pgs_nil)))))
      (pss_cons (ps_if (pt_cmpR op_lt (pv 2) (pe_callB call_len_str (by rfl) nb.at (by decide +kernel) (pa_cons (pv 0) pa_nil)) (nomark _))
        (pss_one (ps_raise1 R_BadText rfl (hr.mono (by omega)) (by rfl) (takes_of rfl rfl rfl rfl) (pv 2)))
        pss_nil)
      (pss_one (ps_ret (pv 1)))))), ?_⟩
    have sl := sizeLine_eq
    by_cases hs : ∃ z, dd = .str z
    · obtain ⟨z, rfl⟩ := hs
      obtain ⟨hz, g⟩ := g1 z rfl
      cases da_strE hd
      refine ⟨_, .str z, rfl, .str z, true, congrArg V.bl (by rw [isD_str]), iteF ?_⟩
      unfold rdP at g
      refine ⟨_, rfl, z, 0, 60, rfl, hz, by decide, by decide, ?_⟩
      cases hI : rdMany (rdIt (TL.tl z) 5) (TL.tl z) 0 60 with
      | error e =>
        rw [hI] at g
        exact g
      | ok x =>
        obtain ⟨is, a, r⟩ := x
        rw [hI] at g
        dsimp only at g
        intro H1 u1 s1 hu1
        obtain ⟨b1, x1, y1, v1, rfl, hq1, hx1, hy1, hv1⟩ := da3 hu1
        cases da_intE hy1
        cases da_intE hv1
        refine ⟨b1, _, rfl, hq1, rfl, _, _, rfl, _, _, rfl, _, _, rfl, rfl, ?_⟩
        have hlen : ((z.length : Nat) : Int) = (((TL.tl z).length : Nat) : Int) := by rw [TL.len_tl]
        refine ⟨_, rfl, _, rfl, z, rfl, hz, _, _, rfl, rfl, _, rfl, ite2 (fun h => ?_) (fun h => ?_)⟩
        · have h : ((a : Nat) : Int) < ((z.length : Nat) : Int) := of_decide_eq_true h
          rw [if_pos (show a < (TL.tl z).length by omega)] at g
          exact ⟨_, rfl, RzP.go (RzP.same g s1)⟩
        · have h : ¬ ((a : Nat) : Int) < ((z.length : Nat) : Int) := of_decide_eq_false (Bool.eq_false_iff.mpr h)
          rw [if_neg (show ¬ a < (TL.tl z).length by omega)] at g
          exact ⟨_, rfl, g H1 x1 s1 hx1⟩
    · refine ⟨_, dd, rfl, hd, false, congrArg V.bl ?_, iteT (RzP.go (g2 fun z e => hs ⟨z, e⟩))⟩
      rw [isD_str]
      cases dd with
      | str z => exact absurd ⟨z, rfl⟩ hs
      | _ => rfl
theorem ok_rpB {tD tI : Tok} (D : Def K mg "read_program" (topS 79) ["text"]) (X_read_items : CalN (L2.CX P w) P w K mg base 15 "read_items" ["text", "at", "depth", "room"] (spRis K cB 5)) (R_BadText : Err1 P w K mg base "BadText" cB "position")
    (g_MOST_DEEP : mg "MOST_DEEP" = some (.int 5 tD)) (g_MOST_ITEMS : mg "MOST_ITEMS" = some (.int 60 tI)) (nb : NB mg) : CalBX (L2.CX P w) P w K mg base 16 "read_program" (topS 79) ["text"] (spRp K cB) := by
  refine D.okBN scRpg (fun vs H Q E h => ?_) (fun fa cdv A outer sh H vs Q E hr h => ?_)
  · obtain ⟨v, dd, rfl, _⟩ := h
    rfl
  · obtain ⟨v, dd, rfl, hd, g1, g2⟩ := h
    refine ⟨_, (pss_cons (ps_if (pt_not (pt_val (pe_isT (.inr (.inr (.inr rfl))) nb.at (fun _ => pv 0) (fun _ => ty_of rfl nb.at (by decide +kernel)))))
        (pss_one (ps_raise1 R_BadText rfl (hr.mono (by omega)) (by rfl) (takes_of rfl rfl rfl rfl) pe_int))
        pss_nil)
      (pss_cons (ps_asg (pcallN X_read_items (hr.mono (by omega)) (by rfl) (takes_of rfl rfl rfl rfl) (fun _ _ _ _ h => h) (pa_cons (pv 0) (pa_cons pe_int (pa_cons (pe_glob (v := .int 5) rfl g_MOST_DEEP ⟨_, rfl⟩) (pa_cons (pe_glob (v := .int 60) rfl g_MOST_ITEMS ⟨_, rfl⟩) pa_nil))))) (pg_tup rfl (pgs_cons (pg_name (i := 1) scRpg.nd rfl (Or.inl rfl)) (pgs_cons (pg_name (i := 2) scRpg.nd rfl (Or.inl rfl)) (pgs_cons (pg_name (i := 3) scRpg.nd rfl (Or.inl rfl)) pgs_nil)))))
      (pss_cons (ps_if (pt_cmpR op_lt (pv 2) (pe_callB call_len_str (by rfl) nb.at (by decide +kernel) (pa_cons (pv 0) pa_nil)) (nomark _))
        (pss_one (ps_raise1 R_BadText rfl (hr.mono (by omega)) (by rfl) (takes_of rfl rfl rfl rfl) (pv 2)))
        pss_nil)
      (pss_one (ps_ret (pv 1)))))), ?_⟩
    have sl := sizeLine_eq
    by_cases hs : ∃ z, dd = .str z
    · obtain ⟨z, rfl⟩ := hs
      obtain ⟨hz, g⟩ := g1 z rfl
      cases da_strE hd
      refine ⟨_, .str z, rfl, .str z, true, congrArg V.bl (by rw [isD_str]), iteF ?_⟩
      unfold rdP at g
      refine ⟨_, rfl, z, 0, 60, rfl, hz, by decide, by decide, ?_⟩
      cases hI : rdMany (rdIt (TL.tl z) 5) (TL.tl z) 0 60 with
      | error e =>
        rw [hI] at g
        exact g
      | ok x =>
        obtain ⟨is, a, r⟩ := x
        rw [hI] at g
        dsimp only at g
        intro H1 u1 s1 hu1
        obtain ⟨b1, x1, y1, v1, rfl, hq1, hx1, hy1, hv1⟩ := da3 hu1
        cases da_intE hy1
        cases da_intE hv1
        refine ⟨b1, _, rfl, hq1, rfl, _, _, rfl, _, _, rfl, _, _, rfl, rfl, ?_⟩
        have hlen : ((z.length : Nat) : Int) = (((TL.tl z).length : Nat) : Int) := by rw [TL.len_tl]
        refine ⟨_, rfl, _, rfl, z, rfl, hz, _, _, rfl, rfl, _, rfl, ite2 (fun h => ?_) (fun h => ?_)⟩
        · have h : ((a : Nat) : Int) < ((z.length : Nat) : Int) := of_decide_eq_true h
          rw [if_pos (show a < (TL.tl z).length by omega)] at g
          exact ⟨_, rfl, RzP.go (RzP.same g s1)⟩
        · have h : ¬ ((a : Nat) : Int) < ((z.length : Nat) : Int) := of_decide_eq_false (Bool.eq_false_iff.mpr h)
          rw [if_neg (show ¬ a < (TL.tl z).length by omega)] at g
          exact ⟨_, rfl, g H1 x1 s1 hx1⟩
    · refine ⟨_, dd, rfl, hd, false, congrArg V.bl ?_, iteT (RzP.go (g2 fun z e => hs ⟨z, e⟩))⟩
      rw [isD_str]
      cases dd with
      | str z => exact absurd ⟨z, rfl⟩ hs
      | _ => rfl
end
end Ev

/-! ## for i, x in enumerate(a list) -/
namespace Ev
open PySem PySem.Spec PyProof.Rows L2
theorem for_enumL {K : PySem.W.Frag} {a : Addr} {xs : List V} {g : TG} {tb : TS} {D : Ends} {σ : L2.St} {H : Hp} (Pv : Nat → L2.St → Hp → Prop) (h0 : Pv 0 σ H) (hl : ∀ i σ H, i ≤ xs.length → Pv i σ H → SqL K H a xs)
    (hs : ∀ i x σ H T, xs[i]? = some x → Pv i σ H → H T = none → g (.ref T) σ (upd H T (.tup [.int (i : Nat), x])) fun σ2 H2 => tb { D with nx := Pv (i + 1), ct := Pv (i + 1), bk := D.nx } σ2 H2) (hd : ∀ σ H, Pv xs.length σ H → D.nx σ H) :
    ∃ W : Nat → Nat → L2.St → Hp → Prop, (∃ m, W 0 m σ H) ∧ ∀ i m σ H, W i m σ H →
      ((Ite K a).stop i H ∧ D.nx σ H) ∨ ((Ite K a).go i H ∧ ∃ N : L2.St → Hp → Prop, (∀ σ' H', N σ' H' → ∃ m', m' < m ∧ W (i + 1) m' σ' H') ∧ ∀ x H', (Ite K a).yld i H x H' → g x σ H' fun σ2 H2 => tb { D with nx := N, ct := N, bk := D.nx } σ2 H2) := by
  refine ⟨fun i m σ H => m = xs.length - i ∧ i ≤ xs.length ∧ Pv i σ H, ⟨xs.length, rfl, Nat.zero_le _, h0⟩, ?_⟩
  rintro i m σ H ⟨rfl, hi, hp⟩
  have hq := hl i σ H hi hp
  by_cases hlt : i < xs.length
  · refine .inr ⟨⟨xs, xs[i], hq, List.getElem?_eq_getElem hlt⟩, Pv (i + 1), fun σ' H' h => ⟨xs.length - (i + 1), by omega, rfl, hlt, h⟩, ?_⟩
    rintro v H' ⟨T, x, rfl, nT, rfl, hx⟩
    exact hs i x σ H T (hx xs hq) hp nT
  · have e : i = xs.length := by omega
    subst e
    exact .inl ⟨⟨xs, hq, Nat.le_refl _⟩, hd σ H hp⟩
/-- found so far -/
structure WI (w : List Str) (cs : List Nat) (m i : Nat) : Prop where
  len : w.length = m + m
  ab : ∀ x ∈ w, x = ("a" : Str) ∨ x = ("b" : Str)
  cnt : ∀ c, c < i → c < m → (if w[c]? = some ("a" : Str) then (1 : Int) else 0) + (if w[m + c]? = some ("a" : Str) then 1 else 0) = ((cs.getD c 0 : Nat) : Int)
  rest : ∀ c, i ≤ c → c < m → w[c]? = some ("b" : Str) ∧ w[m + c]? = some ("b" : Str)
def markS (w : List Str) (i : Nat) : Bool → List Str
  | true => w.set i ("a" : Str)
  | false => w
theorem mark_len {w : List Str} {i : Nat} : ∀ {x : Bool}, (markS w i x).length = w.length
  | true => List.length_set
  | false => rfl
theorem mark_ne {w : List Str} {i j : Nat} (h : i ≠ j) : ∀ {x : Bool}, (markS w i x)[j]? = w[j]?
  | true => List.getElem?_set_ne h
  | false => rfl
theorem mark_ab {w : List Str} {i : Nat} (h : ∀ x ∈ w, x = ("a" : Str) ∨ x = ("b" : Str)) : ∀ {x : Bool}, ∀ z ∈ markS w i x, z = ("a" : Str) ∨ z = ("b" : Str)
  | true, z, hz => by
    rcases List.mem_or_eq_of_mem_set hz with e | e
    · exact h z e
    · exact .inl e
  | false, z, hz => h z hz
theorem ab_ne7 : ("a" : Str) ≠ ("b" : Str) := by decide +kernel
theorem mark_at {w : List Str} {i : Nat} (hi : i < w.length) (hb : w[i]? = some ("b" : Str)) : ∀ {x : Bool}, (if (markS w i x)[i]? = some ("a" : Str) then (1 : Int) else 0) = if x = true then 1 else 0
  | true => by
    rw [if_pos rfl, if_pos]
    exact List.getElem?_set_self hi
  | false => by
    rw [if_neg Bool.false_ne_true, if_neg]
    intro z
    have z : w[i]? = some ("a" : Str) := z
    rw [hb] at z
    exact ab_ne7 (Option.some.inj z).symm
theorem WI.next {w : List Str} {cs : List Nat} {m i : Nat} (h : WI w cs m i) (hi : i < m) {x y : Bool} (hxy : (if x = true then (1 : Int) else 0) + (if y = true then 1 else 0) = ((cs.getD i 0 : Nat) : Int)) : WI (markS (markS w i x) (m + i) y) cs m (i + 1) := by
  obtain ⟨b1, b2⟩ := h.rest i (Nat.le_refl i) hi
  have l1 : (markS w i x).length = m + m := mark_len.trans h.len
  refine ⟨mark_len.trans l1, mark_ab (mark_ab h.ab), fun c hc hcm => ?_, fun c hc hcm => ?_⟩
  · by_cases e : c = i
    · subst e
      rw [mark_ne (show m + c ≠ c by omega), mark_at (by rw [h.len]; omega) b1, mark_at (by rw [l1]; omega) (by rw [mark_ne (show c ≠ m + c by omega)]; exact b2)]
      exact hxy
    · rw [mark_ne (show m + i ≠ c by omega), mark_ne (show i ≠ c by omega), mark_ne (show m + i ≠ m + c by omega), mark_ne (show i ≠ m + c by omega)]
      exact h.cnt c (by omega) hcm
  · rw [mark_ne (show m + i ≠ c by omega), mark_ne (show i ≠ c by omega), mark_ne (show m + i ≠ m + c by omega), mark_ne (show i ≠ m + c by omega)]
    exact h.rest c (by omega) hcm
theorem WI.zero (cs : List Nat) (m : Nat) : WI (List.replicate (m + m) ("b" : Str)) cs m 0 := ⟨List.length_replicate, fun x hx => .inr (List.eq_of_mem_replicate hx), fun c hc => absurd hc (Nat.not_lt_zero c), fun c _ hc => ⟨List.getElem?_replicate_of_lt (by omega), List.getElem?_replicate_of_lt (by omega)⟩⟩
end Ev

/-! ## for i, x in enumerate(a tuple), over the library's WalksT.enumerateD and Draws.tuple -/
namespace Ev
open PySem PySem.Spec PyProof.Rows L2
/-- what enumerate(v) leaves, o being v's new iterator -/
def enumHeap (h : Heap) (o : Obj) : Heap := (h.push o).push ⟨.type "enumerate", none, .fields #[.none, .bool false, .ref h.objs.size, rawInt 0, .none, .none], #[]⟩
theorem enum_one {v : Value} {o : Obj} {G : Heap → Prop} (B : Begins v o G) :
    Meets (Builtin.«enumerate.__new__» ⟨[.type "enumerate", v], []⟩) (fun _ R s => G s.heap ∧ R (.ok (.ret (.ref (s.heap.push o).objs.size))) { s with heap := enumHeap s.heap o }) :=
  .of_wp fun prog w A R ⟨hp, g, d, tk, os⟩ ⟨hG, h⟩ => by
    have sub := sub_enumerate
    have it := fun (A : Around) E Q => B.iter prog w A E ⟨hp, g, d, tk, os⟩ Q hG
    wp_walk
    refine wpAny_stack_any fun st => wpAny_pure ?_
    split
    · rename_i c _ _ _ _ _
      cases (c == Value.type "enumerate") <;> (wp_walk using it; exact ⟨_, rfl, h⟩)
    · wp_walk using it
      exact ⟨_, rfl, h⟩
theorem enum_two {P : Program} {w : World} {A : Around} {E : Value → Shared → Prop} {s : Shared} {v : Value} {o : Obj} {G : Heap → Prop} {Q : Value → Shared → Prop} (B : Begins v o G) (hG : G s.heap)
    (q : IsEnum (enumHeap s.heap o) (s.heap.objs.size + 1) s.heap.objs.size 0 .none → Q (.ref (s.heap.objs.size + 1)) { s with heap := enumHeap s.heap o }) : wpAny (model P w) A (call (.type "enumerate") [v]) Q E s := by
  have sz : (s.heap.push o).objs.size = s.heap.objs.size + 1 := Heap.size_push ..
  have at1 := Heap.get?_push_size (s.heap.push o) (o := ⟨.type "enumerate", none, .fields #[.none, .bool false, .ref s.heap.objs.size, rawInt 0, .none, .none], #[]⟩) rfl
  rw [sz] at at1
  have fin : s.heap.objs.size + 1 = (s.heap.push o).objs.size := sz.symm
  refine callType_new F.called_enumerate (by decide) (F.typeCall_enumerate_1 v) (F.newCall_enumerate_1 v) (fun ob => F.args_object_init_2 ob v) F.entry_enumerate_new (enum_one B) ⟨hG, ?_⟩
  show Shared.TypeIs _ _ _ ∧ _
  rw [← fin]
  exact ⟨⟨_, at1, rfl⟩, q at1⟩
/-- the pairs of a tuple's places and items -/
def IteT (K : PySem.W.Frag) (a : Addr) : L2.It where
  go i H := ∃ xs x, SqT K H a xs ∧ xs[i]? = some x
  yld i H v H' := ∃ T x, v = V.ref T ∧ H T = none ∧ H' = upd H T (.tup [.int (i : Nat), x]) ∧ ∀ xs, SqT K H a xs → xs[i]? = some x
  stop i H := ∃ xs, SqT K H a xs ∧ xs.length = i
/-- the cells of such a walk -/
structure EnT (a e it : Addr) (i : Nat) (h : Heap) : Prop where
  en : ∃ old, IsEnum h e it ((i : Nat) : Int) old
  tu : h.IsTupleIter it a i
  ei : e ≠ it
  ai : a ≠ it
  ae : a ≠ e
theorem two_cells {e it b : Addr} (h : b ∈ [e, it]) : b = e ∨ b = it := by simpa using h
theorem turnT {P : Program} {w : World} {K : PySem.W.Frag} {elts : List Expr} {kk : Nat} {tpos : Pos} (a e it : Addr) : L2.Turn P w K (.Tuple elts kk tpos) (IteT K a) [e, it] e (EnT a e it) where
  mem := List.mem_cons_self ..
  obj i h st b hb := by
    rcases two_cells hb with rfl | rfl
    · obtain ⟨old, q⟩ := st.en
      exact ⟨_, q, nofun⟩
    · obtain ⟨o, q, _, dt⟩ := st.tu
      exact ⟨o, q, fun v z => nomatch dt.symm.trans z⟩
  keep i h h' st k := by
    obtain ⟨old, q⟩ := st.en
    exact ⟨⟨old, k e (by simp) _ q⟩, st.tu.at (k it (by simp)), st.ei, st.ai, st.ae⟩
  item := by
    rintro X rfl rfl rfl calm i pins s σ H E I own st ⟨xs, x, hq, hx⟩
    obtain ⟨its, vals, isT, _⟩ := I.tuple hq
    obtain ⟨u, hu, ru⟩ := vals.get hx
    have W := WalksT.enumerateD (Draws.tuple (prog := X.prog) (w := X.w) (A := X.A.in1) (I.ok.hd calm) it a st.ai its.toArray) e st.ei (by simp [st.ei, Ne.symm st.ae]) (by simp)
    have inside : i < its.toArray.size := by
      rw [List.size_toArray]
      exact (List.getElem?_eq_some_iff.mp hu).1
    refine W.item i s _ E inside ⟨st.en, st.tu, isT⟩ fun T vs h1 tk pt big tup mid k1 => ⟨_, rfl, W.go elts kk tpos i T _ _ E mid fun h2 st2 k2 => ?_⟩
    obtain ⟨t, y, hy, rfl⟩ := pt
    obtain rfl : y = u := Option.some.inj (hy.symm.trans (by simpa using hu))
    obtain ⟨oT, gT, cT, dT⟩ := tup
    have new : ObjOk X.prog X.w (upd H T (.tup [.int (i : Nat), x])) h2 T (.tup [.int (i : Nat), x]) :=
      ⟨(by show 2 ≤ sizeLine; decide), [.int i t, y], .cons ⟨t, rfl⟩ (.cons ru .nil), oT, k2 T oT (W.apart i T h1 mid) gT, cT, dT⟩
    have J := I.turnedNew (t' := tk) (fun b o nb q => k2 b o nb (k1 b o nb q)) own big new
    have fresh : ∀ b ∈ [e, it], b ≠ T := fun b hb z => by
      obtain ⟨o, q, _⟩ : ∃ o, s.heap.get? b = some o ∧ True := by
        rcases two_cells hb with rfl | rfl
        · obtain ⟨old, q⟩ := st.en
          exact ⟨_, q, trivial⟩
        · obtain ⟨o, q, _⟩ := st.tu
          exact ⟨o, q, trivial⟩
      have lt := Heap.lt_size q
      rw [z] at lt
      exact Nat.lt_irrefl _ (Nat.lt_of_lt_of_le lt big)
    refine ⟨.ref T, _, J, rfl, ⟨T, x, rfl, I.hok.fresh big, rfl, fun ys hy => I.tuple_inj hq hy ▸ hx⟩, ⟨?_, st2.2.1, st.ei, st.ai, st.ae⟩, fun b hb => ?_⟩
    · obtain ⟨old, q⟩ := st2.1
      exact ⟨old, q⟩
    · rw [upd_ne (fresh b hb)]
      exact (own b hb).1
  done := by
    rintro X rfl rfl rfl calm i pins s σ H E I own st ⟨xs, hq, hl⟩
    obtain ⟨its, vals, isT, _⟩ := I.tuple hq
    have n : its.toArray.size = i := by
      rw [List.size_toArray, ← hl]
      exact vals.length.symm
    obtain ⟨old, q⟩ := st.en
    obtain ⟨f0, f1, _, f3, f4, f5⟩ := own it (by simp)
    refine wpAny_pyNext_enum_endD (Draws.tuple (A := X.A.in1) (I.ok.hd calm) it a st.ai its.toArray) q (by rw [n]; exact ⟨st.tu, isT⟩) fun h' k => ⟨rfl, ?_⟩
    exact I.turned (t' := s.toks) (fun b o nb z => k b o nb z) f0 f1 f3 f4 f5
  self A i s Q E st h := by
    obtain ⟨old, q⟩ := st.en
    exact wpAny_pyIter_enum q h
def iEnumT (K : PySem.W.Frag) (ta : TA) : TI := fun σ H R => ta σ H fun vs H1 => ∃ a xs, vs = [.ref a] ∧ SqT K H1 a xs ∧ R (IteT K a) H1
theorem pi_enumT {X : Cx} {e : Expr} {ta : TA} {p pos tpos : Pos} {elts : List Expr} {kk : Nat} (hg : Gl X "enumerate") (hm : X.mg "enumerate" = none) (ha : PA X [e] ta) (hs : starEach [e] X.env = [(false, eval e X.env)] := by rfl) :
    PI X (.Tuple elts kk tpos) (.Call (.Name "enumerate" p) [e] [] pos) (iEnumT X.K ta) where
  run pins s σ H R I h := by
    have args := ha.run pos pins s σ H _ I h
    refine Call_ (ld_blt I hg hm boot_enumerate (PyProof.Rows.callWith_type1 (thn args ?_) hs rfl))
    rintro us s1 ⟨vs, H1, I1, rel, a, xs, rfl, hq, q⟩
    obtain ⟨u, rfl, ra⟩ := vals1 rel
    cases ra
    obtain ⟨its, vals, isT, _⟩ := I1.tuple hq
    obtain ⟨oa, ga, _⟩ := id isT
    have la := Heap.lt_size ga
    refine enum_two (begins_tuple a its.toArray) isT fun en => wpAny_pyIter_enum en ?_
    have kp : ∀ b o, s1.heap.get? b = some o → (enumHeap s1.heap ⟨.type "tuple_iterator", none, .fields #[.ref a, .int 0 0], #[]⟩).get? b = some o := fun b o z => Heap.get?_push_of_some _ (Heap.get?_push_of_some _ z)
    have ti : (enumHeap s1.heap ⟨.type "tuple_iterator", none, .fields #[.ref a, .int 0 0], #[]⟩).IsTupleIter s1.heap.objs.size a 0 := ⟨_, Heap.get?_push_of_some _ (Heap.get?_push_size _ rfl), rfl, rfl⟩
    refine ⟨_, [s1.heap.objs.size + 1, s1.heap.objs.size], _, _, H1, rfl, I1.kept (t' := s1.toks) kp, turnT a _ _, ⟨⟨.none, en⟩, ti, Nat.succ_ne_self _, Nat.ne_of_lt la, Nat.ne_of_lt (Nat.lt_succ_of_lt la)⟩, fun b hb => ?_, q⟩
    have above : s1.heap.objs.size ≤ b := by
      rcases two_cells hb with z | z
      · exact z ▸ Nat.le_succ _
      · exact z ▸ Nat.le_refl _
    exact I1.fpOk above (I1.hok.fresh above)
theorem walk_enumT {K : PySem.W.Frag} {a : Addr} {xs : List V} : Walk (IteT K a) xs.length (fun H => SqT K H a xs) (YPair (fun i => some (.int (i : Nat))) (fun i => xs[i]?)) where
  goes i H hi hq := ⟨xs, xs[i], hq, List.getElem?_eq_getElem hi⟩
  stops H hq := ⟨xs, hq, rfl⟩
  yields i H v H' _ hq := by
    rintro ⟨T, x, rfl, nT, rfl, hx⟩
    exact ⟨T, .int (i : Nat), x, rfl, nT, rfl, rfl, hx xs hq⟩
end Ev

/-! ## enumerate(zip(xs, ys)) -/
namespace Ev
open PySem PySem.Spec PyProof.Rows L2
section
variable {P : Program} {w : World} {A : Around} {E : Value → Shared → Prop} {s : Shared}
/-- what enumerate leaves of the heap h, v being what its iterator gave, t the token of the number -/
def enumOut (h : Heap) (e it : Addr) (c : Int) (t : Tok) (v : Value) : Heap :=
  (((h.update e fun o => { o with data := .fields #[.none, .bool false, .ref it, rawInt (c + 1), .none, .none] }).push ⟨.type "tuple", none, .seq #[.int c t, v], #[]⟩).update e fun o => { o with data := .fields #[rawInt h.objs.size, .bool false, .ref it, rawInt (c + 1), .none, v] })
/-- an address is looked at, whether anything stands there or not -/
theorem alive_any {a : Addr} {Q : Option Obj → Shared → Prop} (h : Q (s.heap.get? a) s) : wpAny (model P w) A (loadIfAlive a) Q E s := fun _ _ _ => h
theorem zip_dead {z TI TO T i1 i2 l1 l2 : Addr} {k1 k2 : Nat} {xs ys : Array Value} {x y a b : Value} {fl : Bool} {Q : Value → Shared → Prop} (D : ZipApart z TI TO i1 i2 l1 l2) (hz : IsZipHeld s.heap z TI TO T fl) (hT : s.heap.get? T = none) (hTI : IsPair s.heap TI (.ref i1) (.ref i2)) (hTO : IsPair s.heap TO a b)
    (h1 : s.heap.IsListIter i1 l1 k1) (h2 : s.heap.IsListIter i2 l2 k2) (hl1 : s.heap.IsList l1 xs) (hl2 : s.heap.IsList l2 ys) (hx : xs[k1]? = some x) (hy : ys[k2]? = some y)
    (hQ : ∀ h' T', T' = s.heap.objs.size → IsZip h' z TI TO (rawInt T') → IsPair h' TO x y → h'.IsListIter i1 l1 (k1 + 1) → h'.IsListIter i2 l2 (k2 + 1) → IsPair h' T' x y → h'.objs.size = s.heap.objs.size + 1 →
      (∀ c o, c ≠ z → c ≠ TO → c ≠ i1 → c ≠ i2 → s.heap.get? c = some o → h'.get? c = some o) → Q (.ref T') { s with heap := h' }) :
    wpAny (model P w) A (Builtin.«zip.__next__» ⟨[.ref z], []⟩) (fun fin s' => ∃ v, fin = .done (.ret v) ∧ Q v s') E s := by
  have al : ∀ Q', Q' none s → wpAny (model P w) A (loadIfAlive ((T : Int).toNat)) Q' E s := fun Q' h => by
    rw [Int.toNat_natCast]
    refine alive_any ?_
    rw [hT]
    exact h
  obtain ⟨hp, g, d, tk, os⟩ := s
  have sz := Heap.SameBut.update (h := hp) (a := z) (f := Obj.mapFields fun x => x.setIfInBounds 0 Value.ellipsis)
  have h1' := h1.extBut sz.extBut D.i1z
  have hl1' := hl1.extBut sz.extBut D.l1z
  wp_walk using al, wpAny_onRaise, (wpAny_nextOf_list_item h1' hl1' hx)
  intro h₂ h1₂ hs₂
  have hTO₂ : IsPair h₂ TO a b := hs₂.extBut _ _ D.TOi1 (sz.extBut _ _ D.TOz hTO)
  have hz₂ : h₂.get? z = some { cls := .type "zip", dict := none, data := .fields #[.ellipsis, .bool fl, .bool false, .ref TI, .ref TO], slots := #[] } := hs₂.extBut _ _ D.i1z.symm (Heap.get?_update_self _ hz rfl)
  have st := Heap.SameBut.update (h := h₂) (a := TO) (f := Obj.mapSeq fun q => q.setIfInBounds 0 x)
  have h2' := ((h2.extBut sz.extBut D.i2z).extBut hs₂.extBut D.i12.symm).extBut st.extBut D.TOi2.symm
  have hl2' := ((hl2.extBut sz.extBut D.l2z).extBut hs₂.extBut D.l2i1).extBut st.extBut D.l2TO
  wp_walk using wpAny_onRaise, (wpAny_nextOf_list_item h2' hl2' hy)
  intro h₄ h2₄ hs₄
  have hTO₃ : IsPair (h₂.update TO (Obj.mapSeq fun q => q.setIfInBounds 0 x)) TO x b := Heap.get?_update_self _ hTO₂ rfl
  have hTO₄ : IsPair h₄ TO x b := hs₄.extBut _ _ D.TOi2 hTO₃
  have hz₄ : h₄.get? z = some { cls := .type "zip", dict := none, data := .fields #[.ellipsis, .bool fl, .bool false, .ref TI, .ref TO], slots := #[] } := hs₄.extBut _ _ D.i2z.symm (st.extBut _ _ D.TOz.symm hz₂)
  have h1₄ := (h1₂.extBut st.extBut D.TOi1.symm).extBut hs₄.extBut D.i12
  have ne1 := D.TOz
  wp_walk
  have sA := Heap.SameBut.update (h := h₄) (a := TO) (f := Obj.mapSeq fun q => q.setIfInBounds (0 + 1) y)
  have hTO₅ : IsPair (h₄.update TO (Obj.mapSeq fun q => q.setIfInBounds (0 + 1) y)) TO x y := Heap.get?_update_self _ hTO₄ rfl
  have hz₅ := sA.extBut _ _ D.TOz.symm hz₄
  have e0 : (h₄.update TO (Obj.mapSeq fun q => q.setIfInBounds (0 + 1) y)).objs.size = hp.objs.size := by rw [sA.1, hs₄.1, st.1, hs₂.1, sz.1]
  have k₅ : ∀ c o, c ≠ z → c ≠ TO → c ≠ i1 → c ≠ i2 → hp.get? c = some o → (h₄.update TO (Obj.mapSeq fun q => q.setIfInBounds (0 + 1) y)).get? c = some o := fun c o c1 c2 c3 c4 e =>
    sA.extBut _ _ c2 (hs₄.extBut _ _ c4 (st.extBut _ _ c2 (hs₂.extBut _ _ c3 (sz.extBut _ _ c1 e))))
  have h1₅ := h1₄.extBut sA.extBut D.TOi1.symm
  have h2₅ := h2₄.extBut sA.extBut D.TOi2.symm
  have zlt : z < (h₄.update TO (Obj.mapSeq fun q => q.setIfInBounds (0 + 1) y)).objs.size := Heap.lt_size hz₅
  generalize h₄.update TO (Obj.mapSeq fun q => q.setIfInBounds (0 + 1) y) = h₅ at hTO₅ hz₅ e0 k₅ h1₅ h2₅ zlt ⊢
  have hp6 : IsPair (h₅.push { cls := .type "tuple", data := .seq #[x, y] }) h₅.objs.size x y := Heap.get?_push_size _ rfl
  have hz6 := Heap.get?_push_of_some { cls := .type "tuple", data := .seq #[x, y] } hz₅
  have s6 : (h₅.push { cls := .type "tuple", data := .seq #[x, y] }).objs.size = h₅.objs.size + 1 := Heap.size_push ..
  have sB := Heap.SameBut.update (h := h₅.push { cls := .type "tuple", data := .seq #[x, y] }) (a := z) (f := Obj.mapFields fun q => q.setIfInBounds 0 (rawInt h₅.objs.size))
  have hz7 := Heap.get?_update_self (Obj.mapFields fun q => q.setIfInBounds 0 (rawInt h₅.objs.size)) hz6 rfl
  have sC := Heap.SameBut.update (h := (h₅.push { cls := .type "tuple", data := .seq #[x, y] }).update z (Obj.mapFields fun q => q.setIfInBounds 0 (rawInt h₅.objs.size))) (a := z) (f := Obj.mapFields fun q => q.setIfInBounds 1 (.bool false))
  have hz8 := Heap.get?_update_self (Obj.mapFields fun q => q.setIfInBounds 1 (.bool false)) hz7 rfl
  have up : ∀ c o, c ≠ z → h₅.get? c = some o → (((h₅.push { cls := .type "tuple", data := .seq #[x, y] }).update z (Obj.mapFields fun q => q.setIfInBounds 0 (rawInt h₅.objs.size))).update z (Obj.mapFields fun q => q.setIfInBounds 1 (.bool false))).get? c = some o := fun c o c1 e => sC.extBut _ _ c1 (sB.extBut _ _ c1 (Heap.get?_push_of_some _ e))
  exact ⟨_, rfl, hQ _ h₅.objs.size e0 hz8 (up _ _ D.TOz hTO₅) (h1₅.at fun o e => up _ o D.i1z e) (h2₅.at fun o e => up _ o D.i2z e) (sC.extBut _ _ (Nat.ne_of_gt zlt) (sB.extBut _ _ (Nat.ne_of_gt zlt) hp6)) (sC.1.trans (sB.1.trans (s6.trans (congrArg (· + 1) e0)))) fun c o c1 c2 c3 c4 e => up c o c1 (k₅ c o c1 c2 c3 c4 e)⟩
end
end Ev

/-! ## zip of a list and a tuple -/
namespace Ev
open PySem PySem.Spec PyProof.Rows L2
/-- where such a zip stands -/
structure ZxT (a b z TI TO i1 i2 : Addr) (k : Nat) (h : Heap) : Prop where
  zs : IsZip h z TI TO .none
  ti : IsPair h TI (.ref i1) (.ref i2)
  to : ∃ x y, IsPair h TO x y
  l1 : h.IsListIter i1 a k
  l2 : h.IsTupleIter i2 b k
theorem zx_cells {z TI TO i1 i2 c : Addr} (h : c ∈ [z, TI, TO, i1, i2]) : c = z ∨ c = TI ∨ c = TO ∨ c = i1 ∨ c = i2 := by simpa using h
theorem ZxT.cell {a b z TI TO i1 i2 c : Addr} {k : Nat} {h : Heap} (t : ZxT a b z TI TO i1 i2 k h) (m : c ∈ [z, TI, TO, i1, i2]) : ∃ o, h.get? c = some o ∧ ∀ v, o.data ≠ .cell v := by
  obtain ⟨x, y, hO⟩ := t.to
  obtain ⟨o1, p1, _, d1⟩ := t.l1
  obtain ⟨o2, p2, _, d2⟩ := t.l2
  rcases zx_cells m with rfl | rfl | rfl | rfl | rfl
  · exact ⟨_, t.zs, nofun⟩
  · exact ⟨_, t.ti, nofun⟩
  · exact ⟨_, hO, nofun⟩
  · exact ⟨o1, p1, fun v q => nomatch d1.symm.trans q⟩
  · exact ⟨o2, p2, fun v q => nomatch d2.symm.trans q⟩
theorem ZxT.keep {a b z TI TO i1 i2 : Addr} {k : Nat} {h h' : Heap} (t : ZxT a b z TI TO i1 i2 k h) (kp : ∀ c ∈ [z, TI, TO, i1, i2], ∀ o, h.get? c = some o → h'.get? c = some o) : ZxT a b z TI TO i1 i2 k h' := by
  obtain ⟨x, y, hO⟩ := t.to
  exact ⟨kp z (by simp) _ t.zs, kp TI (by simp) _ t.ti, ⟨x, y, kp TO (by simp) _ hO⟩, t.l1.at (kp i1 (by simp)), t.l2.at (kp i2 (by simp))⟩
section
variable {P : Program} {w : World} {A : Around} {E : Value → Shared → Prop} {s : Shared} {a b z TI TO i1 i2 : Addr} {k : Nat} {xs ys : Array Value}
theorem zx_next {x y : Value} {Q : Value → Shared → Prop} (D : ZipApart z TI TO i1 i2 a b) (t : ZxT a b z TI TO i1 i2 k s.heap) (hl1 : s.heap.IsList a xs) (hl2 : s.heap.IsTuple b ys) (hx : xs[k]? = some x) (hy : ys[k]? = some y)
    (hQ : ∀ h', IsZip h' z TI TO (rawInt s.heap.objs.size) → IsPair h' TO x y → h'.IsListIter i1 a (k + 1) → h'.IsTupleIter i2 b (k + 1) → IsPair h' s.heap.objs.size x y →
      (∀ c o, c ≠ z → c ≠ TO → c ≠ i1 → c ≠ i2 → s.heap.get? c = some o → h'.get? c = some o) → Q (.ref s.heap.objs.size) { s with heap := h' }) :
    wpAny (model P w) A (Builtin.«zip.__next__» ⟨[.ref z], []⟩) (fun fin s' => ∃ v, fin = .done (.ret v) ∧ Q v s') E s := by
  obtain ⟨hz, hTI, ⟨p, q, hTO⟩, h1, h2⟩ := t
  obtain ⟨hp, g, d, tk, os⟩ := s
  have sz := Heap.SameBut.update (h := hp) (a := z) (f := Obj.mapFields fun x => x.setIfInBounds 0 Value.ellipsis)
  have h1' := h1.extBut sz.extBut D.i1z
  have hl1' := hl1.extBut sz.extBut D.l1z
  wp_walk using wpAny_onRaise, (wpAny_nextOf_list_item h1' hl1' hx)
  intro h₂ h1₂ hs₂
  have hTO₂ : IsPair h₂ TO p q := hs₂.extBut _ _ D.TOi1 (sz.extBut _ _ D.TOz hTO)
  have st := Heap.SameBut.update (h := h₂) (a := TO) (f := Obj.mapSeq fun q => q.setIfInBounds 0 x)
  have h2' := ((h2.extBut sz.extBut D.i2z).extBut hs₂.extBut D.i12.symm).extBut st.extBut D.TOi2.symm
  have hl2' := ((hl2.extBut sz.extBut D.l2z).extBut hs₂.extBut D.l2i1).extBut st.extBut D.l2TO
  wp_walk using wpAny_onRaise, (wpAny_nextOf_tuple_item h2' hl2' hy)
  intro h₄ h2₄ hs₄
  have hTO₃ : IsPair (h₂.update TO (Obj.mapSeq fun q => q.setIfInBounds 0 x)) TO x q := Heap.get?_update_self _ hTO₂ rfl
  have hTO₄ : IsPair h₄ TO x q := hs₄.extBut _ _ D.TOi2 hTO₃
  have hz₂ : h₂.get? z = some { cls := .type "zip", dict := none, data := .fields #[.ellipsis, .bool false, .bool false, .ref TI, .ref TO], slots := #[] } := hs₂.extBut _ _ D.i1z.symm (Heap.get?_update_self _ hz rfl)
  have hz₄ : h₄.get? z = some { cls := .type "zip", dict := none, data := .fields #[.ellipsis, .bool false, .bool false, .ref TI, .ref TO], slots := #[] } := hs₄.extBut _ _ D.i2z.symm (st.extBut _ _ D.TOz.symm hz₂)
  have h1₄ := (h1₂.extBut st.extBut D.TOi1.symm).extBut hs₄.extBut D.i12
  have ne1 := D.TOz
  wp_walk
  have sA := Heap.SameBut.update (h := h₄) (a := TO) (f := Obj.mapSeq fun q => q.setIfInBounds (0 + 1) y)
  have hTO₅ : IsPair (h₄.update TO (Obj.mapSeq fun q => q.setIfInBounds (0 + 1) y)) TO x y := Heap.get?_update_self _ hTO₄ rfl
  have hz₅ := sA.extBut _ _ D.TOz.symm hz₄
  have e0 : (h₄.update TO (Obj.mapSeq fun q => q.setIfInBounds (0 + 1) y)).objs.size = hp.objs.size := by rw [sA.1, hs₄.1, st.1, hs₂.1, sz.1]
  have k₅ : ∀ c o, c ≠ z → c ≠ TO → c ≠ i1 → c ≠ i2 → hp.get? c = some o → (h₄.update TO (Obj.mapSeq fun q => q.setIfInBounds (0 + 1) y)).get? c = some o := fun c o c1 c2 c3 c4 e =>
    sA.extBut _ _ c2 (hs₄.extBut _ _ c4 (st.extBut _ _ c2 (hs₂.extBut _ _ c3 (sz.extBut _ _ c1 e))))
  have h1₅ := h1₄.extBut sA.extBut D.TOi1.symm
  have h2₅ := h2₄.extBut sA.extBut D.TOi2.symm
  have zlt : z < (h₄.update TO (Obj.mapSeq fun q => q.setIfInBounds (0 + 1) y)).objs.size := Heap.lt_size hz₅
  generalize h₄.update TO (Obj.mapSeq fun q => q.setIfInBounds (0 + 1) y) = h₅ at hTO₅ hz₅ e0 k₅ h1₅ h2₅ zlt ⊢
  have hp6 : IsPair (h₅.push { cls := .type "tuple", data := .seq #[x, y] }) h₅.objs.size x y := Heap.get?_push_size _ rfl
  have hz6 := Heap.get?_push_of_some { cls := .type "tuple", data := .seq #[x, y] } hz₅
  have sB := Heap.SameBut.update (h := h₅.push { cls := .type "tuple", data := .seq #[x, y] }) (a := z) (f := Obj.mapFields fun q => q.setIfInBounds 0 (rawInt h₅.objs.size))
  have hz7 := Heap.get?_update_self (Obj.mapFields fun q => q.setIfInBounds 0 (rawInt h₅.objs.size)) hz6 rfl
  have sC := Heap.SameBut.update (h := (h₅.push { cls := .type "tuple", data := .seq #[x, y] }).update z (Obj.mapFields fun q => q.setIfInBounds 0 (rawInt h₅.objs.size))) (a := z) (f := Obj.mapFields fun q => q.setIfInBounds 1 (.bool false))
  have hz8 := Heap.get?_update_self (Obj.mapFields fun q => q.setIfInBounds 1 (.bool false)) hz7 rfl
  have up : ∀ c o, c ≠ z → h₅.get? c = some o → (((h₅.push { cls := .type "tuple", data := .seq #[x, y] }).update z (Obj.mapFields fun q => q.setIfInBounds 0 (rawInt h₅.objs.size))).update z (Obj.mapFields fun q => q.setIfInBounds 1 (.bool false))).get? c = some o := fun c o c1 e => sC.extBut _ _ c1 (sB.extBut _ _ c1 (Heap.get?_push_of_some _ e))
  have fin := fun h' a1 a2 a3 a4 a5 a6 => hQ h' a1 a2 a3 a4 a5 a6
  have e1 : ({ heap := hp, gens := g, drawn := d, toks := tk, os := os } : Shared).heap.objs.size = h₅.objs.size := e0.symm
  rw [e1] at fin
  exact ⟨_, rfl, fin _ hz8 (up _ _ D.TOz hTO₅) (h1₅.at fun o e => up _ o D.i1z e) (h2₅.at fun o e => up _ o D.i2z e) (sC.extBut _ _ (Nat.ne_of_gt zlt) (sB.extBut _ _ (Nat.ne_of_gt zlt) hp6)) fun c o c1 c2 c3 c4 e => up c o c1 (k₅ c o c1 c2 c3 c4 e)⟩
theorem zx_last {Q : PySem.Fin → Shared → Prop} (hh : A.handled = none) (D : ZipApart z TI TO i1 i2 a b) (t : ZxT a b z TI TO i1 i2 k s.heap) (hl1 : s.heap.IsList a xs) (hx : xs[k]? = none)
    (hE : ∀ h' e, (∀ c o, c ≠ z → c ≠ TO → c ≠ i1 → c ≠ i2 → s.heap.get? c = some o → h'.get? c = some o) → (∃ o, h'.get? e = some o ∧ o.cls = .type "StopIteration") → E (.ref e) { s with heap := h' }) :
    wpAny (model P w) A (Builtin.«zip.__next__» ⟨[.ref z], []⟩) Q E s := by
  obtain ⟨hz, hTI, ⟨p, q, hTO⟩, h1, h2⟩ := t
  obtain ⟨hp, g, d, tk, os⟩ := s
  have sz := Heap.SameBut.update (h := hp) (a := z) (f := Obj.mapFields fun x => x.setIfInBounds 0 Value.ellipsis)
  have h1' := h1.extBut sz.extBut D.i1z
  have hl1' := hl1.extBut sz.extBut D.l1z
  wp_walk using wpAny_onRaise, (wpAny_nextOf_list_end hh h1' hl1' hx)
  intro h₂ e hs₂ he
  obtain ⟨oe, hoe, hce⟩ := he
  have hz₂ : h₂.get? z = some { cls := .type "zip", dict := none, data := .fields #[.ellipsis, .bool false, .bool false, .ref TI, .ref TO], slots := #[] } := hs₂ _ _ D.i1z.symm (Heap.get?_update_self _ hz rfl)
  have ez : e ≠ z := fun q => by
    rw [q, hz₂] at hoe
    cases hoe
    simp at hce
  refine wpAny_setField_rec hz₂ (by simp) fun h₃ _ hs₃ => hE h₃ e (fun c o c1 _ c3 _ q => hs₃.extBut _ _ c1 (hs₂ _ _ c3 (sz.extBut _ _ c1 q))) ⟨oe, hs₃.extBut _ _ ez hoe, hce⟩
/-- one turn -/
theorem zx_item {x y : Value} {Q : Option Value → Shared → Prop} (D : ZipApart z TI TO i1 i2 a b) (t : ZxT a b z TI TO i1 i2 k s.heap) (hl1 : s.heap.IsList a xs) (hl2 : s.heap.IsTuple b ys) (hx : xs[k]? = some x) (hy : ys[k]? = some y)
    (hQ : ∀ h', IsZip h' z TI TO (rawInt s.heap.objs.size) → IsPair h' TI (.ref i1) (.ref i2) → IsPair h' TO x y → h'.IsListIter i1 a (k + 1) → h'.IsTupleIter i2 b (k + 1) → IsPair h' s.heap.objs.size x y →
      (∀ c o, c ∉ [z, TI, TO, i1, i2] → s.heap.get? c = some o → h'.get? c = some o) → Q (some (.ref s.heap.objs.size)) { s with heap := h' }) : wpAny (model P w) A (pyNext (.ref z)) Q E s := by
  have hT : s.TypeIs (.ref z) "zip" := ⟨_, t.zs, rfl⟩
  unfold pyNext
  exact wpAny_bind (wpAny_attempt (wpAny_callSpecial?_slot (name := Str.ofString "__next__") hT F.slot_zip_next
    (wpAny_call_entry F.slot_zip_next hT F.entry_zip_next (zx_next D t hl1 hl2 hx hy fun h' a1 a2 a3 a4 a5 a6 =>
      wpAny_pure (hQ h' a1 (a6 _ _ D.TIz D.TITO D.TIi1 D.TIi2 t.ti) a2 a3 a4 a5 fun c o m q => a6 c o (fun r => m (by simp [r])) (fun r => m (by simp [r])) (fun r => m (by simp [r])) (fun r => m (by simp [r])) q)) (F.args_zip_next_1 _))))
/-- no more -/
theorem zx_end {Q : Option Value → Shared → Prop} (hh : A.handled = none) (D : ZipApart z TI TO i1 i2 a b) (t : ZxT a b z TI TO i1 i2 k s.heap) (hl1 : s.heap.IsList a xs) (hx : xs[k]? = none)
    (hQ : ∀ h', (∀ c o, c ∉ [z, TI, TO, i1, i2] → s.heap.get? c = some o → h'.get? c = some o) → Q none { s with heap := h' }) : wpAny (model P w) A (pyNext (.ref z)) Q E s := by
  have hT : s.TypeIs (.ref z) "zip" := ⟨_, t.zs, rfl⟩
  unfold pyNext
  refine wpAny_bind (wpAny_attempt (wpAny_callSpecial?_slot (name := Str.ofString "__next__") hT F.slot_zip_next
    (wpAny_call_entry F.slot_zip_next hT F.entry_zip_next (zx_last hh D t hl1 hx fun h' e kp he => ?_) (F.args_zip_next_1 _))))
  obtain ⟨o, ho, hc⟩ := he
  refine wpAny_bind (wpAny_isInstance (T := "StopIteration") (b := true) ⟨o, ho, hc⟩ isSubtype_stop ?_)
  exact wpAny_pure (hQ _ fun c o m q => kp c o (fun r => m (by simp [r])) (fun r => m (by simp [r])) (fun r => m (by simp [r])) (fun r => m (by simp [r])) q)
end
end Ev

/-! ## loops over a zip of a list and a tuple -/
namespace Ev
open PySem PySem.Spec PyProof.Rows L2
def ItZx (K : PySem.W.Frag) (a b : Addr) : L2.It where
  go i H := ∃ (xs ys : List V) (x y : V), SqL K H a xs ∧ SqT K H b ys ∧ xs[i]? = some x ∧ ys[i]? = some y
  yld i H v H' := ∃ T x y, v = V.ref T ∧ H T = none ∧ H' = upd H T (.tup [x, y]) ∧ (∀ xs, SqL K H a xs → xs[i]? = some x) ∧ ∀ ys, SqT K H b ys → ys[i]? = some y
  stop i H := ∃ xs ys : List V, SqL K H a xs ∧ SqT K H b ys ∧ xs.length ≤ i
theorem turn_zx {P : Program} {w : World} {K : PySem.W.Frag} {elts : List Expr} {kk : Nat} {tpos : Pos} {a b z TI TO i1 i2 : Addr} (D : ZipApart z TI TO i1 i2 a b) :
    L2.Turn P w K (.Tuple elts kk tpos) (ItZx K a b) [z, TI, TO, i1, i2] z (ZxT a b z TI TO i1 i2) where
  mem := List.mem_cons_self ..
  obj i h st c hc := st.cell hc
  keep i h h' st k := st.keep k
  item := by
    rintro X rfl rfl rfl calm i pins s σ H E I own st ⟨xs, ys, x, y, hqx, hqy, hx, hy⟩
    obtain ⟨its, rv, p, _⟩ := I.list hqx
    obtain ⟨its2, rv2, p2, _⟩ := I.tuple hqy
    obtain ⟨u, hu, ru⟩ := rv.get hx
    obtain ⟨u2, hu2, ru2⟩ := rv2.get hy
    have lt : ∀ c ∈ [z, TI, TO, i1, i2], c < s.heap.objs.size := fun c m => by
      obtain ⟨o, q, _⟩ := st.cell m
      exact Heap.lt_size q
    refine zx_item D st p.isList p2 (x := u) (y := u2) (by simpa using hu) (by simpa using hu2) fun h1 z1 ti to l1 l2 pT k1 => ?_
    refine ⟨_, rfl, wpAny_letOwnedTupleGo_zip (s := { s with heap := h1 }) z1 fun h2 z2 sb => ?_⟩
    have pT2 := sb.extBut _ _ (Nat.ne_of_gt (lt z (by simp))) pT
    have newT : ObjOk X.prog X.w (upd H s.heap.objs.size (.tup [x, y])) h2 s.heap.objs.size (.tup [x, y]) := ⟨by show 2 ≤ sizeLine; decide, [u, u2], .cons ru (.cons ru2 .nil), ⟨_, pT2, rfl, _, rfl⟩⟩
    have J : Inv X pins σ (upd H s.heap.objs.size (.tup [x, y])) { s with heap := h2 } := I.turnedNew (t' := s.toks) (ch := [z, TI, TO, i1, i2]) (fun c o m q => sb.extBut c o (fun r => m (by simp [r])) (k1 c o m q)) own (Nat.le_refl _) newT
    refine ⟨.ref s.heap.objs.size, _, J, rfl, ⟨_, x, y, rfl, I.hok.fresh (Nat.le_refl _), rfl, fun l hl => by rw [I.list_inj hl hqx]; exact hx, fun l hl => by rw [I.tuple_inj hl hqy]; exact hy⟩, ⟨z2, sb.extBut _ _ D.TIz ti, ⟨u, u2, sb.extBut _ _ D.TOz to⟩, l1.at fun o q => sb.extBut _ o D.i1z q, l2.at fun o q => sb.extBut _ o D.i2z q⟩, fun c m => ?_⟩
    rw [upd_ne (Nat.ne_of_lt (lt c m))]
    exact (own c m).1
  done := by
    rintro X rfl rfl rfl calm i pins s σ H E I own st ⟨xs, ys, hqx, hqy, hl⟩
    obtain ⟨its, rv, p, _⟩ := I.list hqx
    have l1 := rv.length
    exact zx_end (I.ok.hd calm) D st p.isList (by simp; omega) fun h' k => ⟨rfl, I.turnedL (t' := s.toks) (ch := [z, TI, TO, i1, i2]) (fun c o hb q => k c o hb q) own⟩
  self A i s Q E st h := wpAny_pyIter_zip st.zs h
theorem walk_zx {K : PySem.W.Frag} {a b : Addr} {xs ys : List V} (h : xs.length = ys.length) : Walk (ItZx K a b) xs.length (fun H => SqL K H a xs ∧ SqT K H b ys) (YPair (fun i => xs[i]?) (fun i => ys[i]?)) where
  goes i H hi := fun ⟨q1, q2⟩ => ⟨xs, ys, xs[i], ys[i]'(h ▸ hi), q1, q2, List.getElem?_eq_getElem hi, List.getElem?_eq_getElem _⟩
  stops H := fun ⟨q1, q2⟩ => ⟨xs, ys, q1, q2, Nat.le_refl _⟩
  yields i H v H' _ := by
    rintro ⟨q1, q2⟩ ⟨T, x, y, rfl, n1, rfl, hx, hy⟩
    exact ⟨T, x, y, rfl, n1, rfl, hx xs q1, hy ys q2⟩
end Ev

/-! ## list(zip(a, b)), a and b of any kind that iterators are known of -/
namespace Ev
open PySem PySem.Spec PyProof.Rows L2
section
variable {P : Program} {w : World} {A : Around} {E : Value → Shared → Prop} {s : Shared} {z TI TO i1 i2 T : Addr} {fl : Bool} {oT : Obj} {fp1 fp2 : List Addr} {n1 n2 i : Nat} {P1 P2 : Nat → Value → Prop} {St1 St2 : Nat → Heap → Prop}
/-- zip's next while the tuple that it gave out before lives on -/
theorem zd_held {Q : Value → Shared → Prop} (S : ZipSep2 z TI TO i1 i2 fp1 fp2) (D1 : Draws P w A i1 fp1 n1 P1 St1) (D2 : Draws P w A i2 fp2 n2 P2 St2) (hz : IsZipHeld s.heap z TI TO T fl) (hT : s.heap.get? T = some oT) (hTI : IsTupOf2 s.heap TI (.ref i1) (.ref i2)) (st1 : St1 i s.heap) (st2 : St2 i s.heap) (hlt1 : i < n1) (hlt2 : i < n2)
    (hQ : ∀ x1 x2 h' tk, P1 i x1 → P2 i x2 → IsZipHeld h' z TI TO T true → St1 (i + 1) h' → St2 (i + 1) h' → IsTupOf2 h' s.heap.objs.size x1 x2 → h'.objs.size = s.heap.objs.size + 1 → (∀ c o, c ≠ z → c ≠ i1 → c ≠ i2 → s.heap.get? c = some o → h'.get? c = some o) → Q (.ref s.heap.objs.size) { s with heap := h', toks := tk }) :
    wpAny (model P w) A (Builtin.«zip.__next__» ⟨[.ref z], []⟩) (fun fin s' => ∃ v, fin = .done (.ret v) ∧ Q v s') E s := by
  have own : ∀ Q' : Bool → Shared → Prop, (∀ h', IsZipHeld h' z TI TO T true → Heap.SameBut z s.heap h' → Q' false { s with heap := h' }) → wpAny (model P w) A (Builtin.SmallTypes.ownedTupleIsFree (.ref z)) Q' E s := fun Q' h => wpAny_tupleHeld_zip hz hT h
  obtain ⟨hp, gs, dr, tk, os⟩ := s
  wp_walk using own
  intro g1 hz1 s1
  simp only [Bool.false_eq_true, if_false]; refine wpAny_bind ?_
  rw [← Array.forIn_toList]; simp only [List.forIn_cons, List.forIn_nil]
  wp_walk using wpAny_holding, (D1.item i _ _ _ hlt1 (D1.over st1 s1 S.zf1))
  intro x1 g2 k2 p1 t1 s2
  wp_walk using wpAny_holding, (D2.item i _ _ _ hlt2 (D2.over (D2.over st2 s1 S.zf2) s2 S.sep1_2))
  intro x2 g3 k3 p2 t2 s3
  wp_walk
  have e1 : g3.objs.size = hp.objs.size := by rw [s3.1, s2.1, s1.1]
  have hz3 : IsZipHeld g3 z TI TO T true := s3.extBut _ _ S.zi2 (s2.extBut _ _ S.zi1 hz1)
  have kp : ∀ c o, c ≠ z → c ≠ i1 → c ≠ i2 → hp.get? c = some o → g3.get? c = some o := fun c o c1 c2 c3 e => s3.extBut _ _ c3 (s2.extBut _ _ c2 (s1.extBut _ _ c1 e))
  have st1' : St1 (i + 1) g3 := D1.over t1 s3 S.sep2_1
  have fin := fun h' => hQ x1 x2 h'
  have e2 : ({ heap := hp, gens := gs, drawn := dr, toks := tk, os := os } : Shared).heap.objs.size = g3.objs.size := e1.symm
  rw [e2] at fin
  exact ⟨_, rfl, fin _ _ p1 p2 (Heap.get?_push_of_some _ hz3) (D1.frame _ _ _ st1' fun b _ o e => Heap.get?_push_of_some _ e) (D2.frame _ _ _ t2 fun b _ o e => Heap.get?_push_of_some _ e) (Heap.get?_push_size _ rfl) (Heap.size_push ..) fun c o c1 c2 c3 e => Heap.get?_push_of_some _ (kp c o c1 c2 c3 e)⟩
theorem zd_held_end {Q : PySem.Fin → Shared → Prop} (S : ZipSep2 z TI TO i1 i2 fp1 fp2) (D1 : Draws P w A i1 fp1 n1 P1 St1) (hz : IsZipHeld s.heap z TI TO T fl) (hT : s.heap.get? T = some oT) (hTI : IsTupOf2 s.heap TI (.ref i1) (.ref i2)) (st1 : St1 n1 s.heap) (hE : ∀ h' e, (∀ c o, c ≠ z → c ≠ i1 → c ≠ i2 → s.heap.get? c = some o → h'.get? c = some o) → (∃ o, h'.get? e = some o ∧ o.cls = .type "StopIteration") → E (.ref e) { s with heap := h' }) :
    wpAny (model P w) A (Builtin.«zip.__next__» ⟨[.ref z], []⟩) Q E s := by
  have own : ∀ Q' : Bool → Shared → Prop, (∀ h', IsZipHeld h' z TI TO T true → Heap.SameBut z s.heap h' → Q' false { s with heap := h' }) → wpAny (model P w) A (Builtin.SmallTypes.ownedTupleIsFree (.ref z)) Q' E s := fun Q' h => wpAny_tupleHeld_zip hz hT h
  obtain ⟨hp, gs, dr, tk, os⟩ := s
  wp_walk using own
  intro g1 hz1 s1
  simp only [Bool.false_eq_true, if_false]; refine wpAny_bind ?_
  rw [← Array.forIn_toList]; simp only [List.forIn_cons, List.forIn_nil]
  wp_walk using wpAny_holding, (D1.done _ _ _ (D1.over st1 s1 S.zf1))
  intro h' e x he
  exact hE h' e (fun c o c1 c2 _ q => x _ _ c2 (s1.extBut _ _ c1 q)) he
end
theorem zip_no_len : typeLookup (.type "zip") "__len__" = pure none := am_miss_of_fast (by decide +kernel)
theorem zip_no_hint : typeLookup (.type "zip") "__length_hint__" = pure none := am_miss_of_fast (by decide +kernel)
/-- a zip of which no tuple was given out yet, or one whose last tuple lives on -/
def ZL (h : Heap) (z TI TO i1 i2 : Addr) : Prop := ((IsZip h z TI TO .none ∧ ∃ a b, IsTupOf2 h TO a b) ∨ ∃ T fl oT, IsZipHeld h z TI TO T fl ∧ h.get? T = some oT ∧ T ∉ [z, TI, TO, i1, i2]) ∧ IsTupOf2 h TI (.ref i1) (.ref i2)
section
variable {P : Program} {w : World} {A : Around} {E : Value → Shared → Prop} {s : Shared} {z TI TO i1 i2 : Addr} {fp1 fp2 : List Addr} {n1 n2 i : Nat} {P1 P2 : Nat → Value → Prop} {St1 St2 : Nat → Heap → Prop}
theorem zl_item {Q : Option Value → Shared → Prop} (S : ZipSep2 z TI TO i1 i2 fp1 fp2) (D1 : Draws P w A.in1 i1 fp1 n1 P1 St1) (D2 : Draws P w A.in1 i2 fp2 n2 P2 St2) (hz : ZL s.heap z TI TO i1 i2) (lo : ∀ c ∈ [z, TI, TO, i1, i2], c < s.heap.objs.size) (st1 : St1 i s.heap) (st2 : St2 i s.heap) (hlt1 : i < n1) (hlt2 : i < n2)
    (hQ : ∀ x1 x2 h' tk, P1 i x1 → P2 i x2 → ZL h' z TI TO i1 i2 → St1 (i + 1) h' → St2 (i + 1) h' → IsTupOf2 h' s.heap.objs.size x1 x2 → h'.objs.size = s.heap.objs.size + 1 → (∀ c o, c ∉ [z, TO, i1, i2] → s.heap.get? c = some o → h'.get? c = some o) → Q (some (.ref s.heap.objs.size)) { s with heap := h', toks := tk }) :
    wpAny (model P w) A (pyNext (.ref z)) Q E s := by
  obtain ⟨hz, hTI⟩ := hz
  have fr : s.heap.objs.size ∉ [z, TI, TO, i1, i2] := fun m => Nat.lt_irrefl _ (lo _ m)
  rcases hz with ⟨hz, a, b, hTO⟩ | ⟨T, fl, oT, hz, hT, hn⟩
  · refine wpAny_pyNext_zipD2_item S D1 D2 hz hTI hTO st1 st2 hlt1 hlt2 fun x1 x2 h' tk p1 p2 z' _ t1 t2 hp sz kp => ?_
    exact hQ x1 x2 h' tk p1 p2 ⟨.inr ⟨_, false, _, z', hp, fr⟩, kp _ _ S.TIz S.TITO S.TIi1 S.TIi2 hTI⟩ t1 t2 hp sz fun c o m e => kp c o (fun r => m (by simp [r])) (fun r => m (by simp [r])) (fun r => m (by simp [r])) (fun r => m (by simp [r])) e
  · have ty : s.TypeIs (.ref z) "zip" := ⟨_, hz, rfl⟩
    unfold pyNext
    refine wpAny_bind (wpAny_attempt (wpAny_callSpecial?_slot (name := Str.ofString "__next__") ty F.slot_zip_next (wpAny_call_entry F.slot_zip_next ty F.entry_zip_next (zd_held S D1 D2 hz hT hTI st1 st2 hlt1 hlt2 fun x1 x2 h' tk p1 p2 z' t1 t2 hp sz kp => wpAny_pure ?_) (F.args_zip_next_1 _))))
    exact hQ x1 x2 h' tk p1 p2 ⟨.inr ⟨T, true, oT, z', kp _ _ (fun r => hn (by simp [r])) (fun r => hn (by simp [r])) (fun r => hn (by simp [r])) hT, hn⟩, kp _ _ S.TIz S.TIi1 S.TIi2 hTI⟩ t1 t2 hp sz fun c o m e => kp c o (fun r => m (by simp [r])) (fun r => m (by simp [r])) (fun r => m (by simp [r])) e
theorem zl_end {Q : Option Value → Shared → Prop} (S : ZipSep2 z TI TO i1 i2 fp1 fp2) (D1 : Draws P w A.in1 i1 fp1 n1 P1 St1) (D2 : Draws P w A.in1 i2 fp2 n1 P2 St2) (hz : ZL s.heap z TI TO i1 i2) (st1 : St1 n1 s.heap) (st2 : St2 n1 s.heap)
    (hQ : ∀ h' tk, (∀ c o, c ∉ [z, TO, i1, i2] → s.heap.get? c = some o → h'.get? c = some o) → Q none { s with heap := h', toks := tk }) : wpAny (model P w) A (pyNext (.ref z)) Q E s := by
  obtain ⟨hz, hTI⟩ := hz
  rcases hz with ⟨hz, a, b, hTO⟩ | ⟨T, fl, oT, hz, hT, hn⟩
  · exact wpAny_pyNext_zipD2_end S D1 D2 hz hTI hTO st1 st2 (Nat.le_refl _) (Nat.le_refl _) (.inl rfl) fun h' tk kp => hQ h' tk fun c o m e => kp c o (fun r => m (by simp [r])) (fun r => m (by simp [r])) (fun r => m (by simp [r])) (fun r => m (by simp [r])) e
  · have ty : s.TypeIs (.ref z) "zip" := ⟨_, hz, rfl⟩
    unfold pyNext
    refine wpAny_bind (wpAny_attempt (wpAny_callSpecial?_slot (name := Str.ofString "__next__") ty F.slot_zip_next (wpAny_call_entry F.slot_zip_next ty F.entry_zip_next (zd_held_end S D1 hz hT hTI st1 fun h' e kp he => ?_) (F.args_zip_next_1 _))))
    obtain ⟨o, ho, hc⟩ := he
    refine wpAny_bind (wpAny_isInstance (T := "StopIteration") (b := true) ⟨o, ho, hc⟩ isSubtype_stop (wpAny_pure (hQ _ _ fun c o m q => kp c o (fun r => m (by simp [r])) (fun r => m (by simp [r])) (fun r => m (by simp [r])) q)))
end
end Ev

/-! ## list(zip(a, b)): the list as it grows -/
namespace Ev
open PySem PySem.Spec PyProof.Rows L2
section
variable {X : Cx} {pins : List (Addr × Obj)} {σ : L2.St} {z TI TO i1 i2 a b L : Addr} {xs ys : List V} {its its2 : List Value}
/-- what stands while the list grows -/
structure ZlI (X : Cx) (pins : List (Addr × Obj)) (σ : L2.St) (z TI TO i1 i2 a b L : Addr) (xs ys : List V) (its its2 : List Value) (i : Nat) (H0 H : Hp) (s : Shared) (Ts : List Addr) (c : Nat) : Prop where
  inv : Inv X pins σ H s
  own : ∀ c ∈ [z, TI, TO, i1, i2, L], FpOk X pins H c
  zl : ZL s.heap z TI TO i1 i2
  lo : ∀ c ∈ [z, TI, TO, i1, i2], c < s.heap.objs.size
  s1 : s.heap.IsListIter i1 a i ∧ s.heap.IsList a its.toArray
  s2 : s.heap.IsTupleIter i2 b i ∧ s.heap.IsTuple b its2.toArray
  lst : s.heap.get? L = some { cls := .type "list", dict := none, data := .seq (Ts.map Value.ref).toArray c, slots := #[] }
  len : Ts.length = i
  sm : Same H0 H
  tup : ∀ (j : Nat) (T : Addr), Ts[j]? = some T → ∃ x y, xs[j]? = some x ∧ ys[j]? = some y ∧ H T = some (.tup [x, y])
theorem zl_loop (calm : X.calm = true) (S : ZipSep2 z TI TO i1 i2 [i1, a] [i2, b]) (D : a ≠ i1 ∧ b ≠ i2) (hL : L ∉ [z, TI, TO, i1, i2, a, b]) (rv : Vals xs its) (rv2 : Vals ys its2) (hl : xs.length = ys.length) (hn : xs.length ≤ 1000) {R : Result → Shared → Prop} {A : Around} (hA : A.in1.in1.handled = none) (H0 : Hp) (res : Value)
    (hR : ∀ (H : Hp) (s : Shared) (Ts : List Addr) (c : Nat), Inv X pins σ H s → FpOk X pins H L → s.heap.get? L = some { cls := .type "list", dict := none, data := .seq (Ts.map Value.ref).toArray c, slots := #[] } → Ts.length = xs.length → Same H0 H →
      (∀ (j : Nat) (T : Addr), Ts[j]? = some T → ∃ x y, xs[j]? = some x ∧ ys[j]? = some y ∧ H T = some (.tup [x, y])) → R (.ok (.ret res)) s) :
    ∀ (k i : Nat) (H : Hp) (s : Shared) (Ts : List Addr) (c : Nat), xs.length - i = k → i ≤ xs.length → ZlI X pins σ z TI TO i1 i2 a b L xs ys its its2 i H0 H s Ts c →
      codeAny (model X.prog X.w) A (.builtin "list.extend.loop" ⟨[.ref L, .ref z, res], []⟩) R s := by
  have l1 := rv.length
  have l2 := rv2.length
  have ai : a ≠ i1 := D.1
  have bi : b ≠ i2 := D.2
  have D1 := Draws.list (prog := X.prog) (w := X.w) (A := A.in1.in1) hA i1 a ai its.toArray
  have D2 := Draws.tuple (prog := X.prog) (w := X.w) (A := A.in1.in1) hA i2 b bi its2.toArray
  have l3 : its.toArray.size = xs.length := by simp [l1]
  have l4 : its2.toArray.size = xs.length := by simp [l2, hl]
  rw [l3] at D1
  rw [l4] at D2
  obtain ⟨q1, q2, q3, q4, q5, q6, q7⟩ : L ≠ z ∧ L ≠ TI ∧ L ≠ TO ∧ L ≠ i1 ∧ L ≠ i2 ∧ L ≠ a ∧ L ≠ b := by simpa using hL
  have hL4 : L ∉ [z, TO, i1, i2] := by simp [q1, q3, q4, q5]
  intro k
  induction k with
  | zero =>
    intro i H s Ts c hk hi zi
    obtain rfl : i = xs.length := by omega
    refine codeAny_builtin F.entry_extend_loop ?_; rw [Around.under_plainId F.plain_extend_loop _]; show wpAny _ A.in1 (pyNext (.ref _) >>= _) _ _ s
    refine wpAny_bind (zl_end S D1 D2 zi.zl zi.s1 zi.s2 fun h' tk kp => wpAny_pure (hR H _ Ts c (zi.inv.turnedL (t' := tk) kp fun c m => zi.own c ?_) (zi.own L (by simp)) (kp _ _ hL4 zi.lst) zi.len zi.sm zi.tup))
    simp only [List.mem_cons, List.not_mem_nil, or_false] at m ⊢
    rcases m with m | m | m | m <;> simp [m]
  | succ k ih =>
    intro i H s Ts c hk hi zi
    have hlt : i < xs.length := by omega
    refine codeAny_builtin F.entry_extend_loop ?_; rw [Around.under_plainId F.plain_extend_loop _]; show wpAny _ A.in1 (pyNext (.ref _) >>= _) _ _ s
    refine wpAny_bind (zl_item S D1 D2 zi.zl zi.lo zi.s1 zi.s2 hlt hlt fun x1 x2 h' tk p1 p2 z' t1 t2 hp sz kp => ?_)
    obtain ⟨u1, hu1, r1⟩ := rv.get (List.getElem?_eq_getElem hlt)
    obtain ⟨u2, hu2, r2⟩ := rv2.get (List.getElem?_eq_getElem (show i < ys.length by omega))
    obtain rfl : u1 = x1 := by
      have p1 : its.toArray[i]? = some x1 := p1
      rw [List.getElem?_toArray, hu1] at p1
      injection p1
    obtain rfl : u2 = x2 := by
      have p2 : its2.toArray[i]? = some x2 := p2
      rw [List.getElem?_toArray, hu2] at p2
      injection p2
    have own4 : ∀ c ∈ [z, TO, i1, i2], FpOk X pins H c := fun c m => zi.own c (by
      simp only [List.mem_cons, List.not_mem_nil, or_false] at m ⊢
      rcases m with m | m | m | m <;> simp [m])
    have new : ObjOk X.prog X.w (upd H s.heap.objs.size (.tup [xs[i], ys[i]])) h' s.heap.objs.size (.tup [xs[i], ys[i]]) := ⟨by show 2 ≤ sizeLine; decide, [u1, u2], .cons r1 (.cons r2 .nil), ⟨_, hp, rfl, _, rfl⟩⟩
    have hn0 : H s.heap.objs.size = none := zi.inv.hok.fresh (Nat.le_refl _)
    have J : Inv X pins σ (upd H s.heap.objs.size (.tup [xs[i], ys[i]])) { s with heap := h', toks := tk } := zi.inv.turnedNew (t' := tk) kp own4 (Nat.le_refl _) new
    have hL' := kp _ _ hL4 zi.lst
    have lt6 : ∀ c ∈ [z, TI, TO, i1, i2, L], c < s.heap.objs.size := fun c m => by
      by_cases e : c = L
      · rw [e]
        exact Heap.lt_size zi.lst
      · refine zi.lo c ?_
        simp only [List.mem_cons, List.not_mem_nil, or_false] at m ⊢
        rcases m with m | m | m | m | m | m <;> simp [m] at e ⊢
    have own' : ∀ c ∈ [z, TI, TO, i1, i2, L], FpOk X pins (upd H s.heap.objs.size (.tup [xs[i], ys[i]])) c := fun c m => by
      obtain ⟨o1, o2⟩ := zi.own c m
      exact ⟨by rw [upd_ne (Nat.ne_of_lt (lt6 c m))]; exact o1, o2⟩
    show wpAny _ A.in1 (updateSeq L (·.push (.ref s.heap.objs.size)) >>= _) _ _ _
    have up : ∀ b o, b ≠ L → h'.get? b = some o → (h'.update L (Obj.mapSeq (·.push (.ref s.heap.objs.size)))).get? b = some o := fun b o nb e => (Heap.get?_update_other _ _ (Ne.symm nb)).trans e
    have sz2 : (h'.update L (Obj.mapSeq (·.push (.ref s.heap.objs.size)))).objs.size = h'.objs.size := (Heap.SameBut.update ..).1
    obtain ⟨c2, hc2⟩ : ∃ c2, (h'.update L (Obj.mapSeq (·.push (.ref s.heap.objs.size)))).get? L = some { cls := .type "list", dict := none, data := .seq ((Ts ++ [s.heap.objs.size]).map Value.ref).toArray c2, slots := #[] } := by
      have e := Heap.get?_update_self (Obj.mapSeq (·.push (.ref s.heap.objs.size))) hL' rfl
      simp only [Obj.mapSeq] at e
      exact ⟨_, e.trans (by simp; rfl)⟩
    have sl := sizeLine_eq
    have hTl := zi.len
    refine wpAny_bind (wpAny_updateSeq hL' rfl (wpAny_pure ⟨plainId_quiet F.plain_extend_loop _, ih (i + 1) (upd H s.heap.objs.size (.tup [xs[i], ys[i]])) _ (Ts ++ [s.heap.objs.size]) c2 (by omega) hlt ?_⟩) (by simp; omega) (by simp; omega))
    refine ⟨J.turnedL (t' := tk) (ch := [L]) (fun b o nb e => up b o (fun r => nb (by simp [r])) e) (fun c m => own' c (by simp [List.mem_singleton.mp m])), own', ?_, ?_, ?_, ?_, ?_, ?_, ?_, ?_⟩
    · obtain ⟨hz, hTI⟩ := z'
      refine ⟨?_, up _ _ q2.symm hTI⟩
      rcases hz with ⟨hz, x, y, hTO⟩ | ⟨T, fl, oT, hz, hT, hn⟩
      · exact .inl ⟨up _ _ q1.symm hz, x, y, up _ _ q3.symm hTO⟩
      · by_cases e : T = L
        · subst e
          exact .inr ⟨_, fl, _, up _ _ q1.symm hz, Heap.get?_update_self _ hL' rfl, hn⟩
        · exact .inr ⟨T, fl, oT, up _ _ q1.symm hz, up _ _ e hT, hn⟩
    · intro c m
      show c < (h'.update L (Obj.mapSeq (·.push (.ref s.heap.objs.size)))).objs.size
      rw [sz2, sz]
      exact Nat.lt_succ_of_lt (zi.lo c m)
    · exact D1.frame _ _ _ t1 fun b hb o e => up b o (fun r => by
        simp only [List.mem_cons, List.not_mem_nil, or_false] at hb; rcases hb with hb | hb
        · exact q4 (r.symm.trans hb)
        · exact q6 (r.symm.trans hb)) e
    · exact D2.frame _ _ _ t2 fun b hb o e => up b o (fun r => by
        simp only [List.mem_cons, List.not_mem_nil, or_false] at hb; rcases hb with hb | hb
        · exact q5 (r.symm.trans hb)
        · exact q7 (r.symm.trans hb)) e
    · exact hc2
    · rw [List.length_append, zi.len]
      rfl
    · exact zi.sm.trans (same_put hn0)
    · intro j T hj
      rw [List.getElem?_append] at hj
      split at hj
      · obtain ⟨x, y, e1, e2, e3⟩ := zi.tup j T hj
        exact ⟨x, y, e1, e2, same_put hn0 _ _ e3⟩
      · rename_i hge
        have : j = i := by
          have h1 := (List.getElem?_eq_some_iff.mp hj).1
          have h2 := zi.len
          simp only [List.length_singleton] at h1
          omega
        subst this
        have e0 : j - Ts.length = 0 := by
          have h2 := zi.len
          omega
        rw [e0] at hj
        injection hj with hj
        subst hj
        exact ⟨_, _, List.getElem?_eq_getElem hlt, List.getElem?_eq_getElem (show j < ys.length by omega), upd_same⟩
end
end Ev

/-! ## list(zip(a, b)): the rule -/
namespace Ev
open PySem PySem.Spec PyProof.Rows L2
section
variable {X : Cx} {pins : List (Addr × Obj)} {σ : L2.St} {z TI TO i1 i2 a b L : Addr} {xs ys : List V} {its its2 : List Value}
theorem zl_init (calm : X.calm = true) (S : ZipSep2 z TI TO i1 i2 [i1, a] [i2, b]) (D : a ≠ i1 ∧ b ≠ i2) (hL : L ∉ [z, TI, TO, i1, i2, a, b]) (rv : Vals xs its) (rv2 : Vals ys its2) (hl : xs.length = ys.length) (hn : xs.length ≤ 1000) {R : Result → Shared → Prop} {A : Around} (hA : A.in1.in1.handled = none) {H : Hp} {s : Shared} (own : ∀ c ∈ [z, TI, TO, i1, i2, L], FpOk X pins H c)
    (I : Inv X pins σ H s) (hlo : ∀ c ∈ [z, TI, TO, i1, i2], c < s.heap.objs.size) (hz : IsZip s.heap z TI TO .none) (hTO : IsTupOf2 s.heap TO .none .none) (hTI : IsTupOf2 s.heap TI (.ref i1) (.ref i2)) (st1 : s.heap.IsListIter i1 a 0 ∧ s.heap.IsList a its.toArray) (st2 : s.heap.IsTupleIter i2 b 0 ∧ s.heap.IsTuple b its2.toArray) (hS : s.heap.get? L = some { cls := .type "list", data := .seq #[] })
    (hR : ∀ (H1 : Hp) (s : Shared) (Ts : List Addr) (c : Nat), Inv X pins σ H1 s → FpOk X pins H1 L → s.heap.get? L = some { cls := .type "list", dict := none, data := .seq (Ts.map Value.ref).toArray c, slots := #[] } → Ts.length = xs.length → Same H H1 →
      (∀ (j : Nat) (T : Addr), Ts[j]? = some T → ∃ x y, xs[j]? = some x ∧ ys[j]? = some y ∧ H1 T = some (.tup [x, y])) → R (.ok (.ret .none)) s) :
    wpAny (model X.prog X.w) A.in1 (Builtin.«list.__init__» ⟨[.ref L, .ref z], []⟩)
      (fun fin s' => match fin with | .done f => R (.ok f) s' | .again c' => c'.quiet = true ∧ codeAny (model X.prog X.w) A c' R s') (fun e s' => R (.error e) s') s := by
  obtain ⟨q1, q2, q3, q4, q5, q6, q7⟩ : L ≠ z ∧ L ≠ TI ∧ L ≠ TO ∧ L ≠ i1 ∧ L ≠ i2 ∧ L ≠ a ∧ L ≠ b := by simpa using hL
  have sL := Heap.SameBut.update (h := s.heap) (a := L) (f := Obj.mapSeq fun _ => (#[] : Array Value))
  have eL := Heap.get?_update_self (Obj.mapSeq fun _ => (#[] : Array Value)) hS rfl
  have hz1 := sL.extBut _ _ q1.symm hz
  have ty : ({ s with heap := s.heap.update L (Obj.mapSeq fun _ => (#[] : Array Value)) } : Shared).TypeIs (.ref z) "zip" := ⟨_, hz1, rfl⟩
  have same : Builtin.List.listSameRef (.ref L) (.ref z) = false := by simp [Builtin.List.listSameRef, q1]
  obtain ⟨hp, gs, dr, tk, os⟩ := s
  wp_walk using (wpAny_typeOf (v := Value.ref z) ty), (wpAny_pyIter_zip hz1), wpAny_holding, (wpAny_specialOf (v := Value.ref z) ty zip_no_len), (wpAny_specialOf (v := Value.ref z) ty zip_no_hint)
  have kp : ∀ b o, b ≠ L → hp.get? b = some o → (((hp.update L (Obj.mapSeq fun _ => (#[] : Array Value))).update L (Obj.mapSeq fun x => x.push Value.none)).update L (Obj.mapSeq fun x => x.pop)).get? b = some o := fun b o nb e =>
    (Heap.get?_update_other _ _ (Ne.symm nb)).trans ((Heap.get?_update_other _ _ (Ne.symm nb)).trans ((Heap.get?_update_other _ _ (Ne.symm nb)).trans e))
  have e3 := Heap.get?_update_self (Obj.mapSeq fun x => x.pop) (Heap.get?_update_self (Obj.mapSeq fun x => x.push Value.none) eL rfl) rfl
  have szL : ∀ {c}, c < hp.objs.size → c < (((hp.update L (Obj.mapSeq fun _ => (#[] : Array Value))).update L (Obj.mapSeq fun x => x.push Value.none)).update L (Obj.mapSeq fun x => x.pop)).objs.size := fun {c} h => by
    rw [(Heap.SameBut.update (h := (hp.update L (Obj.mapSeq fun _ => (#[] : Array Value))).update L (Obj.mapSeq fun x => x.push Value.none)) (a := L) (f := Obj.mapSeq fun x => x.pop)).1, (Heap.SameBut.update (h := hp.update L (Obj.mapSeq fun _ => (#[] : Array Value))) (a := L) (f := Obj.mapSeq fun x => x.push Value.none)).1, (Heap.SameBut.update (h := hp) (a := L) (f := Obj.mapSeq fun _ => (#[] : Array Value))).1]
    exact h
  obtain ⟨c3, hc3⟩ : ∃ c3, (((hp.update L (Obj.mapSeq fun _ => (#[] : Array Value))).update L (Obj.mapSeq fun x => x.push Value.none)).update L (Obj.mapSeq fun x => x.pop)).get? L = some { cls := .type "list", dict := none, data := .seq (([] : List Addr).map Value.ref).toArray c3, slots := #[] } := by
    simp only [Obj.mapSeq] at e3
    exact ⟨_, e3.trans (by simp; rfl)⟩
  refine ⟨plainId_quiet F.plain_extend_loop _, zl_loop calm S D hL rv rv2 hl hn hA H .none hR xs.length 0 H _ [] c3 rfl (Nat.zero_le _) ⟨I.turnedL (t' := tk) (ch := [L]) (fun b o nb e => kp b o (fun r => nb (by simp [r])) e) (fun c m => own c (by simp [List.mem_singleton.mp m])), own, ⟨.inl ⟨kp _ _ q1.symm hz, _, _, kp _ _ q3.symm hTO⟩, kp _ _ q2.symm hTI⟩, fun c m => szL (hlo c m), ?_, ?_, hc3, rfl, Same.rfl', nofun⟩⟩
  · refine (Draws.list (prog := X.prog) (w := X.w) (A := A.in1.in1) hA i1 a D.1 its.toArray).frame 0 _ _ st1 fun b hb o e => kp b o (fun r => ?_) e
    simp only [List.mem_cons, List.not_mem_nil, or_false] at hb; rcases hb with hb | hb
    · exact q4 (r.symm.trans hb)
    · exact q6 (r.symm.trans hb)
  · refine (Draws.tuple (prog := X.prog) (w := X.w) (A := A.in1.in1) hA i2 b D.2 its2.toArray).frame 0 _ _ st2 fun b hb o e => kp b o (fun r => ?_) e
    simp only [List.mem_cons, List.not_mem_nil, or_false] at hb; rcases hb with hb | hb
    · exact q5 (r.symm.trans hb)
    · exact q7 (r.symm.trans hb)
end
end Ev

/-! ## list(zip(a, b)) as an expression -/
namespace Ev
open PySem PySem.Spec PyProof.Rows L2
theorem nin2 {x p q : Nat} (h1 : x ≠ p) (h2 : x ≠ q) : x ∉ [p, q] := by simp [h1, h2]
theorem zsep (n a b : Nat) (la : a < n) (lb : b < n) : ZipSep2 (n + 4) (n + 2) (n + 3) n (n + 1) [n, a] [n + 1, b] where
  TIz := show (n + 2 : Nat) ≠ n + 4 by omega
  TOz := show (n + 3 : Nat) ≠ n + 4 by omega
  TITO := show (n + 2 : Nat) ≠ n + 3 by omega
  TIi1 := show (n + 2 : Nat) ≠ n by omega
  mem1 := List.mem_cons_self ..
  zf1 := nin2 (x := n + 4) (by omega) (by omega)
  Tf1 := nin2 (x := n + 3) (by omega) (by omega)
  TIi2 := show (n + 2 : Nat) ≠ n + 1 by omega
  mem2 := List.mem_cons_self ..
  zf2 := nin2 (x := n + 4) (by omega) (by omega)
  Tf2 := nin2 (x := n + 3) (by omega) (by omega)
  sep1_2 := nin2 (x := n) (by omega) (by omega)
  sep2_1 := nin2 (x := n + 1) (by omega) (by omega)
theorem nin7 (n a b L : Nat) (la : a < n) (lb : b < n) (h : L = n + 5) : L ∉ [n + 4, n + 2, n + 3, n, n + 1, a, b] := by
  simp only [List.mem_cons, List.not_mem_nil, or_false]
  omega
theorem in6 {n L c : Nat} (h : L = n + 5) (m : c ∈ [n + 4, n + 2, n + 3, n, n + 1, L]) : n ≤ c := by
  simp only [List.mem_cons, List.not_mem_nil, or_false] at m
  omega
theorem in5 {n c : Nat} (m : c ∈ [n + 4, n + 2, n + 3, n, n + 1]) : c < n + 5 := by
  simp only [List.mem_cons, List.not_mem_nil, or_false] at m
  omega
def tLstZx (K : PySem.W.Frag) (ta : TA) : TE := fun σ H Q => ta σ H fun vs H1 => ∃ (a b : Addr) (xs ys : List V), vs = [.ref a, .ref b] ∧ SqL K H1 a xs ∧ SqT K H1 b ys ∧ xs.length = ys.length ∧ xs.length ≤ 1000 ∧
  ∀ (H2 : Hp) (l : Addr) (Ts : List Addr), Same H1 H2 → H2 l = some (.lst (Ts.map V.ref)) → Ts.length = xs.length → (∀ (j : Nat) (T : Addr), Ts[j]? = some T → ∃ x y, xs[j]? = some x ∧ ys[j]? = some y ∧ H2 T = some (.tup [x, y])) → Q (.ref l) H2
theorem pe_listZx {X : Cx} {e e2 : Expr} {ta : TA} {p p2 pos pos2 : Pos} (calm : X.calm = true) (hgz : Gl X "zip") (hmz : X.mg "zip" = none) (hg : Gl X "list") (hm : X.mg "list" = none) (ha : PA X [e, e2] ta)
    (hs : starEach [e, e2] X.env = (false, eval e X.env) :: starEach [e2] X.env := by rfl) (hpl : (backTo pos2 (starEach [e2] X.env)).any (·.1) = false := by rfl)
    (na : starEach [.Call (.Name "zip" p2) [e, e2] [] pos2] X.env = (false, eval (.Call (.Name "zip" p2) [e, e2] [] pos2) X.env) :: starEach [] X.env := by rfl) :
    PE X (.Call (.Name "list" p) [.Call (.Name "zip" p2) [e, e2] [] pos2] [] pos) (tLstZx X.K ta) := by
  refine ⟨fun pins s σ H Q I h => Call_ (ld_blt I hg hm boot_list (PyProof.Rows.callWith_type1 (args_cons (Call_ (ld_blt (I.tok _) hgz hmz PyProof.Rows.boot_zip (PyProof.Rows.callWith_type1 (thn (ha.run pos2 pins _ σ H _ (I.tok _) h) fun us s1 ⟨vs, H1, I1, r1, q1⟩ => ?_) hs hpl))) na) na))⟩
  obtain ⟨a, b, xs, ys, ex, hqx, hqy, hl, hn, q⟩ := q1
  subst ex
  obtain ⟨u1, u2, rfl, rx, ry⟩ : ∃ u1 u2, us = [u1, u2] ∧ RelV (.ref a) u1 ∧ RelV (.ref b) u2 := by
    cases r1 with
    | cons r rr => cases rr with
      | cons r' rr => cases rr; exact ⟨_, _, rfl, r, r'⟩
  cases rx
  cases ry
  obtain ⟨its, rv, p1, _⟩ := I1.list hqx; obtain ⟨its2, rv2, p3, _⟩ := I1.tuple hqy
  have la : a < s1.heap.objs.size := p1.lt; have lb : b < s1.heap.objs.size := by
    obtain ⟨o, ho, _⟩ := id p3
    exact Heap.lt_size ho
  refine zip_begins2 (begins_list a its.toArray) (begins_tuple b its2.toArray) p1.isList p3 fun h' hz hTI hTO h1 h2 hsz hk => args_nil ?_
  have I2 : Inv X pins σ H1 { s1 with heap := h' } := I1.kept (t' := s1.toks) hk; refine callType_codes (Q₁ := fun obj s₁ => obj = .ref h'.objs.size ∧ s₁ = { s1 with heap := h'.push { cls := .type "list", data := .seq #[] } }) F.called_list (F.typeCall_list_1 _) F.entry_list_init (code_list_new _ ⟨rfl, rfl⟩) fun obj s₁ h₁ => ?_
  obtain ⟨rfl, rfl⟩ := h₁
  have hS : (h'.push { cls := .type "list", data := .seq #[] }).get? h'.objs.size = some { cls := .type "list", data := .seq #[] } := Heap.get?_push_size _ rfl
  refine ⟨⟨_, hS, rfl⟩, F.args_list_init_2 _ _, ?_⟩
  generalize hN : s1.heap.objs.size = n at *
  have hN' : h'.objs.size = n + 5 := hsz
  have S := zsep n a b la lb
  have hL : h'.objs.size ∉ [n + 4, n + 2, n + 3, n, n + 1, a, b] := nin7 n a b _ la lb hN'
  have kp : ∀ c o, h'.get? c = some o → (h'.push { cls := .type "list", data := .seq #[] }).get? c = some o := fun c o e => Heap.get?_push_of_some _ e
  have I3 : Inv X pins σ H1 { s1 with heap := h'.push { cls := .type "list", data := .seq #[] } } := I2.kept (t' := s1.toks) kp
  have own : ∀ c ∈ [n + 4, n + 2, n + 3, n, n + 1, h'.objs.size], FpOk X pins H1 c := fun c m => by
    have hle : n ≤ c := in6 hN' m
    rw [← hN] at hle; exact I1.fpOk hle (I1.hok.fresh hle)
  refine zl_init (A := X.A.in1) calm S ⟨Nat.ne_of_lt la, Nat.ne_of_lt (Nat.lt_succ_of_lt lb)⟩ hL rv rv2 hl hn (I.ok.hd calm) own I3 (fun c m => ?_) (kp _ _ hz) (kp _ _ hTO) (kp _ _ hTI) ?_ ?_ hS fun H2 s2 Ts c J oL eL len sm ht => ?_
  · show c < (h'.push _).objs.size
    rw [Heap.size_push, hN']
    exact Nat.lt_succ_of_lt (in5 m)
  · obtain ⟨o, ho, hc, m, hd⟩ := p1.isList
    exact ⟨⟨_, kp _ _ h1, rfl, rfl⟩, o, kp _ _ (hk _ _ ho), hc, m, hd⟩
  · obtain ⟨o, ho, hc, m, hd⟩ := id p3
    exact ⟨⟨_, kp _ _ h2, rfl, rfl⟩, o, kp _ _ (hk _ _ ho), hc, m, hd⟩
  · have hv : Vals (Ts.map V.ref) (Ts.map Value.ref) := by
      clear eL len ht
      induction Ts with
      | nil => exact .nil
      | cons T Ts ih => exact .cons rfl ih
    refine ⟨rfl, .ref h'.objs.size, upd H2 h'.objs.size (.lst (Ts.map V.ref)), J.take (t' := s2.toks) (fun b ob nb e => e) oL (show ObjOk X.prog X.w _ s2.heap _ (.lst (Ts.map V.ref)) from ⟨?_, _, c, hv, eL⟩), rfl, ?_⟩
    · rw [List.length_map, len, sizeLine_eq]
      exact Nat.le_trans hn (by decide)
    · refine q _ _ Ts (sm.trans (same_put oL.1)) upd_same len fun j T hj => ?_
      obtain ⟨x, y, e1, e2, e3⟩ := ht j T hj
      exact ⟨x, y, e1, e2, same_put oL.1 _ _ e3⟩
end Ev

/-! ## loops over a zip of a tuple and a list, over WalksT.zipD2, Draws.tuple and Draws.list -/
namespace Ev
open PySem PySem.Spec PyProof.Rows L2
def ItZt (K : PySem.W.Frag) (a b : Addr) : L2.It where
  go i H := ∃ (xs ys : List V) (x y : V), SqT K H a xs ∧ SqL K H b ys ∧ xs[i]? = some x ∧ ys[i]? = some y
  yld i H v H' := ∃ T x y, v = V.ref T ∧ H T = none ∧ H' = upd H T (.tup [x, y]) ∧ (∀ xs, SqT K H a xs → xs[i]? = some x) ∧ ∀ ys, SqL K H b ys → ys[i]? = some y
  stop i H := ∃ xs ys : List V, SqT K H a xs ∧ SqL K H b ys ∧ xs.length = i ∧ ys.length = i
structure ZtC (a b z TI TO i1 i2 : Addr) (i : Nat) (h : Heap) : Prop where
  zi : IsZip h z TI TO .none
  ti : IsTupOf2 h TI (.ref i1) (.ref i2)
  to : ∃ a1 a2, IsTupOf2 h TO a1 a2
  l1 : h.IsTupleIter i1 a i
  l2 : h.IsListIter i2 b i
theorem ZtC.cell {a b z TI TO i1 i2 c : Addr} {i : Nat} {h : Heap} (st : ZtC a b z TI TO i1 i2 i h) (m : c ∈ [z, TI, TO, i1, i2]) : ∃ o, h.get? c = some o ∧ ∀ v, o.data ≠ .cell v := by
  obtain ⟨zi, ti, ⟨a1, a2, to⟩, ⟨o1, e1, _, d1⟩, ⟨o2, e2, _, d2⟩⟩ := st
  simp only [List.mem_cons, List.not_mem_nil, or_false] at m
  rcases m with rfl | rfl | rfl | rfl | rfl
  · exact ⟨_, zi, nofun⟩
  · exact ⟨_, ti, nofun⟩
  · exact ⟨_, to, nofun⟩
  · exact ⟨o1, e1, fun v q => nomatch d1.symm.trans q⟩
  · exact ⟨o2, e2, fun v q => nomatch d2.symm.trans q⟩
theorem turn_zt {P : Program} {w : World} {K : PySem.W.Frag} {elts : List Expr} {kk : Nat} {tpos : Pos} {a b z TI TO i1 i2 : Addr} (S : ZipSep2 z TI TO i1 i2 [i1, a] [i2, b]) (na : a ≠ i1) (nb : b ≠ i2) :
    L2.Turn P w K (.Tuple elts kk tpos) (ItZt K a b) [z, TI, TO, i1, i2] z (ZtC a b z TI TO i1 i2) where
  mem := List.mem_cons_self ..
  obj i h st c hc := st.cell hc
  keep i h h' st k := by
    obtain ⟨zi, ti, ⟨a1, a2, to⟩, l1, l2⟩ := st
    exact ⟨k z (by simp) _ zi, k TI (by simp) _ ti, ⟨a1, a2, k TO (by simp) _ to⟩, l1.at fun o q => k i1 (by simp) o q, l2.at fun o q => k i2 (by simp) o q⟩
  item := by
    rintro X rfl rfl rfl calm i pins s σ H E I own st ⟨xs, ys, x, y, hqx, hqy, hx, hy⟩
    obtain ⟨its, rv, p, _⟩ := I.tuple hqx
    obtain ⟨its2, rv2, p2, _⟩ := I.list hqy
    obtain ⟨u, hu, ru⟩ := rv.get hx
    obtain ⟨u2, hu2, ru2⟩ := rv2.get hy
    have hh := I.ok.hd calm
    have W := WalksT.zipD2 S (Draws.tuple (prog := X.prog) (w := X.w) (A := X.A.in1) hh i1 a na its.toArray) (Draws.list (prog := X.prog) (w := X.w) (A := X.A.in1) hh i2 b nb its2.toArray)
    have in1 : i < min its.toArray.size its2.toArray.size := by
      have k1 := (List.getElem?_eq_some_iff.mp hu).1
      have k2 := (List.getElem?_eq_some_iff.mp hu2).1
      rw [List.size_toArray, List.size_toArray]
      omega
    have lt : ∀ c ∈ [z, TI, TO, i1, i2], c < s.heap.objs.size := fun c m => by
      obtain ⟨o, q, _⟩ := st.cell m
      exact Heap.lt_size q
    refine W.item i s _ E in1 ⟨st.zi, st.ti, st.to, ⟨st.l1, p⟩, ⟨st.l2, p2.isList⟩⟩ fun T vs h1 tk pt big tup mid k1 => ⟨_, rfl, W.go elts kk tpos i T _ _ E mid fun h2 st2 k2 => ?_⟩
    obtain ⟨w1, w2, e1, e2, rfl⟩ := pt
    obtain rfl : w1 = u := Option.some.inj (e1.symm.trans (by simpa using hu))
    obtain rfl : w2 = u2 := Option.some.inj (e2.symm.trans (by simpa using hu2))
    obtain ⟨oT, gT, cT, dT⟩ := tup
    have new : ObjOk X.prog X.w (upd H T (.tup [x, y])) h2 T (.tup [x, y]) :=
      ⟨(by show 2 ≤ sizeLine; decide), [w1, w2], .cons ru (.cons ru2 .nil), oT, k2 T oT (W.apart i T h1 mid) gT, cT, dT⟩
    have sub : ∀ c, c ∉ [z, TI, TO, i1, i2] → c ∉ [z, TO, i1, i2] := fun c n m => n (by simp only [List.mem_cons, List.not_mem_nil, or_false] at m ⊢; rcases m with m | m | m | m <;> simp [m])
    have J := I.turnedNew (t' := tk) (ch := [z, TI, TO, i1, i2]) (fun c o nc q => k2 c o (sub c nc) (k1 c o (sub c nc) q)) own big new
    refine ⟨.ref T, _, J, rfl, ⟨T, x, y, rfl, I.hok.fresh big, rfl, fun l hl => by rw [I.tuple_inj hl hqx]; exact hx, fun l hl => by rw [I.list_inj hl hqy]; exact hy⟩, ⟨st2.1, st2.2.1, st2.2.2.1, st2.2.2.2.1.1, st2.2.2.2.2.1⟩, fun c m => ?_⟩
    rw [upd_ne (Nat.ne_of_lt (Nat.lt_of_lt_of_le (lt c m) big))]
    exact (own c m).1
  done := by
    rintro X rfl rfl rfl calm i pins s σ H E I own st ⟨xs, ys, hqx, hqy, hl, hl2⟩
    obtain ⟨its, rv, p, _⟩ := I.tuple hqx
    obtain ⟨its2, rv2, p2, _⟩ := I.list hqy
    have k1 := rv.length
    have k2 := rv2.length
    have hh := I.ok.hd calm
    have W := WalksT.zipD2 S (Draws.tuple (prog := X.prog) (w := X.w) (A := X.A.in1) hh i1 a na its.toArray) (Draws.list (prog := X.prog) (w := X.w) (A := X.A.in1) hh i2 b nb its2.toArray)
    have n : min its.toArray.size its2.toArray.size = i := by
      rw [List.size_toArray, List.size_toArray]
      omega
    refine W.done s _ E (by rw [n]; exact ⟨st.zi, st.ti, st.to, ⟨st.l1, p⟩, ⟨st.l2, p2.isList⟩⟩) fun h' tk k => ⟨rfl, I.turnedL (t' := tk) (ch := [z, TI, TO, i1, i2]) (fun c o hb q => k c o (fun m => hb (by simp only [List.mem_cons, List.not_mem_nil, or_false] at m ⊢; rcases m with m | m | m | m <;> simp [m])) q) own⟩
  self A i s Q E st h := wpAny_pyIter_zip st.zi h
def iZipT (K : PySem.W.Frag) (ta : TA) : TI := fun σ H R => ta σ H fun vs H1 => ∃ a b xs ys, vs = [.ref a, .ref b] ∧ SqT K H1 a xs ∧ SqL K H1 b ys ∧ R (ItZt K a b) H1
theorem pi_zipT {X : Cx} {e e2 : Expr} {ta : TA} {p pos tpos : Pos} {elts : List Expr} {kk : Nat} (hg : Gl X "zip") (hm : X.mg "zip" = none) (ha : PA X [e, e2] ta)
    (hs : starEach [e, e2] X.env = (false, eval e X.env) :: starEach [e2] X.env := by rfl) (hpl : (backTo pos (starEach [e2] X.env)).any (·.1) = false := by rfl) :
    PI X (.Tuple elts kk tpos) (.Call (.Name "zip" p) [e, e2] [] pos) (iZipT X.K ta) where
  run pins s σ H R I h := by
    refine Call_ (ld_blt I hg hm PyProof.Rows.boot_zip (PyProof.Rows.callWith_type1 (thn (ha.run pos pins s σ H _ I h) ?_) hs hpl))
    rintro us s1 ⟨vs, H1, I1, r1, a, b, xs, ys, rfl, hqx, hqy, q⟩
    obtain ⟨u, u2, rfl, ra, rb⟩ := vals2 r1
    cases ra
    cases rb
    obtain ⟨its, rv, p1, _⟩ := I1.tuple hqx
    obtain ⟨its2, rv2, p2, _⟩ := I1.list hqy
    obtain ⟨oa, ga, _⟩ := id p1
    have la := Heap.lt_size ga
    have lb := p2.lt
    refine zip_begins2 (begins_tuple a its.toArray) (begins_list b its2.toArray) p1 p2.isList fun h' hz hTI hTO h1 h2 hsz hk => wpAny_pyIter_zip hz ?_
    refine ⟨s1.heap.objs.size + 4, [s1.heap.objs.size + 4, s1.heap.objs.size + 2, s1.heap.objs.size + 3, s1.heap.objs.size, s1.heap.objs.size + 1], _, _, H1, rfl, I1.kept (t' := s1.toks) hk, turn_zt (zsep _ a b la lb) (Nat.ne_of_lt la) (Nat.ne_of_lt (Nat.lt_succ_of_lt lb)), ⟨hz, hTI, ⟨_, _, hTO⟩, ⟨_, h1, rfl, rfl⟩, ⟨_, h2, rfl, rfl⟩⟩, fun c m => ?_, q⟩
    have above : s1.heap.objs.size ≤ c := by
      simp only [List.mem_cons, List.not_mem_nil, or_false] at m
      rcases m with rfl | rfl | rfl | rfl | rfl
      · exact Nat.le_add_right _ 4
      · exact Nat.le_add_right _ 2
      · exact Nat.le_add_right _ 3
      · exact Nat.le_refl _
      · exact Nat.le_add_right _ 1
    exact I1.fpOk above (I1.hok.fresh above)
theorem walk_zt {K : PySem.W.Frag} {a b : Addr} {xs ys : List V} (h : xs.length = ys.length) : Walk (ItZt K a b) xs.length (fun H => SqT K H a xs ∧ SqL K H b ys) (YPair (fun i => xs[i]?) (fun i => ys[i]?)) where
  goes i H hi := fun ⟨q1, q2⟩ => ⟨xs, ys, xs[i], ys[i]'(h ▸ hi), q1, q2, List.getElem?_eq_getElem hi, List.getElem?_eq_getElem _⟩
  stops H := fun ⟨q1, q2⟩ => ⟨xs, ys, q1, q2, rfl, h.symm⟩
  yields i H v H' _ := by
    rintro ⟨q1, q2⟩ ⟨T, x, y, rfl, n1, rfl, hx, hy⟩
    exact ⟨T, x, y, rfl, n1, rfl, hx xs q1, hy ys q2⟩
end Ev

/-! ## [e for x, y in zip(a tuple, a list)] -/
namespace Ev
open PySem PySem.Spec PyProof.Rows L2
section
variable {K : PySem.W.Frag} {σ : L2.St} {H : Hp} {Q : VK} {te : TE} {ta : TA} {a b : Addr} {xs ws ys : List V} {g : TG} {vs : List Nat}
theorem lcI_zt (hl : ys.length = xs.length) (h2 : xs.length = ws.length) (hi : ∀ Q : List V → Hp → Prop, Q [.ref a, .ref b] H → ta σ H Q) (hx : SqT K H a xs) (hw : SqL K H b ws) (hz : xs.length ≤ 1000000)
    (he : ∀ (k : Nat) x w y, xs[k]? = some x → ws[k]? = some w → ys[k]? = some y → ∀ (H' : Hp) (T : Addr) (R : VK), Same H H' → H' T = none → (∀ H'', Same (upd H' T (.tup [x, w])) H'' → R y H'') →
      g (.ref T) (wipe σ vs) (upd H' T (.tup [x, w])) fun σ2 H2 => wipe σ2 vs = wipe σ vs ∧ te σ2 H2 R)
    (q : ∀ H' D, Same H H' → H D = none → H' D = some (.lst ys) → Q (.ref D) H') : tLc (iZipT K ta) g tYes te vs σ H Q := by
  refine hi _ ⟨a, b, xs, ws, rfl, hx, hw, fun D nD => ?_⟩
  refine lc_it (walk_zt h2) (fun k H' => Same H H' ∧ H' D = some (.lst (ys.take k))) ⟨same_put nD, upd_same⟩ (fun k H' _ ⟨s', _⟩ => ⟨seqT_mono s' hx, s'.seq hw⟩) ?_ ?_
  · rintro k v H1 H' hk ⟨s', eD⟩ ⟨T, x, w, rfl, nT, rfl, ex, ew⟩
    have hy : k < ys.length := by omega
    have e3 : ys[k]? = some ys[k] := List.getElem?_eq_getElem hy
    have s1 : Same H1 (upd H1 T (.tup [x, w])) := same_put nT
    have sz := sizeLine_eq
    have z := he k x w _ ex ew e3 H1 T (fun y H4 => ∃ acc, H4 D = some (.lst acc) ∧ acc.length < sizeLine ∧ Same H (upd H4 D (.lst (acc ++ [y]))) ∧ upd H4 D (.lst (acc ++ [y])) D = some (.lst (ys.take (k + 1)))) s' nT (fun H'' s'' => ⟨_, s'' _ _ (s1 _ _ eD), by
        rw [List.length_take]
        omega, fun c o h => by
        rw [upd_ne (ne_of_none h nD)]
        exact s'' _ _ (s1 _ _ (s' _ _ h)), by
        rw [upd_same, List.take_add_one, e3]
        rfl⟩)
    exact z
  · rintro H' ⟨s', eD⟩
    rw [← hl, List.take_length] at eD
    exact q H' D s' nD eD
end
end Ev

/-! ## name = {..: .. for ..}, the name a local of the def -/
namespace Ev
open PySem PySem.Spec PyProof.Rows L2
theorem swd_true {kx vx : Expr} {gs : List Comprehension} {sc : Scope} {p0 p1 : Pos} {nm : Str} {ln : Nat} {en : Env} (h1 : en.scope.kind = .function) (h2 : en.scope.names.lookup nm = some .local)
    (h3 : (p1.line == p0.line) = true) (h4 : (sc.names.any fun (n, k) => n == nm && (k == .local || k == .cell)) = false) : swapsWith (.DictComp kx vx gs sc p0) (some (.Name nm p1)) ln en = pure true := by
  have e1 : en.kindOf nm = some .local := h2
  have e2 : en.blockKind = .function := by
    unfold Env.blockKind
    rw [h1]
    rfl
  unfold swapsWith
  simp only [e2, e1, h4, Expr.pos, h3]
  rfl
theorem ps_setDc {X : Cx} {n : Nat} {nm : Str} {p0 p1 p2 : Pos} {kx vx tg it : Expr} {cs : List Expr} {sc : Scope} {own : List (Str × Nat)} {wi : TI} {g : TG} {tt : TT} {tk tv : TE} (hc : X.calm = true) (hN : X.N.Nodup) (h1 : X.N[n]? = some nm)
    (h2 : X.env.scope.names.lookup nm = some .local) (h3 : swapsWith (.DictComp kx vx [⟨tg, it, cs, 0⟩] sc p0) (some (.Name nm p1)) p2.line X.env = pure true) (hi : PI X tg it wi) (ok : BlkOk X.N X.env.scope sc own)
    (hg : ∀ (s : Shared) (H : Hp) (c : Addr) (l : List (Str × Addr)) (fp : List Addr), PG (X.blk s H sc (compEnvC sc l c X.env) fp) tg g) (ht : ∀ (s : Shared) (H : Hp) (c : Addr) (l : List (Str × Addr)) (fp : List Addr), PTs (X.blk s H sc (compEnvC sc l c X.env) fp) cs tt)
    (hk : ∀ (s : Shared) (H : Hp) (c : Addr) (l : List (Str × Addr)) (fp : List Addr), PE (X.blk s H sc (compEnvC sc l c X.env) fp) kx tk) (he : ∀ (s : Shared) (H : Hp) (c : Addr) (l : List (Str × Addr)) (fp : List Addr), PE (X.blk s H sc (compEnvC sc l c X.env) fp) vx tv)
    (hs : ∀ x, foldedSetIterable it X.env x = pure x := by intro _; rfl) : PS X (.Assign [.Name nm p1] (.DictComp kx vx [⟨tg, it, cs, 0⟩] sc p0) p2) (tAsg (tDc wi g tt tk tv (own.map (·.2))) (gName n)) := by
  constructor
  intro pins s σ H D I h
  have e0 := exec_Assign_Name_used (env := X.env) _ _ _ _ h3
  rw [e0]
  have h : tDc wi g tt tk tv (own.map (·.2)) σ H (fun x H1 => gName n x σ H1 D.nx) := h
  refine wpAny_bind (wpAny_standAt (wpAny_bind ?go))
  case go =>
    change wpAny _ X.A (do let _ ← comprehension (.DictComp kx vx [⟨tg, it, cs, 0⟩] sc p0) sc X.env (firstIterPos [⟨tg, it, cs, 0⟩] p0) newDict false (eval it X.env) (some (assign (.Name nm p1) X.env))) _ _ s
    refine wpAny_bind (thn (dc_core (Qf := fun _ z => SP X pins D .next z) hc hN I hi ok hg ht hk he hs h fun dd C s1 mm H1 I1 q hn fp => ?_) fun _ z hq => wpAny_pure (wpAny_pure hq))
    change wpAny _ _ (assign (.Name nm p1) X.env (.ref dd)) _ _ _
    refine wpAny_assign_Name (store_ok2 (v := V.ref dd) I1 hN h1 (.inl h2) rfl (fun s2 I2 ⟨aa, sb, ha⟩ => ?_) (.inr h2))
    obtain ⟨g0, g1, g2, g3, g4, g5⟩ := fp
    have ne : C ≠ aa := by
      rcases ha with z | z
      · rw [z]
        exact g1
      · exact fun e => g4 nm aa z e.symm
    exact ⟨mm, hn.sameBut sb ne, fun h' sb' => ⟨_, H1, I2.turned (t' := s2.toks) (fun b o hb e => (sb'.2 b hb).trans e) g0 g1 g3 g4 g5, q⟩⟩
/-! ### dicts by names -/
def mapD (names : List Str) (v : Str → V) : List (Key × V) := names.map fun n => ((.inr n : Key), v n)
section
variable {names : List Str} {v : Str → V} {x : Str} {u : V}
theorem mapD_len : (mapD names v).length = names.length := by
  unfold mapD
  rw [List.length_map]
theorem mapD_val (h : x ∈ names) : valV (mapD names v) (.inr x) = some (v x) := by
  induction names with
  | nil => cases h
  | cons n names ih =>
    by_cases e : n = x
    · subst e
      exact valV_pos rfl
    · rw [show mapD (n :: names) v = ((.inr n, v n) : Key × V) :: mapD names v from rfl, valV_neg (fun z => e (Sum.inr.inj z))]
      exact ih ((List.mem_cons.mp h).resolve_left fun z => e z.symm)
theorem mapD_any : ((mapD names v).any fun p => decide (p.1 = (.inr x : Key))) = decide (x ∈ names) := by
  induction names with
  | nil => rfl
  | cons n names ih =>
    rw [show mapD (n :: names) v = ((.inr n, v n) : Key × V) :: mapD names v from rfl, List.any_cons, ih]
    by_cases e : n = x
    · subst e
      simp
    · have h1 : decide ((Sum.inr n : Key) = Sum.inr x) = false := decide_eq_false fun z => e (Sum.inr.inj z)
      have h2 : ¬ x = n := fun z => e z.symm
      show (decide ((Sum.inr n : Key) = Sum.inr x) || decide (x ∈ names)) = _
      rw [h1, Bool.false_or]
      exact decide_eq_decide.mpr ⟨fun z => List.mem_cons_of_mem _ z, fun z => (List.mem_cons.mp z).resolve_left h2⟩
theorem mapD_put (h : x ∈ names) : putK (mapD names v) (.inr x) u = mapD names fun n => if n = x then u else v n := by
  unfold putK
  rw [mapD_any, decide_eq_true h, if_pos rfl]
  unfold mapD
  rw [List.map_map]
  refine List.map_congr_left fun n _ => ?_
  show (if (Sum.inr n : Key) = Sum.inr x then _ else _) = ((.inr n, if n = x then u else v n) : Key × V)
  by_cases e : n = x
  · subst e
    rw [if_pos rfl]
    simp
  · rw [if_neg fun z => e (Sum.inr.inj z), if_neg e]
theorem mapD_new (h : x ∉ names) : putK (mapD names v) (.inr x) u = mapD names v ++ [(.inr x, u)] := by
  unfold putK
  rw [mapD_any, decide_eq_false h, if_neg Bool.false_ne_true]
theorem mapD_snoc (h : x ∉ names) : mapD names v ++ [(.inr x, u)] = mapD (names ++ [x]) fun n => if n = x then u else v n := by
  unfold mapD
  rw [List.map_append]
  congr 1
  · refine List.map_congr_left fun n hn => ?_
    have ne : ¬ n = x := fun z => by
      rw [z] at hn
      exact h hn
    show _ = ((.inr n, if n = x then u else v n) : Key × V)
    rw [if_neg ne]
  · simp
end
theorem but_bu {H H' : Hp} {p : Addr} (b : Bu p H H') : Same (but H p) (but H' p) := fun x o e => by
  by_cases h : x = p
  · rw [h] at e
    have z : but H p p = none := if_pos rfl
    rw [z] at e
    cases e
  · rw [but_ne h] at e ⊢
    exact b x o h e
theorem but_in {H : Hp} {p : Addr} : Same (but H p) H := fun x o e => by
  by_cases h : x = p
  · rw [h] at e
    have z : but H p p = none := if_pos rfl
    rw [z] at e
    cases e
  · rw [but_ne h] at e
    exact e
theorem newer_but {H H' : Hp} {p : Addr} {o : HO} (hp : H p = some o) : Same (newer H H') (but H' p) := fun x u e => by
  by_cases hb : H x = none
  · rw [newer_at hb] at e
    have n : x ≠ p := fun z => by
      rw [z, hp] at hb
      cases hb
    rw [but_ne n]
    exact e
  · have z : newer H H' x = none := if_neg hb
    rw [z] at e
    cases e
theorem newer_in {H H' : Hp} : Same (newer H H') H' := fun b o e => by
  by_cases hb : H b = none
  · rw [newer_at hb] at e
    exact e
  · have z : newer H H' b = none := if_neg hb
    rw [z] at e
    cases e
/-! ### columns as data -/
def intsD (m : Nat) (f : Nat → Int) : List PyData := (List.range m).map fun c => .int (f c)
def colD (m : Nat) (p : Str × (Nat → Int)) : PyData := .tuple [.str p.1, .list (intsD m p.2)]
theorem da_LI {K : PySem.W.Frag} {H : Hp} {m : Nat} {f : Nat → Int} : DaAll K H (LI m f) (intsD m f) := by
  unfold LI intsD
  generalize List.range m = l
  induction l with
  | nil => exact .nil
  | cons c l ih => exact .cons (.int _) ih
theorem da_ints {K : PySem.W.Frag} {H : Hp} : ∀ {ns : List Int} {vs : List V}, DaAll K H vs (ns.map PyData.int) → vs = ns.map V.int
  | [], _, .nil => rfl
  | n :: ns, _, .cons h t => by
    cases h
    rw [da_ints t]
    rfl
theorem da_col {K : PySem.W.Frag} {H : Hp} {m : Nat} {v : V} {p : Str × (Nat → Int)} (h : Da K H v (colD m p)) : ∃ t q, v = .ref t ∧ SqT K H t [.str p.1, .ref q] ∧ SqL K H q (LI m p.2) := by
  unfold colD at h
  cases h with
  | @tup t xs _ hs ha =>
  cases ha with
  | cons h1 ha =>
  cases ha with
  | cons h2 ha =>
  cases ha
  cases h1
  cases h2 with
  | @lst q ys _ hq hb =>
  have e : intsD m p.2 = ((List.range m).map p.2).map PyData.int := by
    unfold intsD
    rw [List.map_map]
    rfl
  rw [e] at hb
  have e2 := da_ints hb
  rw [← LI_ints] at e2
  subst e2
  exact ⟨t, q, rfl, hs, hq⟩
/-! ### starts behind items -/
def Its.st (m : Nat) : List It → (Nat → Int) → (Nat → Int)
  | [], f => f
  | i :: is, f => Its.st m is (mvF m (It.w i).length f)
theorem cols_app (m : Nat) : ∀ (is js : List It) (f : Nat → Int), Its.cols m (is ++ js) f = Its.cols m is f ++ Its.cols m js (Its.st m is f)
  | [], js, f => by
    rw [List.nil_append, Its.cols, Its.st, List.nil_append]
  | i :: is, js, f => by
    rw [List.cons_append, Its.cols, Its.cols, cols_app m is js, Its.st, List.append_assoc]
theorem st_app (m : Nat) : ∀ (is js : List It) (f : Nat → Int), Its.st m (is ++ js) f = Its.st m js (Its.st m is f)
  | [], js, f => by
    rw [List.nil_append, Its.st]
  | i :: is, js, f => by
    rw [List.cons_append, Its.st, Its.st, st_app m is js]
theorem cols_take {m : Nat} {is : List It} {i : Nat} {it : It} {f : Nat → Int} (h : is[i]? = some it) : Its.cols m (is.take (i + 1)) f = Its.cols m (is.take i) f ++ It.cols m it (Its.st m (is.take i) f) := by
  rw [List.take_add_one, h, cols_app]
  show _ ++ Its.cols m [it] _ = _
  rw [Its.cols, Its.cols, List.append_nil]
theorem st_take {m : Nat} {is : List It} {i : Nat} {it : It} {f : Nat → Int} (h : is[i]? = some it) : Its.st m (is.take (i + 1)) f = mvF m (It.w it).length (Its.st m (is.take i) f) := by
  rw [List.take_add_one, h, st_app]
  rfl
theorem st_bd {R m : Nat} (hm : 0 < m) : ∀ (is : List It) {f : Nat → Int}, Bd R m f → Bd R m (Its.st m is f)
  | [], _, h => h
  | i :: is, _, h => st_bd hm is (bd_mv hm h)
mutual
theorem It.cols_len (m : Nat) : ∀ (i : It) (f : Nat → Int), (It.cols m i f).length = It.nl i
  | .line _ _, _ => by
    rw [It.cols, It.nl]
    rfl
  | .loop _ js, _ => by
    rw [It.cols, It.nl, Its.cols_len m js]
theorem Its.cols_len (m : Nat) : ∀ (is : List It) (f : Nat → Int), (Its.cols m is f).length = Its.nl is
  | [], _ => by
    rw [Its.cols, Its.nl]
    rfl
  | i :: is, _ => by
    rw [Its.cols, Its.nl, List.length_append, It.cols_len m i, Its.cols_len m is]
end
mutual
theorem It.cols_nm (m : Nat) (r : Int) : ∀ (i : It) (f : Nat → Int), (It.cols m i f).map (·.1) = (It.sp r i).map (·.1)
  | .line _ _, _ => by
    rw [It.cols, It.sp]
    rfl
  | .loop k js, _ => by
    rw [It.cols, It.sp, Its.cols_nm m (r * k) js]
theorem Its.cols_nm (m : Nat) (r : Int) : ∀ (is : List It) (f : Nat → Int), (Its.cols m is f).map (·.1) = (Its.sp r is).map (·.1)
  | [], _ => by
    rw [Its.cols, Its.sp]
    rfl
  | i :: is, _ => by
    rw [Its.cols, Its.sp, List.map_append, List.map_append, It.cols_nm m r i, Its.cols_nm m r is]
end
mutual
theorem It.w_bd {B : Nat} : ∀ (n : Nat) (i : It), Okp B n i → (It.w i).length ≤ It.nl i * 2 ^ ((n + 1) * B)
  | n, .line x t, h => by
    have h := okp_line.mp h
    rw [It.w, It.nl, List.length_replicate, Nat.one_mul]
    have : 2 ^ B ≤ 2 ^ ((n + 1) * B) := Nat.pow_le_pow_right (by decide) (Nat.le_mul_of_pos_left _ (Nat.succ_pos _))
    omega
  | 0, .loop _ _, h => h.elim
  | n + 1, .loop r js, h => by
    obtain ⟨h1, h2, h3⟩ : 0 ≤ r ∧ r < (2 ^ B : Nat) ∧ ∀ i ∈ js, Okp B n i := h
    rw [It.w, It.nl, flat_len]
    have a := Its.w_bd n js h3
    have b : r.toNat * (Its.w js).length ≤ 2 ^ B * (Its.nl js * 2 ^ ((n + 1) * B)) := Nat.mul_le_mul (by omega) a
    have e : 2 ^ B * (Its.nl js * 2 ^ ((n + 1) * B)) = Its.nl js * 2 ^ ((n + 1 + 1) * B) := by
      rw [← Nat.mul_assoc, Nat.mul_comm (2 ^ B), Nat.mul_assoc, ← Nat.pow_add, Nat.succ_mul (n + 1) B, Nat.add_comm B]
    omega
theorem Its.w_bd {B : Nat} : ∀ (n : Nat) (is : List It), (∀ i ∈ is, Okp B n i) → (Its.w is).length ≤ Its.nl is * 2 ^ ((n + 1) * B)
  | n, [], _ => by
    rw [Its.w]
    exact Nat.zero_le _
  | n, i :: is, h => by
    rw [Its.w, Its.nl, List.length_append, Nat.add_mul]
    exact Nat.add_le_add (It.w_bd n i (h i (List.mem_cons_self ..))) (Its.w_bd n is fun j hj => h j (List.mem_cons_of_mem _ hj))
end
theorem w_bits {B n : Nat} {is : List It} (h : ∀ i ∈ is, Okp B n i) (hn : Its.nl is ≤ 100000) : (Its.w is).length < 2 ^ (17 + (n + 1) * B) := by
  have a := Its.w_bd n is h
  rw [Nat.pow_add]
  have p : 0 < 2 ^ ((n + 1) * B) := Nat.pos_of_ne_zero (by simp)
  have b : Its.nl is * 2 ^ ((n + 1) * B) < 2 ^ 17 * 2 ^ ((n + 1) * B) := Nat.mul_lt_mul_of_pos_right (by omega) p
  omega
theorem _root_.L2.SqL.mono' {K : PySem.W.Frag} {H H' : Hp} {a : Addr} {xs : List V} (h : SqL K H a xs) (s : Same H H') : SqL K H' a xs := s.seq h
theorem okp_up1 {B : Nat} : ∀ {n : Nat} {i : It}, Okp B n i → Okp B (n + 1) i
  | n, .line x t, h => okp_line.mpr (okp_line.mp h)
  | 0, .loop r is, h => h.elim
  | n + 1, .loop r is, h => ⟨h.1, h.2.1, fun i hi => okp_up1 (h.2.2 i hi)⟩
theorem room_dn {B d M : Nat} (h : Room2 B M) (hd : d ≤ M) : Room2 B d := ⟨h.1, by
  have a := h.2
  have b : (d + 1) * B ≤ (M + 1) * B := Nat.mul_le_mul_right B (Nat.succ_le_succ hd)
  omega⟩
end Ev

/-! ## Desk: lines of one word -/
namespace Ev
open PySem PySem.Spec PyProof.Rows L2
abbrev sDk (i : Nat) : Stmt := inClass (topS 109) i
/-- wd is a word that nothing stands behind -/
structure Fo0 (K : PySem.W.Frag) (w : World) (dF : Addr) (wd : Str) (t : Addr) : Prop where
  ct : KDct K w dF wd (.ref t)
  one : Txt.split wd " " = [wd]
  sz : wd.length ≤ 1000
  no : ∀ H, SqT K H t []
def spPo0 (K : PySem.W.Frag) (w : World) (dF : Addr) : Sp := fun vs H Q _ => ∃ (wd : Str) (t : Addr), vs = [.str wd] ∧ Fo0 K w dF wd t ∧ ∀ H' a l, Same H H' → H' a = some (.tup [.str wd, .ref l]) → H' l = some (.lst []) → Q (.ref a) H'
theorem scPo : FnScope ["line", "word", "others", "kinds", "ahead", "arguments", "kind", "text", "argument"] ["line"] (defScope (topS 112)) := ⟨rfl, rfl, rfl, by decide +kernel, rfl, by decide +kernel, by decide +kernel⟩
section
variable {P : Program} {w : World} {K : PySem.W.Frag} {mg : Str → Option Value} {base : Heap} {C CD d_FORMS d_ACTIONS : Addr} {esF esA : Array DictEntry} {nF nA : Nat}
theorem ok_po (D : Def K mg "parts_of" (topS 112) ["line"]) (KD_FORMS : KDict K w d_FORMS esF nF) (g_FORMS : mg "FORMS" = some (.ref d_FORMS)) (C_argument_of : CalN CX0 P w K mg base 1 "argument_of" ["kind", "text"] (fun _ _ _ _ => False)) (nb : NB mg) :
    CalN CX0 P w K mg base 2 "parts_of" ["line"] (spPo0 K w d_FORMS) := by
  refine D.okO scPo (fun vs H Q E h => ?_) (fun fa cdv A outer sh H vs Q E hr h => ?_)
  · obtain ⟨wd, t, rfl, _⟩ := h
    rfl
  · obtain ⟨wd, t, rfl, hF, q⟩ := h
    refine ⟨_, (pss_cons (ps_if (pt_not (pt_val (pe_isT (.inr (.inr (.inr rfl))) nb.at (fun _ => pv 0) (fun _ => ty_of rfl nb.at (by decide +kernel)))))
        (pss_one ps_dead)
        pss_nil)
      (pss_cons (ps_asg (pe_splitAny (pv 0) pe_str) (pg_starL rfl (pgs_cons (pg_name (i := 1) scPo.nd rfl (Or.inl rfl)) (pgs_starS (pg_name (i := 2) scPo.nd rfl (Or.inl rfl)) pgs_nil))))
      (pss_cons (ps_if (pt_cmpR (op_notIn_kd KD_FORMS) (pv 1) (pe_glob (v := .ref d_FORMS) rfl g_FORMS rfl) rfl)
        (pss_one ps_dead)
        pss_nil)
      (pss_cons (ps_set (i := 3) scPo.nd rfl (.inl rfl) (pe_ix ix_kdict (pe_glob (v := .ref d_FORMS) rfl g_FORMS rfl) (pv 1) (fun _ _ => rfl)))
      (pss_cons (ps_if (pt_cmpR op_in_seq pe_str (pv 3) rfl)
        (pss_cons (ps_set (i := 4) scPo.nd rfl (.inl rfl) (pe_op op_sub (pe_callB call_len_seq (by rfl) nb.at PySem.boot_len (pa_cons (pv 3) pa_nil)) pe_int))
        (pss_one (ps_set (i := 2) scPo.nd rfl (.inl rfl) (pe_op op_cat (pe_slice sl_list (pv 2) po_none (po_some (pv 4))) (pe_lst (pa_cons (pe_join pe_str (pe_slice sl_list (pv 2) (po_some (pv 4)) po_none)) pa_nil))))))
        pss_nil)
      (pss_cons (ps_if (pt_cmpR op_ne (pe_callB call_len_seq (by rfl) nb.at PySem.boot_len (pa_cons (pv 2) pa_nil)) (pe_callB call_len_seq (by rfl) nb.at PySem.boot_len (pa_cons (pv 3) pa_nil)) (nomark _))
        (pss_one ps_dead)
        pss_nil)
      (pss_cons (ps_setLc (i := 5) (own := [("kind", 6), ("text", 7)]) (g := (gTup K 2 (gCons (gName 6) (gCons (gName 7) gNil)))) (tt := tYes) (te := (tCall (fun _ _ _ _=>False) [] E0 (tCons (tVar 6) (tCons (tVar 7) tNil)))) rfl scPo.nd rfl rfl (sw_true rfl rfl rfl rfl) (pi_zipT rfl nb.at (pa_cons (pv 3) (pa_cons (pv 2) pa_nil))) (blkOk_by (N := ["line", "word", "others", "kinds", "ahead", "arguments", "kind", "text", "argument"]) (sc := defScope (topS 112)) (by decide +kernel)) (fun _ _ _ _ _ => (pg_tup rfl (pgs_cons (pg_name (i := 6) scPo.nd rfl (Or.inl rfl)) (pgs_cons (pg_name (i := 7) scPo.nd rfl (Or.inl rfl)) pgs_nil)))) (fun _ _ _ _ _ => pts_nil) (fun _ _ _ _ _ => (pcallO C_argument_of (hr.mono (by omega)) (by rfl) (pa_cons (pv 6) (pa_cons (pv 7) pa_nil)))))
      (pss_cons (ps_if (pt_val (pe_callB (cr_any rfl) (by rfl) nb.at (by decide +kernel) (pa_cons (pe_lc (own := [("argument", 8)]) (g := (gName 8)) (tt := tYes) (te := _) rfl scPo.nd (pi_list (pv 5)) (blkOk_by (N := ["line", "word", "others", "kinds", "ahead", "arguments", "kind", "text", "argument"]) (sc := defScope (topS 112)) (by decide +kernel)) (fun _ _ _ _ _ => (pg_name (i := 8) scPo.nd rfl (Or.inl rfl))) (fun _ _ _ _ _ => pts_nil) (fun _ _ _ _ _ => (pe_cmp (pc_isN (pv 8)) rfl))) pa_nil)))
        (pss_one ps_dead)
        pss_nil)
      (pss_one (ps_ret (pe_tup (pa_cons (pv 1) (pa_cons (pv 5) pa_nil))))))))))))), ?_⟩
    have sl := sizeLine_eq
    have hi0 : inV (V.str "item") [] = false := rfl
    refine ⟨.str wd, .str wd, rfl, .str wd, true, rfl, iteF ?_⟩
    refine ⟨_, rfl, ⟨wd, rfl⟩, .inl ⟨wd, _, rfl, rfl, by decide +kernel, by have h := hF.sz; omega, fun l nl => ?_⟩⟩
    rw [hF.one]
    have s1 := same_put (o := .lst ([wd].map V.str)) nl
    obtain ⟨es0, n0, u0, hl0, hk0, hn0, ru0⟩ := hF.ct
    refine ⟨l, .str wd, [], rfl, .inl (.inl upd_same), fun o no => ⟨_, _, rfl, _, _, rfl, rfl, ?_⟩⟩
    have s2 := s1.trans (same_put (o := .lst []) no)
    have e2 : upd (upd H l (.lst ([wd].map V.str))) o (.lst []) o = some (.lst []) := upd_same
    generalize upd (upd H l (.lst ([wd].map V.str))) o (.lst []) = H2 at s2 e2 ⊢
    refine ⟨_, rfl, wd, _, rfl, rfl, hn0, _, rfl, iteF ?_⟩
    refine ⟨_, rfl, d_FORMS, wd, .ref t, rfl, rfl, hF.ct, ?_⟩
    refine ⟨_, rfl, t, [], rfl, .inr (hF.no _), rfl, rfl, _, rfl, iteF ?_⟩
    refine ⟨_, rfl, o, [], rfl, .inl (.inl (.inl e2)), _, rfl, t, [], rfl, .inr (hF.no _), rfl, _, rfl, iteF ?_⟩
    dsimp only [tNext, tSeq, tAsg]
    refine lcI_zt (a := t) (b := o) (xs := []) (ws := []) (ys := []) rfl rfl (fun Q hq => ⟨_, rfl, _, rfl, hq⟩) (hF.no _) (.inl (.inl e2)) (by decide) (fun k x w y h => nomatch h) (fun H3 D3 s3 n3 h3 => ?_)
    dsimp only [gName, tNext, tSeq, tIfS, tB, tCB, tCons]
    refine lcI_list (ys := []) rfl (fun Q hq => ⟨_, rfl, hq⟩) (.inl (.inl h3)) (by decide) (fun k x y h => nomatch h) (fun H4 D4 s4 n4 h4 => ?_)
    refine ⟨D4, [], rfl, .inl (.inl h4), _, rfl, iteF ?_⟩
    exact ⟨_, rfl, _, rfl, (by show 2 ≤ sizeLine; decide), fun a na => q _ a D3 ((s2.trans (s3.trans s4)).trans (same_put na)) upd_same (same_put na _ _ (s4 _ _ h3))⟩
end
/-! ### the answers -/
def spTp (K : PySem.W.Frag) (C : Addr) : Sp := fun vs H Q _ => ∃ (b e : Addr) (is : List It) (hs : List (List It)), vs = [.ref b] ∧ BnAt K C H b e is hs ∧ (∀ i ∈ is, Vt 5 i) ∧ ∀ H', Same H H' → Q (.str (mkS (Its.tx is))) H'
def spTl (K : PySem.W.Frag) (C : Addr) : Sp := fun vs H Q _ => ∃ (b e : Addr) (is : List It) (hs : List (List It)), vs = [.ref b] ∧ BnAt K C H b e is hs ∧ ∀ H', Same H H' → Q (.str (Str.ofString (toString (((Its.w is).length : Nat) : Int)))) H'
theorem scTp : FnScope ["bench"] ["bench"] (defScope (topS 95)) := ⟨rfl, rfl, rfl, by decide +kernel, rfl, by decide +kernel, by decide +kernel⟩
theorem scTle : FnScope ["bench"] ["bench"] (defScope (topS 96)) := ⟨rfl, rfl, rfl, by decide +kernel, rfl, by decide +kernel, by decide +kernel⟩
section
variable {P : Program} {w : World} {K : PySem.W.Frag} {mg : Str → Option Value} {base : Heap} {C CD d_FORMS d_ACTIONS : Addr} {esF esA : Array DictEntry} {nF nA k : Nat}
theorem ok_tp (T : BTx K mg C) (D : Def K mg "tell_program" (topS 95) ["bench"]) (M_program : MCal P w K mg base 1 C "program" ["self"] (spBP K C)) (C_show_program : CalN CX0 P w K mg base k "show_program" ["program"] (spShw K 5)) (hk : 1 ≤ k) (nb : NB mg) :
    CalN CX0 P w K mg base (k + 1) "tell_program" ["bench"] (spTp K C) := by
  refine D.okO scTp (fun vs H Q E h => ?_) (fun fa cdv A outer sh H vs Q E hr h => ?_)
  · obtain ⟨b, e, is, hs, rfl, _⟩ := h
    rfl
  · obtain ⟨b, e, is, hs, rfl, hb, hg, q⟩ := h
    refine ⟨_, (pss_one (ps_ret (pcallO C_show_program (hr.mono (by omega)) (by rfl) (pa_cons (pmeth0 M_program T.cl (hr.mono (by omega)) (pv 0)) pa_nil)))), ?_⟩
    obtain ⟨dx, cur, h1, h2⟩ := hb.ob
    have hn := hb.vp.ni
    exact ⟨_, rfl, b, dx, _, rfl, h1, rfl, b, e, is, hs, rfl, hb, fun u hu => ⟨u, is, rfl, hu, hg, by omega, q⟩⟩
theorem ok_tle (T : BTx K mg C) (D : Def K mg "tell_length" (topS 96) ["bench"]) (M_length : MCal P w K mg base 8 C "length" ["self"] (spBL K C)) (nb : NB mg) : CalN CX0 P w K mg base 9 "tell_length" ["bench"] (spTl K C) := by
  refine D.okO scTle (fun vs H Q E h => ?_) (fun fa cdv A outer sh H vs Q E hr h => ?_)
  · obtain ⟨b, e, is, hs, rfl, _⟩ := h
    rfl
  · obtain ⟨b, e, is, hs, rfl, hb, q⟩ := h
    refine ⟨_, (pss_one (ps_ret (pe_callTy call_str_int (by rfl) nb.at (by decide +kernel) (pa_cons (pmeth0 M_length T.cl (hr.mono (by omega)) (pv 0)) pa_nil)))), ?_⟩
    obtain ⟨dx, cur, h1, h2⟩ := hb.ob
    have hw := w_bits (B := 64) (n := 5) (fun i hi => vi_okp 5 i (hb.vp.vi i hi)) (by
      have z1 := Its.nl_ni is
      have z2 := hb.vp.ni
      omega)
    have hlog : ((((Its.w is).length : Nat) : Int)).natAbs.log2 < 1920 := Nat.lt_of_lt_of_le (PySem.Flt.log2_lt_of (k := 17 + (5 + 1) * 64) (by decide) (by rw [Int.natAbs_natCast]; exact hw)) (by decide)
    exact ⟨_, rfl, b, dx, _, rfl, h1, rfl, b, e, is, hs, rfl, hb, fun H' s' => ⟨_, rfl, hlog, q H' s'⟩⟩
end
end Ev

/-! ## Desk: its methods -/
namespace Ev
open PySem PySem.Spec PyProof.Rows L2
def flD (b : Addr) : List (Str × V) := [("bench", .ref b)]
/-- a desk at d with the bench at b -/
def DkAt (CD : Addr) (H : Hp) (d b : Addr) : Prop := ∃ dx, H d = some (.ins CD dx (flD b))
structure DTx (K : PySem.W.Frag) (CD : Addr) : Prop where
  cl : Cls K CD
  nB : NoAttr K CD "bench"
def spDI (K : PySem.W.Frag) (C CD : Addr) : Sp := fun vs H Q _ => ∃ (d dx : Addr) (is : List It), vs = [.ref d, .str (mkS (Its.tx is))] ∧ H d = some (.ins CD dx []) ∧ 1 ≤ is.length ∧ is.length ≤ 20 ∧ Its.ni is ≤ 60 ∧ (∀ i ∈ is, Vt 5 i) ∧ Vp is ∧
  ∀ b e H', H b = none → H e = none → b ≠ d → BnAt K C H' b e is [] → DkAt CD H' d b → Bu d H H' → Q .non H'
def spDR (P : Program) (K : PySem.W.Frag) (w : World) (mg : Str → Option Value) (base : Heap) (k : Nat) (CD dF dA : Addr) : Sp := fun vs H Q _ => ∃ (d b : Addr) (wd : Str) (t f : Addr) (sp : Sp), vs = [.ref d, .str wd] ∧ DkAt CD H d b ∧ Fo0 K w dF wd t ∧ KDct K w dA wd (.ref f) ∧ StarF P w K mg base k f sp ∧ ∀ H', Same H H' → sp [.ref b] H' Q E0
theorem scDI : FnScope ["self", "text"] ["self", "text"] (defScope (sDk 0)) := ⟨rfl, rfl, rfl, by decide +kernel, rfl, by decide +kernel, by decide +kernel⟩
theorem scDR : FnScope ["self", "line", "word", "arguments", "action"] ["self", "line"] (defScope (sDk 1)) := ⟨rfl, rfl, rfl, by decide +kernel, rfl, by decide +kernel, by decide +kernel⟩
section
variable {P : Program} {w : World} {K : PySem.W.Frag} {mg : Str → Option Value} {base : Heap} {C CD d_FORMS d_ACTIONS : Addr} {esF esA : Array DictEntry} {nF nA k : Nat}
theorem ok_dr (T : DTx K CD) (D : MDef K CD "run" "Desk.run" (sDk 1) ["self", "line"]) (KD_ACTIONS : KDict K w d_ACTIONS esA nA) (g_ACTIONS : mg "ACTIONS" = some (.ref d_ACTIONS)) (C_parts_of : CalN CX0 P w K mg base 2 "parts_of" ["line"] (spPo0 K w d_FORMS)) (nb : NB mg) (hk : 2 ≤ k) :
    MCalB P w K mg base (k + 1) CD "run" "Desk.run" (sDk 1) ["line"] (spDR P K w mg base k CD d_FORMS d_ACTIONS) := by
  refine D.okMB scDR (fun vs H Q E h => ?_) (fun f cdv A outer s H vs Q E hr h => ?_)
  · obtain ⟨d, b, wd, t, f, sp, rfl, _⟩ := h
    rfl
  · obtain ⟨d, b, wd, t, f, sp, rfl, hd, hF, hA, hS, q⟩ := h
    refine ⟨_, pss_cons (ps_asg (pcallO C_parts_of (hr.mono hk) (by rfl) (pa_cons (pv 1) pa_nil)) (pg_tup rfl (pgs_cons (pg_name (i := 2) scDR.nd rfl (.inl rfl)) (pgs_cons (pg_name (i := 3) scDR.nd rfl (.inl rfl)) pgs_nil))))
      (pss_cons (ps_set (i := 4) scDR.nd rfl (.inl rfl) (pe_ix ix_kdict (pe_glob (v := .ref d_ACTIONS) rfl g_ACTIONS rfl) (pv 2) (fun _ _ => rfl)))
      (pss_one (ps_ret (pe_callStar (i := 4) (S := fun f sp => StarF P w K mg base k f sp) (fun f sp h => h) hr rfl (.inl rfl) (pa_cons (pe_fld (pv 0) rfl) (StX.pa_star (pv 3) pa_nil)))))), ?_⟩
    obtain ⟨dx, ed⟩ := hd
    exact ⟨_, rfl, wd, t, rfl, hF, fun H1 a l s1 h1 h2 => ⟨a, _, rfl, .inl (.inl h1), rfl, _, _, rfl, _, _, rfl, rfl, _, rfl, d_ACTIONS, wd, .ref f, rfl, rfl, hA, f, sp, rfl, hS, _, rfl, d, CD, dx, _, _, rfl, s1 _ _ ed, T.cl, T.nB, rfl, _, rfl, l, [], rfl, .inr (.inl (.inl h2)), q H1 s1⟩⟩
theorem ok_di (T : DTx K CD) (D : MDef K CD "__init__" "Desk.__init__" (sDk 0) ["self", "text"]) : True := trivial
end
end Ev

/-! ## Bench: the scopes of what edits -/
namespace Ev
open PySem PySem.Spec PyProof.Rows L2
theorem scBIn : FnScope ["self", "index", "item"] ["self", "index", "item"] (defScope (sB 5)) := ⟨rfl, rfl, rfl, by decide +kernel, rfl, by decide +kernel, by decide +kernel⟩
theorem scBRe : FnScope ["self", "index", "item"] ["self", "index", "item"] (defScope (sB 6)) := ⟨rfl, rfl, rfl, by decide +kernel, rfl, by decide +kernel, by decide +kernel⟩
theorem scBD : FnScope ["self", "index", "item"] ["self", "index"] (defScope (sB 7)) := ⟨rfl, rfl, rfl, by decide +kernel, rfl, by decide +kernel, by decide +kernel⟩
theorem scBU : FnScope ["self", "first", "stop", "item", "program"] ["self", "first", "stop", "item"] (defScope (sB 14)) := ⟨rfl, rfl, rfl, by decide +kernel, rfl, by decide +kernel, by decide +kernel⟩
theorem scCi : FnScope ["value", "least", "most"] ["value", "least", "most"] (defScope (topS 69)) := ⟨rfl, rfl, rfl, by decide +kernel, rfl, by decide +kernel, by decide +kernel⟩
end Ev

/-! ## Bench: change, put -/
namespace Ev
open PySem PySem.Spec PyProof.Rows L2
section
variable {P : Program} {w : World} {K : PySem.W.Frag} {mg : Str → Option Value} {base : Heap} {C : Addr}
theorem ok_bC (T : BTx K mg C) (D : MDef K C "change" "Bench.change" (sB 15) ["self", "program"]) : MCal P w K mg base 1 C "change" ["self", "program"] (spBC K C) := by
  refine D.ok scBC (fun vs H Q E h => ?_) (fun f cdv A outer s H vs Q E hr h => ?_)
  · obtain ⟨p, e, is, js, hs, x, rfl, _⟩ := h
    rfl
  · obtain ⟨p, e, is, js, hs, x, rfl, hb, hl9, hd, hv, q⟩ := h
    obtain ⟨dx, cur, h1, h2⟩ := hb.ob
    obtain ⟨us, h3, h4⟩ := hb.er
    have y := sizeLine_eq
    have hl := daAll_len h4
    rw [List.length_map] at hl
    have npe := hb.ne
    refine ⟨_, pss_cons (ps_expr (pe_bm PySem.F.plainAttrs_list PySem.F.slot_list_append PySem.F.type_list_append mt_append (pe_fld (pv 0) rfl) (pa_cons (pe_fld (pv 0) rfl) pa_nil))) (pss_one (ps_fld (pv 0) (pv 1) rfl)), ?_⟩
    refine ⟨_, rfl, p, C, dx, _, _, rfl, h1, T.cl, T.nE, flB_ear _ _, .inl ⟨rfl, _, .inl (.inl h3)⟩, _, rfl, p, C, dx, _, _, rfl, h1, T.cl, T.nC, flB_cur _ _, e, us, cur, rfl, rfl, h3, by omega, ?_⟩
    have hp1 : upd H e (.lst (us ++ [cur])) p = some (.ins C dx (flB cur e)) := by
      rw [upd_ne npe]
      exact h1
    refine ⟨_, rfl, _, rfl, p, C, dx, _, rfl, hp1, T.cl, T.nC, (by show 2 < 1000; decide), ?_⟩
    rw [flB_put]
    have k1 : Kj H (upd H e (.lst (us ++ [cur]))) := Kj.putL h3
    have k2 : Kj H (upd (upd H e (.lst (us ++ [cur]))) p (.ins C dx (flB x e))) := k1.trans (Kj.putI hp1)
    refine q _ (Bu2.put2.trans Bu2.put1) ⟨⟨dx, x, upd_same, hd.kj k2 (prog_tup _)⟩, ⟨us ++ [cur], by rw [upd_ne npe.symm, upd_same], ?_⟩, hv⟩
    rw [List.map_append]
    exact da_app (h4.kj k2 (hist_tup _)) (.cons (h2.kj k2 (prog_tup _)) .nil)
theorem put_d (is : List It) (a b : Nat) (it : It) : (is.map It.d).take a ++ [It.d it] ++ (is.map It.d).drop b = (putI is a b it).map It.d := by
  unfold putI
  rw [List.map_append, List.map_append, List.map_take, List.map_drop]
  rfl
theorem ok_bU {fP : Addr} {fdP : FuncData} (T : BTx K mg C) (MC : MCal P w K mg base 1 C "change" ["self", "program"] (spBC K C)) (GP : FnOk P w K mg base CX0 15 fP fdP ["value"] (spProg K)) (bP : Binds K fdP ["value"] []) (mP : mg "is_program" = some (.ref fP)) (vP : PySem.W.keepIn K (.ref fP) = true)
    (D : MDef K C "put" "Bench.put" (sB 14) ["self", "first", "stop", "item"]) : MCal P w K mg base 16 C "put" ["self", "first", "stop", "item"] (spBU K C) := by
  refine D.ok scBU (fun vs H Q E h => ?_) (fun f cdv A outer s H vs Q E hr h => ?_)
  · obtain ⟨p, e, is, hs, a, b, x, it, rfl, _⟩ := h
    rfl
  · obtain ⟨p, e, is, hs, a, b, x, it, rfl, hb, hl9, hd, hv, q⟩ := h
    obtain ⟨dx, cur, h1, h2⟩ := hb.ob
    have y := sizeLine_eq
    have hle := hb.vp.le
    refine ⟨_, pss_cons (ps_set (i := 4) scBU.nd rfl (.inl rfl) (pe_op op_catA (pe_op op_catA (pe_slice sl_tupA (pe_fld (pv 0) rfl) po_none (po_some (pv 1))) (pe_tup (pa_cons (pv 3) pa_nil))) (pe_slice sl_tupA (pe_fld (pv 0) rfl) (po_some (pv 2)) po_none)))
      (pss_cons (ps_if (pt_not (pt_val (pe_call GP hr (by rfl) mP vP bP .nil pass0 (pa_cons (pv 4) pa_nil)))) pss_dead pss_nil)
      (pss_one (ps_expr (pmeth MC T.cl (hr.mono (by omega)) (pv 0) (pa_cons (pv 4) pa_nil))))), ?_⟩
    refine ⟨_, rfl, p, C, dx, _, _, rfl, h1, T.cl, T.nC, flB_cur _ _, _, rfl, _, rfl, sl_val (lo := none) (hi := some (a : Nat)) h2 fun H1 u1 s1 hu1 => ⟨_, rfl, (by show 1 ≤ sizeLine; decide), fun t nt => ?_⟩⟩
    rw [cut_to] at hu1
    have st := same_put (o := .tup [x]) nt
    refine cat_val (es := [It.d it]) (hu1.mono st) (.tup (xs := [x]) (.inl (.inl upd_same)) (.cons (hd.mono (s1.trans st)) .nil)) (by rw [List.length_take, List.length_map]; show _ + 1 ≤ _; omega) fun H2 u2 s2 hu2 => ?_
    have s12 := (s1.trans st).trans s2
    refine ⟨_, rfl, p, C, dx, _, _, rfl, s12 _ _ h1, T.cl, T.nC, flB_cur _ _, _, rfl, _, rfl, ?_⟩
    dsimp only [tNoPart]
    refine sl_val (lo := some (b : Nat)) (hi := none) (h2.mono s12) fun H3 u3 s3 hu3 => ?_
    rw [cut_from] at hu3
    refine cat_val (hu2.mono s3) hu3 (by rw [List.length_append, List.length_take, List.length_drop, List.length_map]; show _ + 1 + _ ≤ _; omega) fun H4 u4 s4 hu4 => ?_
    rw [put_d] at hu4
    have s14 := (s12.trans s3).trans s4
    refine ⟨_, rfl, u4, _, rfl, hu4, hv.okS, fun H5 s5 => ⟨_, rfl, ?_⟩⟩
    rw [hv.isP]
    refine iteF ?_
    have s15 := s14.trans s5
    refine ⟨_, rfl, p, dx, _, rfl, s15 _ _ h1, rfl, _, rfl, p, e, is, putI is a b it, hs, u4, rfl, hb.same s15, hl9, hu4.mono s5, hv, fun H6 bu6 hb6 => q H6 ((Bu2.of s15).trans bu6) hb6⟩
end
end Ev

/-! ## A program without one of its items -/
namespace Ev
open PySem PySem.Spec PyProof.Rows L2
theorem erase_eq {α : Type} (l : List α) (a : Nat) : l.take a ++ l.drop (a + 1) = l.eraseIdx a := (List.eraseIdx_eq_take_drop_succ l a).symm
theorem map_er {is : List It} {a : Nat} : (is.map It.d).eraseIdx a = (is.eraseIdx a).map It.d := by
  rw [← erase_eq, ← erase_eq, List.map_append, List.map_take, List.map_drop]
theorem Vp.erase {is : List It} {a : Nat} (h : Vp is) (h2 : 2 ≤ is.length) (ha : a < is.length) : Vp (is.eraseIdx a) where
  ne := by
    rw [List.length_eraseIdx_of_lt ha]
    omega
  le := by
    have := h.le
    rw [List.length_eraseIdx_of_lt ha]
    omega
  vi := fun i hi => h.vi i (List.mem_of_mem_eraseIdx hi)
  ni := by
    have e : is = is.take a ++ is.drop a := (List.take_append_drop a is).symm
    have z := congrArg Its.ni e
    rw [List.drop_eq_getElem_cons ha, ni_app, Its.ni] at z
    rw [← erase_eq, ni_app]
    have := h.ni
    omega
end Ev

/-! ## Bench: insert, replace, delete, as long as all goes well -/
namespace Ev
open PySem PySem.Spec PyProof.Rows L2
section
variable {P : Program} {w : World} {K : PySem.W.Frag} {mg : Str → Option Value} {base : Heap} {C : Addr}
theorem ok_ci {f fN : Addr} {fd fdN : FuncData} (F : Fun K "check_index" "check_index" (topS 69) f fd) (GN : FnOk P w K mg base CX0 2 fN fdN ["value", "least", "most"] (spIn K)) (bN : Binds K fdN ["value", "least", "most"] []) (mN : mg "is_integer_within" = some (.ref fN)) (vN : PySem.W.keepIn K (.ref fN) = true) :
    FnOk P w K mg base CX0 3 f fd ["value", "least", "most"] (spCi K) := by
  refine F.ok scCi (fun vs H Q E h => ?_) (fun cdv A outer s H vs Q E hr h => ?_)
  · obtain ⟨i, lo, hi, rfl, _⟩ := h
    rfl
  · obtain ⟨i, lo, hi, rfl, h1, h2, q⟩ := h
    refine ⟨_, pss_one (ps_if (pt_not (pt_val (pe_call GN hr (by rfl) mN vN bN .nil pass0 (pa_cons (pv 0) (pa_cons (pv 1) (pa_cons (pv 2) pa_nil)))))) pss_dead pss_nil), ?_⟩
    refine ⟨_, rfl, _, rfl, _, rfl, .int i, .int i, lo, hi, rfl, .int i, fun H' s' => ⟨_, rfl, ?_⟩⟩
    have e : intD lo hi (.int i) = true := by
      show (decide (lo ≤ i) && decide (i ≤ hi)) = true
      rw [decide_eq_true h1, decide_eq_true h2]
      rfl
    rw [e]
    exact iteF (q H' s')
theorem ok_bIn {fC : Addr} {fdC : FuncData} (T : BTx K mg C) (nb : NB mg) (MU : MCal P w K mg base 16 C "put" ["self", "first", "stop", "item"] (spBU K C)) (GC : FnOk P w K mg base CX0 3 fC fdC ["value", "least", "most"] (spCi K)) (bC : Binds K fdC ["value", "least", "most"] []) (mC : mg "check_index" = some (.ref fC)) (vC : PySem.W.keepIn K (.ref fC) = true)
    (D : MDef K C "insert" "Bench.insert" (sB 5) ["self", "index", "item"]) : MCal P w K mg base 17 C "insert" ["self", "index", "item"] (spBIn K C) := by
  refine D.ok scBIn (fun vs H Q E h => ?_) (fun f cdv A outer s H vs Q E hr h => ?_)
  · obtain ⟨p, e, is, hs, a, x, it, rfl, _⟩ := h
    rfl
  · obtain ⟨p, e, is, hs, a, x, it, rfl, hb, hl9, hal, hd, hv, q⟩ := h
    obtain ⟨dx, cur, h1, h2⟩ := hb.ob
    obtain ⟨c, xs, rfl, hc, hx⟩ := da_prog h2
    have hxl := daAll_len hx
    rw [List.length_map] at hxl
    refine ⟨_, pss_cons (ps_expr (pe_call GC (hr.mono (by omega)) (by rfl) mC vC bC .nil pass0 (pa_cons (pv 1) (pa_cons pe_int (pa_cons (pe_callB call_len_seq (by rfl) nb.at PySem.boot_len (pa_cons (pe_fld (pv 0) rfl) pa_nil)) pa_nil)))))
      (pss_one (ps_expr (pmeth MU T.cl hr (pv 0) (pa_cons (pv 1) (pa_cons (pv 1) (pa_cons (pv 2) pa_nil)))))), ?_⟩
    refine ⟨_, rfl, _, rfl, p, C, dx, _, _, rfl, h1, T.cl, T.nC, flB_cur _ _, c, xs, rfl, .inr hc, (a : Nat), 0, _, rfl, by omega, by omega, fun H1 s1 => ?_⟩
    exact ⟨_, rfl, p, dx, _, rfl, s1 _ _ h1, rfl, _, rfl, _, rfl, _, rfl, p, e, is, hs, a, a, x, it, rfl, hb.same s1, hl9, hd.mono s1, hv, fun H2 bu2 hb2 => q H2 ((Bu2.of s1).trans bu2) hb2⟩
theorem ok_bRe {fC : Addr} {fdC : FuncData} (T : BTx K mg C) (nb : NB mg) (MU : MCal P w K mg base 16 C "put" ["self", "first", "stop", "item"] (spBU K C)) (GC : FnOk P w K mg base CX0 3 fC fdC ["value", "least", "most"] (spCi K)) (bC : Binds K fdC ["value", "least", "most"] []) (mC : mg "check_index" = some (.ref fC)) (vC : PySem.W.keepIn K (.ref fC) = true)
    (D : MDef K C "replace" "Bench.replace" (sB 6) ["self", "index", "item"]) : MCal P w K mg base 17 C "replace" ["self", "index", "item"] (spBRe K C) := by
  refine D.ok scBRe (fun vs H Q E h => ?_) (fun f cdv A outer s H vs Q E hr h => ?_)
  · obtain ⟨p, e, is, hs, a, x, it, rfl, _⟩ := h
    rfl
  · obtain ⟨p, e, is, hs, a, x, it, rfl, hb, hl9, hal, hd, hv, q⟩ := h
    obtain ⟨dx, cur, h1, h2⟩ := hb.ob
    obtain ⟨c, xs, rfl, hc, hx⟩ := da_prog h2
    have hxl := daAll_len hx
    rw [List.length_map] at hxl
    refine ⟨_, pss_cons (ps_expr (pe_call GC (hr.mono (by omega)) (by rfl) mC vC bC .nil pass0 (pa_cons (pv 1) (pa_cons pe_int (pa_cons (pe_op op_sub (pe_callB call_len_seq (by rfl) nb.at PySem.boot_len (pa_cons (pe_fld (pv 0) rfl) pa_nil)) pe_int) pa_nil)))))
      (pss_one (ps_expr (pmeth MU T.cl hr (pv 0) (pa_cons (pv 1) (pa_cons (pe_op op_add (pv 1) pe_int) (pa_cons (pv 2) pa_nil)))))), ?_⟩
    refine ⟨_, rfl, _, rfl, p, C, dx, _, _, rfl, h1, T.cl, T.nC, flB_cur _ _, c, xs, rfl, .inr hc, _, _, rfl, rfl, (a : Nat), 0, _, rfl, by omega, by omega, fun H1 s1 => ?_⟩
    exact ⟨_, rfl, p, dx, _, rfl, s1 _ _ h1, rfl, _, rfl, _, rfl, _, _, rfl, rfl, _, rfl, p, e, is, hs, a, a + 1, x, it, rfl, hb.same s1, hl9, hd.mono s1, hv, fun H2 bu2 hb2 => q H2 ((Bu2.of s1).trans bu2) hb2⟩
theorem ok_bD {fC : Addr} {fdC : FuncData} (T : BTx K mg C) (nb : NB mg) (MC : MCal P w K mg base 1 C "change" ["self", "program"] (spBC K C)) (GC : FnOk P w K mg base CX0 3 fC fdC ["value", "least", "most"] (spCi K)) (bC : Binds K fdC ["value", "least", "most"] []) (mC : mg "check_index" = some (.ref fC)) (vC : PySem.W.keepIn K (.ref fC) = true)
    (D : MDef K C "delete" "Bench.delete" (sB 7) ["self", "index"]) : MCalB P w K mg base 4 C "delete" "Bench.delete" (sB 7) ["index"] (spBD K C) := by
  refine D.okMB scBD (fun vs H Q E h => ?_) (fun f cdv A outer s H vs Q E hr h => ?_)
  · obtain ⟨p, e, is, hs, a, it, rfl, _⟩ := h
    rfl
  · obtain ⟨p, e, is, hs, a, it, rfl, hb, hl9, hit, hl2, q⟩ := h
    obtain ⟨dx, cur, h1, h2⟩ := hb.ob
    obtain ⟨c, xs, rfl, hc, hx⟩ := da_prog h2
    have hxl := daAll_len hx
    rw [List.length_map] at hxl
    have y := sizeLine_eq
    have hle := hb.vp.le
    have hal := (List.getElem?_eq_some_iff.mp hit).1
    have hax : a < xs.length := by omega
    have hxa := List.getElem?_eq_getElem hax
    obtain ⟨d, hd1, hd2⟩ := daAll_at hx hxa
    rw [List.getElem?_map, hit] at hd1
    cases hd1
    refine ⟨_, pss_cons (ps_expr (pe_call GC hr (by rfl) mC vC bC .nil pass0 (pa_cons (pv 1) (pa_cons pe_int (pa_cons (pe_op op_sub (pe_callB call_len_seq (by rfl) nb.at PySem.boot_len (pa_cons (pe_fld (pv 0) rfl) pa_nil)) pe_int) pa_nil)))))
      (pss_cons (ps_if (pt_cmpR op_eq (pe_callB call_len_seq (by rfl) nb.at PySem.boot_len (pa_cons (pe_fld (pv 0) rfl) pa_nil)) pe_int (nomark _)) pss_dead pss_nil)
      (pss_cons (ps_set (i := 2) scBD.nd rfl (.inl rfl) (pe_ix ix_tup (pe_fld (pv 0) rfl) (pv 1) (fun _ _ => rfl)))
      (pss_cons (ps_expr (pmeth MC T.cl (hr.mono (by omega)) (pv 0) (pa_cons (pe_op op_catA (pe_slice sl_tupA (pe_fld (pv 0) rfl) po_none (po_some (pv 1))) (pe_slice sl_tupA (pe_fld (pv 0) rfl) (po_some (pe_op op_add (pv 1) pe_int)) po_none)) pa_nil)))
      (pss_one (ps_ret (pv 2)))))), ?_⟩
    refine ⟨_, rfl, _, rfl, p, C, dx, _, _, rfl, h1, T.cl, T.nC, flB_cur _ _, c, xs, rfl, .inr hc, _, _, rfl, rfl, (a : Nat), 0, _, rfl, by omega, by omega, fun H1 s1 => ?_⟩
    refine ⟨_, rfl, p, C, dx, _, _, rfl, s1 _ _ h1, T.cl, T.nC, flB_cur _ _, c, xs, rfl, .inr (seqT_mono s1 hc), rfl, _, rfl, ?_⟩
    rw [show decide (V.int ((xs.length : Nat) : Int) = V.int 1) = false from decide_eq_false fun z => by have := V.int.inj z; omega]
    refine iteF ?_
    refine ⟨_, rfl, p, C, dx, _, _, rfl, s1 _ _ h1, T.cl, T.nC, flB_cur _ _, _, rfl, c, xs, _, _, rfl, rfl, seqT_mono s1 hc, atI_of hxa, ?_⟩
    refine ⟨_, rfl, p, dx, _, rfl, s1 _ _ h1, rfl, _, rfl, p, C, dx, _, _, rfl, s1 _ _ h1, T.cl, T.nC, flB_cur _ _, _, rfl, _, rfl, sl_val (lo := none) (hi := some (a : Nat)) (h2.mono s1) fun H2 u2 s2 hu2 => ?_⟩
    rw [cut_to] at hu2
    have s12 := s1.trans s2
    refine ⟨_, rfl, p, C, dx, _, _, rfl, s12 _ _ h1, T.cl, T.nC, flB_cur _ _, _, rfl, _, _, rfl, rfl, _, rfl, ?_⟩
    dsimp only [tNoPart]
    refine sl_val (lo := some ((a + 1 : Nat) : Int)) (hi := none) (h2.mono s12) fun H3 u3 s3 hu3 => ?_
    rw [cut_from] at hu3
    refine cat_val (hu2.mono s3) hu3 (by rw [List.length_take, List.length_drop, List.length_map]; omega) fun H4 u4 s4 hu4 => ?_
    rw [erase_eq, map_er] at hu4
    have s14 := (s12.trans s3).trans s4
    refine ⟨p, e, is, is.eraseIdx a, hs, u4, rfl, hb.same s14, hl9, hu4, hb.vp.erase hl2 hal, fun H5 bu5 hb5 => ⟨_, rfl, q H5 _ ((Bu2.of s14).trans bu5) hb5 ?_⟩⟩
    obtain ⟨dx4, cur4, e1, _⟩ := (hb.same s14).ob
    obtain ⟨us4, e2, _⟩ := (hb.same s14).er
    refine Da.kj (fun b o h n m => ?_) (It.tupd it) (hd2.mono s14)
    refine bu5 b o (fun z => ?_) (fun z => ?_) h
    · rw [z, e1] at h
      cases h
      exact m _ _ _ rfl
    · rw [z, e2] at h
      cases h
      exact n _ rfl
end
end Ev

/-! ## common_divisor, window_sums, repeated -/
namespace Ev
open PySem PySem.Spec PyProof.Rows L2
theorem scCd : FnScope ["one", "other"] ["one", "other"] (defScope (topS 17)) := ⟨rfl, rfl, rfl, by decide +kernel, rfl, by decide +kernel, by decide +kernel⟩
def spGcd : Sp := fun vs H Q _ => ∃ a b : Nat, vs = [.int (a : Nat), .int (b : Nat)] ∧ Q (.int (Nat.gcd a b : Nat)) H
section
variable {P : Program} {w : World} {K : PySem.W.Frag} {mg : Str → Option Value} {base : Heap}
theorem ok_gcd (D : Def K mg "common_divisor" (topS 17) ["one", "other"]) (nb : NB mg) : CalN CX0 P w K mg base 1 "common_divisor" ["one", "other"] spGcd := by
  refine D.okO scCd (fun vs H Q E h => ?_) (fun f cdv A outer s H vs Q E hr h => ?_)
  · obtain ⟨a, b, rfl, _⟩ := h
    rfl
  · obtain ⟨a, b, rfl, q⟩ := h
    refine ⟨_, (pss_cons (ps_while PassesOwn.never (pt_cmpR op_ne (pv 1) pe_int (nomark _))
        (pss_one (ps_par (i := 0) (j := 1) rfl scCd.nd rfl rfl (by decide) rfl rfl (pa_cons (pv 1) (pa_cons (pe_op op_mod (pv 0) (pv 1)) pa_nil)) (by rfl))))
      (pss_one (ps_ret (pv 0)))), ?_⟩
    refine while_w (fun m σ' H' => ∃ x : Nat, σ' = [some (.int (x : Nat)), some (.int (m : Nat))] ∧ H' = H ∧ Nat.gcd x m = Nat.gcd a b) ⟨b, a, rfl, rfl, rfl⟩ ?_ ?_
    · rintro m σ' H' ⟨x, rfl, rfl, e⟩
      refine ⟨_, rfl, rfl, _, rfl, ?_⟩
      by_cases hm : m = 0
      · subst hm
        rw [show (!decide (V.int ((0 : Nat) : Int) = V.int 0)) = false by rw [show decide (V.int ((0 : Nat) : Int) = V.int 0) = true from decide_eq_true rfl]; rfl]
        refine iteF ⟨_, rfl, ?_⟩
        rw [Nat.gcd_zero_right] at e
        rw [e]
        exact q
      · rw [show (!decide (V.int (m : Int) = V.int 0)) = true by
          rw [decide_eq_false fun z => hm (by have := V.int.inj z; omega)]
          rfl]
        refine iteT ⟨_, rfl, _, rfl, _, rfl, _, _, rfl, rfl, (show (0 : Int) < m by omega), _, _, rfl, x % m, Nat.mod_lt _ (by omega), m, by
          show [some (V.int (m : Nat)), some (V.int ((x : Int) % (m : Int)))] = _
          rw [← Int.natCast_emod], rfl, ?_⟩
        rw [← e, Nat.gcd_comm x m, Nat.gcd_rec m x, Nat.gcd_comm]
    · rintro σ' H' Q1 Q2 hQ ⟨v, hv, e1, k, ek, h⟩
      exact ⟨v, hv, e1, k, ek, hQ _ _ h⟩
end
end Ev

/-! ## common_divisor, moved, window_sums, repeated -/
namespace Ev
open PySem PySem.Spec PyProof.Rows L2
theorem scMv : FnScope ["starts", "ticks", "cut"] ["starts", "ticks"] (defScope (topS 47)) := ⟨rfl, rfl, rfl, by decide +kernel, rfl, by decide +kernel, by decide +kernel⟩
theorem scWi : FnScope ["ring", "times", "laps", "rest", "whole", "part", "sums", "at"] ["ring", "times"] (defScope (topS 49)) := ⟨rfl, rfl, rfl, by decide +kernel, rfl, by decide +kernel, by decide +kernel⟩
theorem scRp : FnScope ["starts", "step", "times", "modulus", "apart", "out", "first", "cycle", "at", "sums", "place", "total"] ["starts", "step", "times"] (defScope (topS 48)) := ⟨rfl, rfl, rfl, by decide +kernel, rfl, by decide +kernel, by decide +kernel⟩
def spMov (K : PySem.W.Frag) : Sp := fun vs H Q _ => ∃ (a : Addr) (s m : Nat) (f : Nat → Int), vs = [.ref a, .int (s : Nat)] ∧ SqL K H a (LI m f) ∧ 0 < m ∧ m ≤ 100000 ∧ ∀ H' q, Same H H' → H q = none → H' q = some (.lst (LI m (mvF m s f))) → Q (.ref q) H'
def spWin (K : PySem.W.Frag) : Sp := fun vs H Q _ => ∃ (a : Addr) (t m R B : Nat) (f : Nat → Int), vs = [.ref a, .int (t : Nat)] ∧ SqL K H a (LI m f) ∧ 0 < m ∧ m ≤ 100000 ∧ Bd R m f ∧ t < 2 ^ B ∧ B ≤ 3900 ∧ 0 < B ∧ R ≤ 900000 ∧
  ∀ H' q, Same H H' → H q = none → H' q = some (.lst (LI m (repF m 1 t f))) → Q (.ref q) H'
def spRep (K : PySem.W.Frag) : Sp := fun vs H Q _ => ∃ (a : Addr) (s t m R B S : Nat) (f : Nat → Int), vs = [.ref a, .int (s : Nat), .int (t : Nat)] ∧ SqL K H a (LI m f) ∧ 0 < m ∧ m ≤ 100000 ∧ Bd R m f ∧ t < 2 ^ B ∧ B ≤ 3900 ∧ 0 < B ∧ R ≤ 900000 ∧ s < 2 ^ S ∧ 0 < S ∧ S ≤ 900000 ∧
  ∀ H' q, Same H H' → H q = none → H' q = some (.lst (LI m (repF m s t f))) → Q (.ref q) H'
section
variable {P : Program} {w : World} {K : PySem.W.Frag} {mg : Str → Option Value} {base : Heap}
theorem ok_mov (D : Def K mg "moved" (topS 47) ["starts", "ticks"]) (nb : NB mg) : CalN CX0 P w K mg base 1 "moved" ["starts", "ticks"] (spMov K) := by
  refine D.okO scMv (fun vs H Q E h => ?_) (fun f cdv A outer s H vs Q E hr h => ?_)
  · obtain ⟨a, t, m, g, rfl, _⟩ := h
    rfl
  · obtain ⟨a, t, m, g, rfl, hS, m0, m1, q⟩ := h
    refine ⟨_, (pss_cons (ps_set (i := 2) scMv.nd rfl (.inl rfl) (pe_op op_mod (pe_un un_neg (pv 1)) (pe_callB call_len_seq (by rfl) nb.at PySem.boot_len (pa_cons (pv 0) pa_nil))))
      (pss_one (ps_ret (pe_op op_cat (pe_slice sl_list (pv 0) (po_some (pv 2)) po_none) (pe_slice sl_list (pv 0) po_none (po_some (pv 2))))))), ?_⟩
    have y := sizeLine_eq
    have cn := Int.emod_nonneg (-(t : Int)) (show (m : Int) ≠ 0 by omega)
    obtain ⟨cut, hc⟩ : ∃ cut : Nat, (cut : Int) = (-(t : Int)) % m := ⟨_, Int.toNat_of_nonneg cn⟩
    refine ⟨_, rfl, _, rfl, _, rfl, a, _, rfl, .inl hS, _, _, rfl, rfl, (by show (0 : Int) < ((LI m g).length : Nat); rw [LI_len]; omega), ?_⟩
    rw [LI_len]
    dsimp only
    rw [← hc]
    refine ⟨_, rfl, _, rfl, _, rfl, a, _, rfl, hS, fun p1 n1 => ⟨_, rfl, _, rfl, _, rfl, a, _, rfl, (same_put n1).seq hS, fun p2 n2 => ?_⟩⟩
    rw [cutV_from, cutV_to] at *
    have s1 := same_put (o := .lst ((LI m g).drop cut)) n1
    have s2 := same_put (o := .lst ((LI m g).take cut)) n2
    refine ⟨p1, p2, _, _, rfl, rfl, s2 _ _ upd_same, upd_same, by rw [List.length_drop, List.length_take, LI_len]; omega, fun p3 n3 => ?_⟩
    rw [LI_moved m0 t hc]
    have s3 := same_put (o := .lst (LI m (mvF m t g))) n3
    exact q _ p3 ((s1.trans s2).trans s3) (none_of (s1.trans s2) n3) upd_same
theorem ok_win (D : Def K mg "window_sums" (topS 49) ["ring", "times"]) (nb : NB mg) : CalN CX0 P w K mg base 1 "window_sums" ["ring", "times"] (spWin K) := by
  refine D.okO scWi (fun vs H Q E h => ?_) (fun fa cdv A outer s H vs Q E hr h => ?_)
  · obtain ⟨a, t, m, R, B, f, rfl, _⟩ := h
    rfl
  · obtain ⟨a, t, m, R, B, f, rfl, hS, m0, m1, hf, ht, hB, B0, hR, q⟩ := h
    refine ⟨_, (pss_cons (ps_asg (pe_callB call_divmodW (by rfl) nb.at (by decide +kernel) (pa_cons (pv 1) (pa_cons (pe_callB call_len_seq (by rfl) nb.at PySem.boot_len (pa_cons (pv 0) pa_nil)) pa_nil))) (pg_tup rfl (pgs_cons (pg_name (i := 2) scWi.nd rfl (Or.inl rfl)) (pgs_cons (pg_name (i := 3) scWi.nd rfl (Or.inl rfl)) pgs_nil))))
      (pss_cons (ps_set (i := 4) scWi.nd rfl (.inl rfl) (pe_op op_mulW (pv 2) (pe_callB (cr_sum rfl) (by rfl) nb.at (by decide +kernel) (pa_cons (pv 0) pa_nil))))
      (pss_cons (ps_set (i := 5) scWi.nd rfl (.inl rfl) (pe_callB (cr_sum rfl) (by rfl) nb.at (by decide +kernel) (pa_cons (pe_slice sl_list (pv 0) (po_some (pe_op op_sub (pe_callB call_len_seq (by rfl) nb.at PySem.boot_len (pa_cons (pv 0) pa_nil)) (pv 3))) po_none) pa_nil)))
      (pss_cons (ps_set (i := 6) scWi.nd rfl (.inl rfl) (pe_lst pa_nil))
      (pss_cons (ps_for PassesOwn.never rfl (pi_range1 rfl nb.at (pa_cons (pe_callB call_len_seq (by rfl) nb.at PySem.boot_len (pa_cons (pv 0) pa_nil)) pa_nil)) (pg_name (i := 7) scWi.nd rfl (Or.inl rfl))
        (pss_cons (ps_aug (i := 5) scWi.nd rfl (.inl rfl) (pe_op op_sub (pe_ix ix_list (pv 0) (pv 7) (fun _ _ => rfl)) (pe_ix ix_list (pv 0) (pe_op op_sub (pv 7) (pv 3)) (fun _ _ => rfl))) ip_add)
        (pss_one (ps_expr (pe_bm PySem.F.plainAttrs_list PySem.F.slot_list_append PySem.F.type_list_append mt_append (pv 6) (pa_cons (pe_op op_add (pv 4) (pv 5)) pa_nil))))))
      (pss_one (ps_ret (pv 6)))))))), ?_⟩
    have y := sizeLine_eq
    have hm2 : m < 2 ^ 17 := by omega
    have rr := Nat.mod_lt t m0
    have hS2 : SqL K H a (((List.range m).map f).map V.int) := by
      rw [← LI_ints]
      exact hS
    have ec : (t : Int) % (m : Int) = ((t % m : Nat) : Int) := (Int.natCast_emod t m).symm
    have ed : (t : Int) / (m : Int) = ((t / m : Nat) : Int) := (Int.natCast_ediv t m).symm
    refine ⟨_, rfl, _, rfl, a, _, rfl, .inl hS, t, _, rfl, divp_by (n := B) (by rw [LI_len]; omega) (by omega) (by omega), fun p np => ⟨p, _, rfl, .inl (.inl upd_same), rfl, _, _, rfl, _, _, rfl, rfl, ?_⟩⟩
    rw [LI_len, ec, ed]
    have sp := same_put (o := .tup [.int ((t / m : Nat) : Int), .int ((t % m : Nat) : Int)]) np
    have hsum := sum_bd hf hm2
    refine ⟨_, rfl, _, rfl, a, _, rfl, sp.seq hS2, _, _, rfl, rfl, ?_, ?_⟩
    · rw [range_sum]
      exact wide_mul (a := B) (b := R + 17) (by rw [Int.natAbs_natCast]; exact Nat.lt_of_le_of_lt (Nat.div_le_self t m) ht) hsum B0 (by omega) (by omega)
    rw [range_sum]
    dsimp only
    have hcut : cutV (LI m f) (some (((m : Nat) : Int) - ((t % m : Nat) : Int))) none = ((List.range (t % m)).map fun k => f (m - t % m + k)).map V.int := by
      rw [show ((m : Nat) : Int) - ((t % m : Nat) : Int) = ((m - t % m : Nat) : Int) by omega, cutV_from, LI_drop (by omega), ← LI_ints, show m - (m - t % m) = t % m by omega]
    refine ⟨_, rfl, _, rfl, a, _, rfl, .inl (sp.seq hS), _, rfl, _, _, rfl, rfl, _, rfl, a, _, rfl, sp.seq hS, fun p2 n2 => ?_⟩
    rw [LI_len]
    dsimp only
    rw [hcut]
    have sp2 := sp.trans (same_put (o := .lst (((List.range (t % m)).map fun k => f (m - t % m + k)).map V.int)) n2)
    refine ⟨p2, _, rfl, .inl (.inl upd_same), ?_⟩
    rw [range_sum, tail_sum m0 (by omega)]
    refine ⟨(by show 0 ≤ sizeLine; exact Nat.zero_le _), fun l nl => ?_⟩
    have sp3 := sp2.trans (same_put (o := .lst []) nl)
    refine ⟨_, rfl, a, _, rfl, .inl (sp3.seq hS), _, rfl, by rw [LI_len]; omega, by rw [LI_len]; omega, ?_⟩
    rw [LI_len, Int.toNat_natCast]
    refine for_range (lo := 0) (n := m) (fun i σ' H' => ∃ y7 : Option V, σ' = [some (.ref a), some (.int (t : Nat)), some (.int ((t / m : Nat) : Int)), some (.int ((t % m : Nat) : Int)), some (.int (((t / m : Nat) : Int) * sumK f m)), some (.int (sumK (fun k => f (rot m ((i + (m - 1)) % m) k)) (t % m))), some (.ref l), y7] ∧
      Same H H' ∧ H' l = some (.lst (LI i (repF m 1 t f)))) ⟨none, by rw [show (0 + (m - 1)) % m = m - 1 from by rw [Nat.zero_add]; exact Nat.mod_eq_of_lt (by omega)]; rfl, sp3, upd_same⟩ ?_ ?_
    · rintro i σ' H' hi ⟨y7, rfl, s', hl'⟩
      have e1 : ((i + (m - 1)) % m + 1) % m = i := by
        rw [Nat.mod_add_mod, show i + (m - 1) + 1 = i + m by omega, Nat.add_mod_right, Nat.mod_eq_of_lt hi]
      have e2 : (i + 1 + (m - 1)) % m = i := by
        rw [show i + 1 + (m - 1) = i + m by omega, Nat.add_mod_right, Nat.mod_eq_of_lt hi]
      have sl := slide (g := f) m0 (t % m) ((i + (m - 1)) % m)
      rw [e1] at sl
      have i1 : atI (LI m f) (0 + (i : Int)) = some (.int (f i)) := by
        rw [Int.zero_add]
        exact LI_at hi
      have i2 : atI (LI m f) (0 + (i : Int) - ((t % m : Nat) : Int)) = some (.int (f (rot m i (t % m)))) := by
        rw [Int.zero_add]
        exact LI_back hi rr
      refine ⟨_, rfl, _, rfl, _, rfl, a, _, _, _, rfl, rfl, s'.seq hS, i1, _, rfl, _, rfl, _, rfl, _, _, rfl, rfl, a, _, _, _, rfl, rfl, s'.seq hS, i2, _, _, rfl, rfl, _, _, rfl, rfl, ?_⟩
      refine ⟨_, rfl, .inl ⟨rfl, _, .inl (.inl hl')⟩, _, rfl, _, rfl, _, _, rfl, rfl, l, _, _, rfl, rfl, hl', by rw [LI_len]; omega, ?_⟩
      have ev : sumK (fun k => f (rot m ((i + (m - 1)) % m) k)) (t % m) + (f i - f (rot m i (t % m))) = sumK (fun k => f (rot m i k)) (t % m) := by
        omega
      refine ⟨some (.int (0 + (i : Int))), ?_, ?_, ?_⟩
      · rw [e2, ← ev]
        rfl
      · intro b o e
        have nl' : H l = none := none_of sp2 nl
        rw [upd_ne (ne_of_none e nl')]
        exact s' _ _ e
      · rw [upd_same, LI_succ, rep1 m0 hi, ← ev]
    · rintro σ' H' ⟨y7, rfl, s', hl'⟩
      exact ⟨_, rfl, q H' l s' (none_of sp2 nl) hl'⟩
theorem ok_rep (D : Def K mg "repeated" (topS 48) ["starts", "step", "times"]) (C_common_divisor : CalN CX0 P w K mg base 1 "common_divisor" ["one", "other"] spGcd) (C_window_sums : CalN CX0 P w K mg base 1 "window_sums" ["ring", "times"] (spWin K)) (nb : NB mg) :
    CalN CX0 P w K mg base 2 "repeated" ["starts", "step", "times"] (spRep K) := by
  refine D.okO scRp (fun vs H Q E h => ?_) (fun fa cdv A outer sh H vs Q E hr h => ?_)
  · obtain ⟨a, s, t, m, R, B, S, f, rfl, _⟩ := h
    rfl
  · obtain ⟨a, s, t, m, R, B, S, f, rfl, hS, m0, m1, hf, ht, hB, B0, hR, hs, S0, hS9, q⟩ := h
    refine ⟨_, (pss_cons (ps_set (i := 3) scRp.nd rfl (.inr rfl) (pe_callB call_len_seq (by rfl) nb.at PySem.boot_len (pa_cons (pv 0) pa_nil)))
      (pss_cons (ps_set (i := 4) scRp.nd rfl (.inl rfl) (pcallO C_common_divisor (hr.mono (by omega)) (by rfl) (pa_cons (pv 1) (pa_cons (pv 3) pa_nil))))
      (pss_cons (ps_set (i := 5) scRp.nd rfl (.inl rfl) (pe_op op_rep (pe_lst (pa_cons pe_int pa_nil)) (pv 3)))
      (pss_cons (ps_for PassesOwn.never rfl (pi_range1 rfl nb.at (pa_cons (pv 4) pa_nil)) (pg_name (i := 6) scRp.nd rfl (.inr rfl))
        (pss_cons (ps_setLc (i := 7) (own := [("at", 8)]) (g := (gName 8)) (tt := tYes) (te := (tOp (rI (fun _ j => 0 < j) fun i j => .int (i % j)) (tOp (rI0 fun i j => .int (i + j)) (tVar 6) (tOp (rI CMulW fun i j => .int (i * j)) (tVar 1) (tVar 8))) (tVar 3))) rfl scRp.nd rfl rfl (sw_true rfl rfl rfl rfl) (pi_range1 rfl nb.at (pa_cons (pe_op op_fdivW (pv 3) (pv 4)) pa_nil)) (blkOk_by (N := ["starts", "step", "times", "modulus", "apart", "out", "first", "cycle", "at", "sums", "place", "total"]) (sc := defScope (topS 48)) (by decide +kernel)) (fun _ _ _ _ _ => (pg_name (i := 8) scRp.nd rfl (Or.inl rfl))) (fun _ _ _ _ _ => pts_nil) (fun _ _ _ _ _ => (pe_op op_mod (pe_op op_add (pv 6) (pe_op op_mulW (pv 1) (pv 8))) (pv 3))))
        (pss_cons (ps_set (i := 9) scRp.nd rfl (.inl rfl) (pcallO C_window_sums (hr.mono (by omega)) (by rfl) (pa_cons (pe_lc (own := [("place", 10)]) (g := (gName 10)) (tt := tYes) (te := (tOp (rIxL K) (tVar 0) (tVar 10))) rfl scRp.nd (pi_list (pv 7)) (blkOk_by (N := ["starts", "step", "times", "modulus", "apart", "out", "first", "cycle", "at", "sums", "place", "total"]) (sc := defScope (topS 48)) (by decide +kernel)) (fun _ _ _ _ _ => (pg_name (i := 10) scRp.nd rfl (Or.inl rfl))) (fun _ _ _ _ _ => pts_nil) (fun _ _ _ _ _ => (pe_ix ix_list (pv 0) (pv 10) (fun _ _ => rfl)))) (pa_cons (pv 2) pa_nil))))
        (pss_one (ps_for PassesOwn.never rfl (pi_zip rfl nb.at (pa_cons (pv 7) (pa_cons (pv 9) pa_nil))) (pg_tup rfl (pgs_cons (pg_name (i := 10) scRp.nd rfl (Or.inl rfl)) (pgs_cons (pg_name (i := 11) scRp.nd rfl (Or.inl rfl)) pgs_nil)))
          (pss_one (ps_asg (pv 11) (pg_sub (pv 5) (pv 10) set_list))))))))
      (pss_one (ps_ret (pv 5))))))), ?_⟩
    have y := sizeLine_eq
    obtain ⟨d0, L0, dm, Lm⟩ := cyc_pos (s := s) m0
    refine ⟨_, rfl, a, _, rfl, .inl hS, ?_⟩
    rw [LI_len]
    refine ⟨_, rfl, _, rfl, s, m, rfl, ?_⟩
    refine ⟨(by show 1 ≤ sizeLine; decide), fun l1 n1 => ⟨_, rfl, l1, (m : Nat), _, rfl, rfl, upd_same, by omega, by omega, by rw [Int.toNat_natCast]; show 1 * m ≤ _; omega, fun o no => ?_⟩⟩
    rw [Int.toNat_natCast, LI_zero]
    have s1 := same_put (o := .lst [.int 0]) n1
    have s2 := s1.trans (same_put (o := .lst (LI m fun _ => 0)) no)
    have nHo : H o = none := none_of s1 no
    refine ⟨_, rfl, _, rfl, by omega, by omega, ?_⟩
    rw [Int.toNat_natCast]
    refine for_range (lo := 0) (n := Nat.gcd s m) (fun i σ' H' => ∃ (y6 y7 y8 y9 y10 y11 : Option V) (h : Nat → Int), σ' = [some (.ref a), some (.int (s : Nat)), some (.int (t : Nat)), some (.int (m : Nat)), some (.int (Nat.gcd s m : Nat)), some (.ref o), y6, y7, y8, y9, y10, y11] ∧ Same H H' ∧ H' o = some (.lst (LI m h)) ∧
      ∀ first at', first < i → at' < m / Nat.gcd s m → h ((first + s * at') % m) = repF m s t f ((first + s * at') % m)) ⟨none, none, none, none, none, none, _, rfl, s2, upd_same, fun _ _ h => absurd h (Nat.not_lt_zero _)⟩ ?_ ?_
    · rintro i σ' H1 hi ⟨y6, y7, y8, y9, y10, y11, h, rfl, sH1, ho1, hv⟩
      have hmul : ∀ j : Nat, j < m / Nat.gcd s m → CMulW (s : Nat) (0 + (j : Int)) := fun j hj => wide_mul (a := S) (b := 17) (by omega) (by omega) S0 (by decide) (by omega)
      change tSeq (tAsg (tLc _ _ _ _ _) (gName 7)) _ _ _ _
      refine s_asg (lc_rng (n := m / Nat.gcd s m) (ys := LI (m / Nat.gcd s m) fun j => (((i + s * j) % m : Nat) : Int)) (fun Q q => ?_) (by omega) LI_len (fun j yy hj HH RR sHH k => ?_) fun H2 q7 s2' n7 h7 => ?_)
      · refine ⟨_, rfl, _, rfl, _, _, rfl, rfl, wide_div (b := 17) (by omega) (by omega) (by decide) (by decide), ?_⟩
        show Q [V.int (((m : Nat) : Int) / ((Nat.gcd s m : Nat) : Int))] H1
        rw [← Int.natCast_ediv]
        exact q
      · have hjl : j < m / Nat.gcd s m := by
          have := (List.getElem?_eq_some_iff.mp hj).1
          rw [LI_len] at this
          exact this
        rw [LI_get hjl] at hj
        cases hj
        refine ⟨rfl, _, rfl, _, rfl, _, rfl, _, _, rfl, rfl, hmul j hjl, _, _, rfl, rfl, _, rfl, _, _, rfl, rfl, (show (0 : Int) < m by omega), ?_⟩
        have z := k HH Same.rfl'
        have e : (((i + s * j) % m : Nat) : Int) = (0 + (i : Int) + (s : Int) * (0 + (j : Int))) % m := by
          rw [Int.natCast_emod, Int.natCast_add, Int.natCast_mul, Int.zero_add, Int.zero_add]
        rw [e] at z
        exact z
      · have ho2 := s2' _ _ ho1
        have n7o : q7 ≠ o := fun z => by
          rw [z, ho1] at n7
          cases n7
        refine s_call (lc_lst (K := K) (a := q7) (xs := LI (m / Nat.gcd s m) fun j => (((i + s * j) % m : Nat) : Int)) (ys := LI (m / Nat.gcd s m) fun j => f ((i + s * j) % m)) (fun Q q => ⟨_, rfl, q⟩) (.inl (.inl h7)) (by rw [LI_len]; omega) (by rw [LI_len, LI_len]) (fun j xx yy hx hy HH RR sHH k => ?_) fun H3 q3 s3 n3 h3 => ?_)
        · have hjl : j < m / Nat.gcd s m := by
            have := (List.getElem?_eq_some_iff.mp hx).1
            rw [LI_len] at this
            exact this
          rw [LI_get hjl] at hx hy
          cases hx
          cases hy
          exact ⟨rfl, _, rfl, _, rfl, a, _, _, _, rfl, rfl, ((sH1.trans s2').trans sHH).seq hS, LI_at (Nat.mod_lt _ m0), k HH Same.rfl'⟩
        · refine ⟨_, rfl, q3, t, m / Nat.gcd s m, R, B, _, rfl, .inl (.inl h3), L0, by omega, fun c _ => hf _ (Nat.mod_lt _ m0), ht, hB, B0, hR, fun H4 q9 s4 n9 h9 => ?_⟩
          have ho4 := s4 _ _ (s3 _ _ ho2)
          have h74 := s4 _ _ (s3 _ _ h7)
          have n9o : q9 ≠ o := fun z => by
            rw [z, s3 _ _ ho2] at n9
            cases n9
          have sH4 := ((sH1.trans s2').trans s3).trans s4
          refine ⟨_, rfl, _, rfl, q7, q9, _, _, rfl, .inl (.inl h74), .inl (.inl h9), RZ.for_zipL (by rw [LI_len, LI_len]) (fun j σ' H' => ∃ (y10 y11 : Option V) (h : Nat → Int), σ' = [some (.ref a), some (.int (s : Nat)), some (.int (t : Nat)), some (.int (m : Nat)), some (.int (Nat.gcd s m : Nat)), some (.ref o), some (.int (0 + (i : Int))), some (.ref q7), y8, some (.ref q9), y10, y11] ∧ Same H H' ∧ H' o = some (.lst (LI m h)) ∧
            H' q7 = some (.lst (LI (m / Nat.gcd s m) fun j => (((i + s * j) % m : Nat) : Int))) ∧ H' q9 = some (.lst (LI (m / Nat.gcd s m) (repF (m / Nat.gcd s m) 1 t fun j => f ((i + s * j) % m)))) ∧
            (∀ first at', first < i → at' < m / Nat.gcd s m → h ((first + s * at') % m) = repF m s t f ((first + s * at') % m)) ∧ ∀ at', at' < j → h ((i + s * at') % m) = repF m s t f ((i + s * at') % m)) ⟨_, _, h, rfl, sH4, ho4, h74, h9, hv, fun _ h => absurd h (Nat.not_lt_zero _)⟩ (fun j σ' H' ⟨_, _, _, _, _, _, e7, e9, _⟩ => ⟨.inl (.inl e7), .inl (.inl e9)⟩) ?_ ?_⟩
          · rintro j xx yy T σ' H' hx hy ⟨y10, y11, h', rfl, sH', ho', h7', h9', hv1, hv2⟩ nT
            have hjl : j < m / Nat.gcd s m := by
              have := (List.getElem?_eq_some_iff.mp hx).1
              rw [LI_len] at this
              exact this
            rw [LI_get hjl] at hx hy
            cases hx
            cases hy
            have sT := same_put (o := .tup [.int (((i + s * j) % m : Nat) : Int), .int (repF (m / Nat.gcd s m) 1 t (fun j => f ((i + s * j) % m)) j)]) nT
            have hpl := Nat.mod_lt (i + s * j) m0
            have val : repF (m / Nat.gcd s m) 1 t (fun j => f ((i + s * j) % m)) j = repF m s t f ((i + s * j) % m) := by
              unfold repF
              exact sumK_congr fun k _ => by rw [Nat.mul_one]; dsimp only; rw [cyc_rot m0]
            refine ⟨T, _, rfl, .inl (.inl upd_same), rfl, _, _, rfl, _, _, rfl, rfl, ?_⟩
            refine ⟨_, rfl, _, rfl, _, rfl, o, _, _, _, rfl, rfl, sT _ _ ho', by rw [LI_len]; exact ixN_nat hpl, ?_⟩
            rw [LI_set hpl]
            refine ⟨_, _, _, rfl, fun b u e => ?_, upd_same, ?_, ?_, fun first at' hf' ha' => ?_, fun at' ha' => ?_⟩
            · rw [upd_ne (ne_of_none e nHo)]
              exact sT _ _ (sH' _ _ e)
            · rw [upd_ne n7o]
              exact sT _ _ h7'
            · rw [upd_ne n9o]
              exact sT _ _ h9'
            · by_cases e : (first + s * at') % m = (i + s * j) % m
              · rw [if_pos e, val, e]
              · rw [if_neg e]
                exact hv1 first at' hf' ha'
            · by_cases e : (i + s * at') % m = (i + s * j) % m
              · rw [if_pos e, val, e]
              · rw [if_neg e]
                refine hv2 at' ?_
                have : at' ≠ j := fun z => e (by rw [z])
                omega
          · rintro σ' H' ⟨y10, y11, h', rfl, sH', ho', h7', h9', hv1, hv2⟩
            rw [LI_len] at hv2
            refine ⟨_, _, _, _, _, _, h', rfl, sH', ho', fun first at' hf' ha' => ?_⟩
            by_cases e : first < i
            · exact hv1 first at' e ha'
            · rw [show first = i by omega]
              exact hv2 at' ha'
    · rintro σ' H' ⟨y6, y7, y8, y9, y10, y11, h, rfl, sH1, ho1, hv⟩
      refine ⟨_, rfl, q H' o sH1 nHo ?_⟩
      rw [ho1, LI_congr fun c hc => ?_]
      obtain ⟨first, at', h1, h2, rfl⟩ := cyc_all (s := s) m0 hc
      exact hv first at' h1 h2
end
end Ev

/-! ## line_columns, class_counts -/
namespace Ev
open PySem PySem.Spec PyProof.Rows L2
theorem scLc : FnScope ["items", "starts", "columns", "item", "kind", "first", "second"] ["items", "starts"] (defScope (topS 46)) := ⟨rfl, rfl, rfl, by decide +kernel, rfl, by decide +kernel, by decide +kernel⟩
def spCols (K : PySem.W.Frag) (B dep : Nat) : Sp := fun vs H Q _ => ∃ (x : V) (a : Addr) (is : List It) (m R : Nat) (f : Nat → Int), vs = [x, .ref a] ∧ Prg K B dep H x is ∧ Its.nn is ∧ SqL K H a (LI m f) ∧ 0 < m ∧ m ≤ 100000 ∧ Bd R m f ∧ R + (dep + 1) * B ≤ 900000 ∧ 0 < B ∧ B ≤ 3900 ∧ 17 + (dep + 1) * B ≤ 900000 ∧
  ∀ H' q us, Same H H' → H q = none → H' q = some (.lst us) → DaAll K (newer H H') us ((Its.cols m is f).map (colD m)) → Q (.ref q) H'
section
variable {P : Program} {w : World} {K : PySem.W.Frag} {mg : Str → Option Value} {base : Heap}
theorem cols_step {k B dep : Nat} {spR : Sp} (D : Def K mg "line_columns" (topS 46) ["items", "starts"]) (C_line_columns : CalN CX0 P w K mg base k "line_columns" ["items", "starts"] spR) (C_repeated : CalN CX0 P w K mg base 2 "repeated" ["starts", "step", "times"] (spRep K))
    (C_length_programs : CalN CX0 P w K mg base (dep + 2) "length_programs" ["program"] (spLen K B dep)) (C_moved : CalN CX0 P w K mg base 1 "moved" ["starts", "ticks"] (spMov K)) (nb : NB mg) (hk : dep + 2 ≤ k) (hB : Room2 B dep)
    (hR : dep = 0 ∨ ∃ d, dep = d + 1 ∧ spR = spCols K B d) : CalN CX0 P w K mg base (k + 1) "line_columns" ["items", "starts"] (spCols K B dep) := by
  refine D.okO scLc (fun vs H Q E h => ?_) (fun fa cdv A outer sh H vs Q E hr h => ?_)
  · obtain ⟨x, a, is, m, R, f, rfl, _⟩ := h
    rfl
  · obtain ⟨x, a, is, m, R, f, rfl, hp, hps, hS, m0, m1, hf, hR9, B0, B9, hL9, q⟩ := h
    refine ⟨_, (pss_cons (ps_set (i := 2) scLc.nd rfl (.inl rfl) (pe_lst pa_nil))
      (pss_cons (ps_for PassesOwn.never rfl (pi_tup (pv 0)) (pg_name (i := 3) scLc.nd rfl (Or.inl rfl))
        (pss_cons (ps_asg (pv 3) (pg_tup rfl (pgs_cons (pg_name (i := 4) scLc.nd rfl (Or.inl rfl)) (pgs_cons (pg_name (i := 5) scLc.nd rfl (Or.inl rfl)) (pgs_cons (pg_name (i := 6) scLc.nd rfl (Or.inl rfl)) pgs_nil)))))
        (pss_cons (ps_if (pt_cmpR op_eq (pv 4) pe_str (nomark _))
          (pss_one (ps_expr (pe_bm PySem.F.plainAttrs_list PySem.F.slot_list_append PySem.F.type_list_append mt_append (pv 2) (pa_cons (pe_tup (pa_cons (pv 5) (pa_cons (pcallO C_repeated (hr.mono (by omega)) (by rfl) (pa_cons (pv 1) (pa_cons pe_int (pa_cons (pv 6) pa_nil)))) pa_nil))) pa_nil))))
          (pss_one (ps_expr (pe_bm PySem.F.plainAttrs_list PySem.F.slot_list_extend PySem.F.type_list_extend mt_extend (pv 2) (pa_cons (pcallO C_line_columns (hr.mono (by omega)) (by rfl) (pa_cons (pv 6) (pa_cons (pcallO C_repeated (hr.mono (by omega)) (by rfl) (pa_cons (pv 1) (pa_cons (pcallO C_length_programs (hr.mono (by omega)) (by rfl) (pa_cons (pv 6) pa_nil)) (pa_cons (pv 5) pa_nil)))) pa_nil))) pa_nil)))))
        (pss_one (ps_set (i := 1) scLc.nd rfl (.inl rfl) (pcallO C_moved (hr.mono (by omega)) (by rfl) (pa_cons (pv 1) (pa_cons (pcallO C_length_programs (hr.mono (by omega)) (by rfl) (pa_cons (pe_tup (pa_cons (pv 3) pa_nil)) pa_nil)) pa_nil))))))))
      (pss_one (ps_ret (pv 2))))), ?_⟩
    have y := sizeLine_eq
    obtain ⟨b, xs, rfl, hs, ha⟩ := da_prog hp.da
    have hxl := daAll_len ha
    rw [List.length_map] at hxl
    refine ⟨(by show 0 ≤ sizeLine; exact Nat.zero_le _), fun l nl => ?_⟩
    have s0 : Same H (upd H l (.lst [])) := same_put nl
    have sq0 : SqL K (but (upd H l (.lst [])) l) a (LI m f) := by
      refine sq_of hS fun o e => ?_
      rw [but_ne (ne_of_none e nl)]
      exact s0 _ _ e
    refine ⟨_, rfl, b, rfl, ⟨xs, seqT_mono s0 hs⟩, for_tup (K := K) (a := b) (xs := xs) (fun i σ' H' => ∃ (us : List V) (a' : Addr) (y3 y4 y5 y6 : Option V), σ' = [some (.ref b), some (.ref a'), some (.ref l), y3, y4, y5, y6] ∧ Same H H' ∧ SqL K (but H' l) a' (LI m (Its.st m (is.take i) f)) ∧ H' l = some (.lst us) ∧
      DaAll K (newer (upd H l (.lst [])) H') us ((Its.cols m (is.take i) f).map (colD m))) ⟨[], a, none, none, none, none, rfl, s0, sq0, upd_same, .nil⟩ (fun i σ' H' _ ⟨_, _, _, _, _, _, _, s', _⟩ => seqT_mono s' hs) ?_ ?_⟩
    · rintro i x' σ' H' hi ⟨us, a', y3, y4, y5, y6, rfl, s', hS', hl', hda⟩
      obtain ⟨d, hd', hx'⟩ := daAll_at (ha.mono s') hi
      rw [List.getElem?_map] at hd'
      obtain ⟨it, hit, rfl⟩ := Option.map_eq_some_iff.mp hd'
      have hmem := List.mem_of_getElem? hit
      have hpi := nn_mem hps hmem
      have hoki := hp.ok _ hmem
      have hnli : It.nl it ≤ 100000 := Nat.le_trans (Its.nl_mem hmem) hp.few
      have hul : us.length ≤ 100000 := by
        have z := daAll_len hda
        rw [List.length_map, Its.cols_len] at z
        have := nl_take_le is i
        have := hp.few
        omega
      have hul2 : us.length + It.nl it ≤ 100000 := by
        have z := daAll_len hda
        rw [List.length_map, Its.cols_len] at z
        have := nl_take hit
        have := hp.few
        omega
      have hf' : Bd R m (Its.st m (is.take i) f) := st_bd m0 _ hf
      have hw1 : lenI [it] = ((It.w it).length : Nat) := len_one hpi
      -- what follows the columns of the item
      have fin : ∀ (H3 : Hp) (us3 : List V) (z4 z5 z6 : Option V), Same H H3 → SqL K (but H3 l) a' (LI m (Its.st m (is.take i) f)) → H3 l = some (.lst us3) → Da K H3 x' (It.d it) → DaAll K (newer (upd H l (.lst [])) H3) us3 ((Its.cols m (is.take (i + 1)) f).map (colD m)) →
          tAsg (tCall (spMov K) [] E0 (tCons (tVar 1) (tCons (tCall (spLen K B dep) [] E0 (tCons (tTup (tCons (tVar 3) tNil)) tNil)) tNil))) (gName 1)
            { nx := fun σ' H' => ∃ (us : List V) (a' : Addr) (y3 y4 y5 y6 : Option V), σ' = [some (.ref b), some (.ref a'), some (.ref l), y3, y4, y5, y6] ∧ Same H H' ∧ SqL K (but H' l) a' (LI m (Its.st m (is.take (i + 1)) f)) ∧ H' l = some (.lst us) ∧ DaAll K (newer (upd H l (.lst [])) H') us ((Its.cols m (is.take (i + 1)) f).map (colD m)), rt := Q }
            [some (.ref b), some (.ref a'), some (.ref l), some x', z4, z5, z6] H3 := fun H3 us3 z4 z5 z6 s3 hS3 hl3 hd3 hda3 => by
        refine ⟨_, rfl, _, rfl, (by show 1 ≤ sizeLine; decide), fun T nT => ⟨.ref T, [it], rfl, ⟨.tup (xs := [x']) (.inl (.inl upd_same)) (.cons (hd3.mono (same_put nT)) .nil), fun j hj => by rw [List.mem_singleton.mp hj]; exact hoki, by rw [Its.nl, Its.nl]; omega⟩, fun H4 s4 => ?_⟩⟩
        rw [hw1]
        have s34 := (same_put (o := .tup [x']) nT).trans s4
        have hS4 := hS3.mono' (but_same s34)
        refine ⟨a', (It.w it).length, m, _, rfl, but_in.seq hS4, m0, m1, fun H5 q5 s5 n5 h5 => ?_⟩
        have hl5 := s5 _ _ (s34 _ _ hl3)
        have nql : q5 ≠ l := fun z => by
          rw [z, s34 _ _ hl3] at n5
          cases n5
        have s35 := s34.trans s5
        refine ⟨us3, q5, _, _, _, _, rfl, s3.trans s35, ?_, hl5, hda3.mono (newer_le (fun _ z => z) fun b o _ e => s35 _ _ e)⟩
        rw [st_take hit]
        refine .inl (.inl ?_)
        rw [but_ne nql]
        exact h5
      refine ⟨_, rfl, ?_⟩
      cases it with
      | line z t =>
        obtain ⟨b', rfl, hb'⟩ := da_line hx'
        have ht := okp_line.mp hoki
        rw [It.nn] at hpi
        refine ⟨b', _, rfl, hb', rfl, _, _, rfl, _, _, rfl, _, _, rfl, rfl, ?_⟩
        refine ⟨_, rfl, rfl, _, rfl, ?_⟩
        rw [dec_str]
        refine iteT ?_
        refine ⟨_, rfl, .inl ⟨rfl, _, .inl (.inl hl')⟩, _, rfl, _, rfl, _, rfl, a', 1, t.toNat, m, R, B, 1, _, ?_, but_in.seq hS', m0, m1, hf', by omega, B9, B0, by omega, by decide, by decide, by decide, fun H2 q2 s2 n2 h2 => ⟨(by show 2 ≤ sizeLine; decide), fun T nT => ?_⟩⟩
        · show [V.ref a', V.int 1, V.int t] = _
          rw [Int.toNat_of_nonneg (by omega)]
          rfl
        have hl2 := s2 _ _ hl'
        have nlT : l ≠ T := ne_of_none hl2 nT
        have sT := same_put (o := .tup [.str z, .ref q2]) nT
        have hlT := sT _ _ hl2
        refine ⟨l, us, .ref T, rfl, rfl, hlT, by omega, ?_⟩
        have s2T := s2.trans sT
        have n1 : upd H l (.lst []) q2 = none := by
          have nq : q2 ≠ l := fun e => by
            rw [e, hl'] at n2
            cases n2
          rw [upd_ne nq]
          exact none_of s' n2
        have n3 : upd H l (.lst []) T = none := by
          rw [upd_ne nlT.symm]
          exact none_of (s'.trans s2) nT
        have nql : q2 ≠ l := fun e => by
          rw [e, hl'] at n2
          cases n2
        refine fin _ (us ++ [.ref T]) _ _ _ (fun c o e => ?_) ?_ upd_same (Da.kt ((Kt.of s2T).trans (Kt.put hlT)) (It.tupd _) hx') ?_
        · rw [upd_ne (ne_of_none e nl)]
          exact s2T _ _ (s' _ _ e)
        · refine hS'.mono' fun c o e => ?_
          by_cases hc : c = l
          · rw [hc] at e
            have z' : but H' l l = none := if_pos rfl
            rw [z'] at e
            cases e
          · rw [but_ne hc] at e ⊢
            rw [upd_ne hc]
            exact s2T _ _ e
        · rw [cols_take hit, It.cols, List.map_append]
          refine da_app (hda.mono (newer_le (fun _ z => z) fun c o nc e => ?_)) (.cons (.tup (xs := [.str z, .ref q2]) (.inl (.inl ?_)) (.cons (.str _) (.cons (.lst (.inl (.inl ?_)) da_LI) .nil))) .nil)
          · have hc : c ≠ l := fun e' => by
              rw [e', upd_same] at nc
              cases nc
            rw [upd_ne hc]
            exact s2T _ _ e
          · rw [newer_at n3, upd_ne nlT.symm, upd_same]
          · rw [newer_at n1, upd_ne nql]
            exact sT _ _ h2
      | loop r js =>
        obtain ⟨d', rfl, hsp⟩ : ∃ d', dep = d' + 1 ∧ spR = spCols K B d' := by
          rcases hR with h | h
          · subst h
            exact hoki.elim
          · exact h
        subst hsp
        obtain ⟨k0, k1, hokj⟩ : 0 ≤ r ∧ r < (2 ^ B : Nat) ∧ ∀ i ∈ js, Okp B d' i := hoki
        obtain ⟨b', v6, rfl, hb', hv6⟩ := da_loop hx'
        rw [It.nn] at hpi
        have hnlj : Its.nl js ≤ 100000 := by
          rw [It.nl] at hnli
          exact hnli
        have e1 : (d' + 1 + 1) * B = (d' + 1) * B + B := Nat.succ_mul _ _
        have hwj := len_w hpi.2
        refine ⟨b', _, rfl, hb', rfl, _, _, rfl, _, _, rfl, _, _, rfl, rfl, ?_⟩
        refine ⟨_, rfl, rfl, _, rfl, ?_⟩
        rw [dec_ll]
        refine iteF ?_
        refine ⟨_, rfl, .inl ⟨rfl, _, .inl (.inl hl')⟩, _, rfl, _, rfl, _, rfl, v6, js, rfl, ⟨hv6, fun j hj => okp_up1 (hokj j hj), hnlj⟩, fun H2 s2 => ?_⟩
        rw [hwj]
        refine ⟨_, rfl, a', (Its.w js).length, r.toNat, m, R, B, 17 + (d' + 1) * B, _, ?_, but_in.seq (hS'.mono' (but_same s2)), m0, m1, hf', by omega, B9, B0, by omega, w_bits hokj hnlj, by omega, by omega, fun H3 q3 s3 n3 h3 => ?_⟩
        · show [V.ref a', V.int _, V.int r] = _
          rw [Int.toNat_of_nonneg k0]
        have s23 := s2.trans s3
        refine ⟨v6, q3, js, m, R + B, _, rfl, ⟨hv6.mono s23, hokj, hnlj⟩, hpi.2, .inl (.inl h3), m0, m1, bd_rep m0 hf' (by omega), by omega, B0, B9, by omega, fun H4 q4 us4 s4 n4 h4 hda4 => ?_⟩
        have s24 := s23.trans s4
        have hl4 := s24 _ _ hl'
        have hul4 : us4.length = Its.nl js := by
          have z := daAll_len hda4
          rw [List.length_map, Its.cols_len] at z
          exact z
        rw [It.nl] at hul2
        refine ⟨l, q4, us, us4, rfl, rfl, hl4, h4, by omega, ?_⟩
        refine fin _ (us ++ us4) _ _ _ (fun c o e => ?_) ?_ upd_same (Da.kt ((Kt.of s24).trans (Kt.put hl4)) (It.tupd _) hx') ?_
        · rw [upd_ne (ne_of_none e nl)]
          exact s24 _ _ (s' _ _ e)
        · refine hS'.mono' fun c o e => ?_
          by_cases hc : c = l
          · rw [hc] at e
            have z' : but H' l l = none := if_pos rfl
            rw [z'] at e
            cases e
          · rw [but_ne hc] at e ⊢
            rw [upd_ne hc]
            exact s24 _ _ e
        · rw [cols_take hit, It.cols, List.map_append]
          refine da_app (hda.mono (newer_le (fun _ z => z) fun c o nc e => ?_)) (hda4.mono (newer_le (fun c e => ?_) fun c o nc e => ?_))
          · have hc : c ≠ l := fun e' => by
              rw [e', upd_same] at nc
              cases nc
            rw [upd_ne hc]
            exact s24 _ _ e
          · have hc : c ≠ l := fun e' => by
              rw [e', s23 _ _ hl'] at e
              cases e
            rw [upd_ne hc]
            exact none_of (s'.trans s23) e
          · have hc : c ≠ l := fun e' => by
              rw [e', s23 _ _ hl'] at nc
              cases nc
            rw [upd_ne hc]
            exact e
    · rintro σ' H' ⟨us, a', y3, y4, y5, y6, rfl, s', hS', hl', hda⟩
      rw [hxl, List.take_length] at hda
      exact ⟨_, rfl, q H' l us s' nl hl' (hda.mono (newer_le (fun c e => none_of s0 e) fun c o _ e => e))⟩
theorem ok_cols {B : Nat} (M : Nat) (D : Def K mg "line_columns" (topS 46) ["items", "starts"]) (C_repeated : CalN CX0 P w K mg base 2 "repeated" ["starts", "step", "times"] (spRep K))
    (C_length_programs : ∀ dep, dep ≤ M → CalN CX0 P w K mg base (dep + 2) "length_programs" ["program"] (spLen K B dep)) (C_moved : CalN CX0 P w K mg base 1 "moved" ["starts", "ticks"] (spMov K)) (nb : NB mg) (hB : Room2 B M) : ∀ dep : Nat, dep ≤ M → CalN CX0 P w K mg base (dep + 3) "line_columns" ["items", "starts"] (spCols K B dep)
  | 0, h => cols_step D (no_calO D) C_repeated (C_length_programs 0 h) C_moved nb (Nat.le_refl 2) (room_dn hB h) (.inl rfl)
  | n + 1, h => cols_step D (ok_cols M D C_repeated C_length_programs C_moved nb hB n (Nat.le_of_succ_le h)) C_repeated (C_length_programs (n + 1) h) C_moved nb (Nat.le_refl _) (room_dn hB h) (.inr ⟨n, rfl, rfl⟩)
end
/-! ### class_counts -/
def NCc : List Str := ["program", "modulus", "name", "counts", "more", "one", "other"]
theorem scCc : FnScope NCc ["program", "modulus"] (defScope (topS 45)) := ⟨rfl, rfl, rfl, by decide +kernel, rfl, by decide +kernel, by decide +kernel⟩
/-- the ticks of a line by class -/
def clF (is : List It) (m : Nat) (n : Str) (c : Nat) : Int := cf n m c (Its.w is) 0
def spCC (K : PySem.W.Frag) (B dep : Nat) : Sp := fun vs H Q _ => ∃ (x : V) (is : List It) (m : Nat), vs = [x, .int (m : Nat)] ∧ Prg K B dep H x is ∧ Its.ps is ∧ Its.nl is < 64 ∧ 0 < m ∧ m ≤ 100000 ∧
  ∀ H' c (qa : Str → Addr), Same H H' → H c = none → H' c = some (.dK (mapD (linesI is) fun n => .ref (qa n))) → (∀ n ∈ linesI is, H (qa n) = none ∧ H' (qa n) = some (.lst (LI m (clF is m n)))) → Q (.ref c) H'
def spCCn (K : PySem.W.Frag) (B dep : Nat) : Sp := fun vs H Q _ => ∃ (x : V) (is : List It) (m : Nat), vs = [x, .int (m : Nat)] ∧ Prg K B dep H x is ∧ Its.nn is ∧ Its.nl is < 4000 ∧ (uniq [] ((Its.sp 1 is).map (·.1))).length < 64 ∧ 0 < m ∧ m ≤ 100000 ∧
  ∀ H' c (qa : Str → Addr), Same H H' → H c = none → H' c = some (.dK (mapD (linesI is) fun n => .ref (qa n))) → (∀ n ∈ linesI is, H (qa n) = none ∧ H' (qa n) = some (.lst (LI m (clF is m n)))) → Q (.ref c) H'
theorem LI_one (m : Nat) (hm : 0 < m) : V.int 1 :: (LI (m - 1) fun _ => 0) = LI m one0 := by
  refine LI_ext (by rw [List.length_cons, LI_len]; omega) fun c hc => ?_
  cases c with
  | zero => rfl
  | succ c =>
    rw [List.getElem?_cons_succ, LI_get (by omega)]
    rfl
theorem colS_take {n : Str} {c : Nat} {ps : List (Str × (Nat → Int))} {i : Nat} {p : Str × (Nat → Int)} (h : ps[i]? = some p) : colS n c (ps.take (i + 1)) = colS n c (ps.take i) + if p.1 = n then p.2 c else 0 := by
  rw [List.take_add_one, h, colS_app]
  show _ + ((if p.1 = n then p.2 c else 0) + 0) = _
  omega
section
variable {P : Program} {w : World} {K : PySem.W.Frag} {mg : Str → Option Value} {base : Heap}
theorem ok_ccn {B dep : Nat} (D : Def K mg "class_counts" (topS 45) ["program", "modulus"]) (C_lines_of : CalN CX0 P w K mg base (dep + 2) "lines_of" ["program"] (spLinesG K B dep)) (C_line_columns : CalN CX0 P w K mg base (dep + 3) "line_columns" ["items", "starts"] (spCols K B dep)) (nb : NB mg)
    (hB : 17 + (dep + 1) * B ≤ 900000 ∧ 0 < B ∧ B ≤ 3900) : CalN CX0 P w K mg base (dep + 4) "class_counts" ["program", "modulus"] (spCCn K B dep) := by
  refine D.okO scCc (fun vs H Q E h => ?_) (fun fa cdv A outer sh H vs Q E hr h => ?_)
  · obtain ⟨x, is, m, rfl, _⟩ := h
    rfl
  · obtain ⟨x, is, m, rfl, hp, hps, h64, hun, m0, m1, q⟩ := h
    have hu : (A.deeper (envOfC "class_counts" (defScope (topS 45)) sh.heap.objs.size fa cdv)).units + 1 < cLine := hu_of hr
    refine ⟨_, pss_cons (ps_setDc (n := 3) (own := [("name", 2)]) (g := gName 2) (tt := tYes) (tk := tVar 2) (tv := tOp rRep (tLst (tCons (tC (.int 0)) tNil)) (tVar 1)) rfl scCc.nd rfl rfl (swd_true rfl rfl rfl rfl) (pi_tup (pcallO C_lines_of (hr.mono (by omega)) (by rfl) (pa_cons (pv 0) pa_nil)))
        (blkOk_by (N := NCc) (sc := defScope (topS 45)) (by decide +kernel)) (fun _ _ _ _ _ => pg_name (i := 2) scCc.nd rfl (Or.inl rfl)) (fun _ _ _ _ _ => pts_nil) (fun _ _ _ _ _ => pv 2) (fun _ _ _ _ _ => pe_op op_rep (pe_lst (pa_cons pe_int pa_nil)) (pv 1)))
      (pss_cons (ps_for PassesOwn.never rfl (pi_list (pcallO C_line_columns (hr.mono (by omega)) (by rfl) (pa_cons (pv 0) (pa_cons (pe_op op_cat (pe_lst (pa_cons pe_int pa_nil)) (pe_op op_rep (pe_lst (pa_cons pe_int pa_nil)) (pe_op op_sub (pv 1) pe_int))) pa_nil)))) (pg_tup rfl (pgs_cons (pg_name (i := 2) scCc.nd rfl (.inl rfl)) (pgs_cons (pg_name (i := 4) scCc.nd rfl (.inl rfl)) pgs_nil)))
        (pss_one (ps_dput hu (pv 3) (pv 2) (pe_lc (own := [("one", 5), ("other", 6)]) (g := gTup K 2 (gCons (gName 5) (gCons (gName 6) gNil))) (tt := tYes) (te := tOp (rI0 fun i j => .int (i + j)) (tVar 5) (tVar 6)) rfl scCc.nd (pi_zip rfl nb.at (pa_cons (pe_dget hu (pv 3) (pv 2) (fun _ _ => rfl)) (pa_cons (pv 4) pa_nil)))
          (blkOk_by (N := NCc) (sc := defScope (topS 45)) (by decide +kernel)) (fun _ _ _ _ _ => pg_tup rfl (pgs_cons (pg_name (i := 5) scCc.nd rfl (Or.inl rfl)) (pgs_cons (pg_name (i := 6) scCc.nd rfl (Or.inl rfl)) pgs_nil))) (fun _ _ _ _ _ => pts_nil) (fun _ _ _ _ _ => pe_op op_add (pv 5) (pv 6))) rfl)))
      (pss_one (ps_ret (pv 3)))), ?_⟩
    have y := sizeLine_eq
    have hll := lines_len (is := is)
    have hnd := lines_nd is
    change tSeq (tAsg (tDc _ _ _ _ _ _) (gName 3)) _ _ _ _
    refine s_asg ?_
    refine ⟨_, rfl, x, is, rfl, hp, h64, hun, fun H1 a s1 ha => ⟨a, rfl, ⟨_, .inl (.inl ha)⟩, fun c nc => ?_⟩⟩
    refine dc_tup (K := K) (a := a) (xs := (linesI is).map V.str) (fun i H' => Same H1 H' ∧ ∃ qa : Str → Addr, H' c = some (.dK (mapD ((linesI is).take i) fun n => .ref (qa n))) ∧ ∀ n ∈ (linesI is).take i, H1 (qa n) = none ∧ qa n ≠ c ∧ H' (qa n) = some (.lst (LI m fun _ => 0)))
      ⟨same_put nc, fun _ => c, upd_same, fun n hn => by rw [List.take_zero] at hn; cases hn⟩ (fun i H' _ ⟨s', _⟩ => .inl (.inl (s' _ _ ha))) ?_ ?_
    · rintro i x' H' hi ⟨s', qa, hc', hq'⟩
      rw [List.getElem?_map] at hi
      obtain ⟨z, hz, rfl⟩ := Option.map_eq_some_iff.mp hi
      have hil := (List.getElem?_eq_some_iff.mp hz).1
      have hzn : z ∉ (linesI is).take i := fun hm => by
        obtain ⟨j, hj, hjz⟩ := List.mem_iff_getElem.mp hm
        rw [List.length_take] at hj
        rw [List.getElem_take] at hjz
        obtain ⟨hi', hiz⟩ := List.getElem?_eq_some_iff.mp hz
        have := (List.getElem_inj hnd).mp (hjz.trans hiz.symm)
        omega
      refine ⟨rfl, _, rfl, (by show 1 ≤ sizeLine; decide), fun l1 n1 => ⟨_, rfl, l1, (m : Nat), _, rfl, rfl, upd_same, by omega, by omega, by rw [Int.toNat_natCast]; show 1 * m ≤ _; omega, fun o no => ?_⟩⟩
      rw [Int.toNat_natCast, LI_zero]
      have sA := same_put (o := .lst [.int 0]) n1
      have sB := sA.trans (same_put (o := .lst (LI m fun _ => 0)) no)
      have nco : o ≠ c := fun e => by
        rw [e, sA _ _ hc'] at no
        cases no
      have nHo : H' o = none := none_of sA no
      refine ⟨_, .inr z, rfl, sB _ _ hc', by rw [mapD_len, List.length_take]; omega, fun b u e => ?_, fun n => if n = z then o else qa n, ?_, fun n hn => ?_⟩
      · rw [upd_ne (ne_of_none e nc)]
        exact sB _ _ (s' _ _ e)
      · rw [upd_same, mapD_new hzn, mapD_snoc hzn, List.take_add_one, hz]
        congr 2
        unfold mapD
        refine List.map_congr_left fun n _ => ?_
        dsimp only
        by_cases e : n = z
        · rw [if_pos e, if_pos e]
        · rw [if_neg e, if_neg e]
      · rw [List.take_add_one, hz] at hn
        by_cases e : n = z
        · dsimp only
          rw [if_pos e]
          refine ⟨none_of (s'.trans sA) no, nco, ?_⟩
          rw [upd_ne nco, upd_same]
        · dsimp only
          rw [if_neg e]
          have hn' : n ∈ (linesI is).take i := by
            rcases List.mem_append.mp hn with h | h
            · exact h
            · exact absurd (List.mem_singleton.mp h) e
          obtain ⟨g1, g2, g3⟩ := hq' n hn'
          refine ⟨g1, g2, ?_⟩
          rw [upd_ne g2]
          exact sB _ _ g3
    · rintro H2 ⟨s2, qa, hc2, hq2⟩
      rw [List.length_map, List.take_length] at hc2 hq2
      have nHc : H c = none := none_of s1 nc
      have s12 := s1.trans s2
      refine ⟨_, rfl, (by show 1 ≤ sizeLine; decide), fun l1 n1 => ⟨(by show 1 ≤ sizeLine; decide), fun l2 n2 => ⟨_, rfl, _, _, rfl, rfl, l2, ((m : Nat) : Int) - 1, _, rfl, rfl, upd_same, by omega, by omega, by show 1 * _ ≤ _; omega, fun l3 n3 => ?_⟩⟩⟩
      rw [show (((m : Nat) : Int) - 1).toNat = m - 1 by omega, LI_zero]
      have sA := same_put (o := .lst [.int 1]) n1
      have sB := same_put (o := .lst [.int 0]) n2
      have sC := same_put (o := .lst (LI (m - 1) fun _ => 0)) n3
      refine ⟨l1, l3, _, _, rfl, rfl, sC _ _ (sB _ _ upd_same), upd_same, by rw [LI_len]; show 1 + _ ≤ _; omega, fun l4 n4 => ?_⟩
      rw [show [V.int 1] ++ (LI (m - 1) fun _ => 0) = LI m one0 from LI_one m m0]
      have sD := ((sA.trans sB).trans sC).trans (same_put (o := .lst (LI m one0)) n4)
      refine ⟨x, l4, is, m, 1, one0, rfl, hp.same (s12.trans sD), hps, .inl (.inl upd_same), m0, m1, fun cc _ => ?_, by omega, hB.2.1, hB.2.2, hB.1, fun H3 lc us s3 nlc hlc hda => ?_⟩
      · unfold one0
        split <;> decide
      have s23 := sD.trans s3
      have hc3 := s23 _ _ hc2
      have nlcc : lc ≠ c := fun e => by
        rw [e, sD _ _ hc2] at nlc
        cases nlc
      have hda3 : DaAll K (but H3 c) us ((Its.cols m is one0).map (colD m)) := hda.mono (newer_but (sD _ _ hc2))
      have hcl : (Its.cols m is one0).length = Its.nl is := Its.cols_len m is one0
      have hus : us.length = Its.nl is := by
        have z := daAll_len hda
        rw [List.length_map, hcl] at z
        exact z
      refine ⟨lc, rfl, ⟨us, .inl (.inl hlc)⟩, for_list (K := K) (a := lc) (xs := us) (fun i σ' H' => ∃ (y2 y4 : Option V) (qa : Str → Addr), σ' = [some x, some (.int (m : Nat)), y2, some (.ref c), y4, none, none] ∧ Same H H' ∧ H' lc = some (.lst us) ∧ DaAll K (but H' c) us ((Its.cols m is one0).map (colD m)) ∧
          H' c = some (.dK (mapD (linesI is) fun n => .ref (qa n))) ∧ ∀ n ∈ linesI is, H (qa n) = none ∧ qa n ≠ c ∧ H' (qa n) = some (.lst (LI m fun cl => colS n cl ((Its.cols m is one0).take i))))
        ⟨none, none, qa, rfl, s12.trans s23, hlc, hda3, hc3, fun n hn => ⟨none_of s1 (hq2 n hn).1, (hq2 n hn).2.1, by rw [List.take_zero]; exact s23 _ _ (hq2 n hn).2.2⟩⟩ (fun i σ' H' _ ⟨_, _, _, _, _, e, _⟩ => .inl (.inl e)) ?_ ?_⟩
      · rintro i x' σ' H' hi ⟨y2, y4, qa, rfl, s', hlc', hda', hc', hq'⟩
        obtain ⟨d, hd', hx'⟩ := daAll_at hda' hi
        rw [List.getElem?_map] at hd'
        obtain ⟨pc, hpc, rfl⟩ := Option.map_eq_some_iff.mp hd'
        obtain ⟨T, qm, rfl, hT, hqm⟩ := da_col hx'
        have hnm : pc.1 ∈ linesI is := by
          rw [lines_mem, ← Its.cols_nm m 1 is one0]
          exact List.mem_map_of_mem (List.mem_of_getElem? hpc)
        obtain ⟨g1, g2, g3⟩ := hq' _ hnm
        refine ⟨T, _, rfl, seqT_mono but_in hT, rfl, _, _, rfl, _, _, rfl, rfl, ?_⟩
        have dg : DGet H' c (V.str pc.1) (some (.ref (qa pc.1))) := by
          have z := DGet.k (k := .inr pc.1) hc'
          rw [mapD_val hnm] at z
          exact z
        refine ⟨_, rfl, _, rfl, c, .ref (qa pc.1), rfl, dg, _, rfl, qa pc.1, qm, _, _, rfl, .inl (.inl g3), but_in.seq hqm, fun D2 nD2 => ?_⟩
        have hsnoc : ∀ k : Nat, (LI k fun cl => colS pc.1 cl ((Its.cols m is one0).take (i + 1))) ++ [V.int (colS pc.1 k ((Its.cols m is one0).take (i + 1)))] = LI (k + 1) fun cl => colS pc.1 cl ((Its.cols m is one0).take (i + 1)) := fun k => LI_succ.symm
        refine lc_it (walk_zip (K := K) (a := qa pc.1) (b := qm) (n := m) (by rw [LI_len, LI_len, Nat.min_self])) (fun k H4 => Same H' H4 ∧ H4 D2 = some (.lst (LI k fun cl => colS pc.1 cl ((Its.cols m is one0).take (i + 1))))) ⟨same_put nD2, upd_same⟩ (fun k H4 _ ⟨s4, _⟩ => ⟨s4.seq (.inl (.inl g3)), s4.seq (but_in.seq hqm)⟩) ?_ ?_
        · rintro k v H4 H5 hk ⟨s4, eD⟩ ⟨T2, u1, u2, rfl, nT2, rfl, e1, e2⟩
          dsimp only at e1 e2
          rw [LI_get hk] at e1 e2
          cases e1
          cases e2
          have sT := same_put (o := .tup [.int (colS pc.1 k ((Its.cols m is one0).take i)), .int (pc.2 k)]) nT2
          refine ⟨T2, _, rfl, .inl (.inl upd_same), rfl, _, _, rfl, _, _, rfl, rfl, rfl, ?_⟩
          refine ⟨_, rfl, _, rfl, _, _, rfl, rfl, _, sT _ _ eD, by rw [LI_len]; omega, fun b u e => ?_, ?_⟩
          · rw [upd_ne (ne_of_none e nD2)]
            exact sT _ _ (s4 _ _ e)
          · rw [upd_same, ← hsnoc k, colS_take hpc, if_pos rfl]
        · rintro H4 ⟨s4, eD⟩
          refine ⟨_, rfl, _, rfl, c, _, rfl, DPut.k (k := .inr pc.1) (s4 _ _ hc') (by rw [mapD_len]; omega), ?_⟩
          have nD2c : D2 ≠ c := fun e => by
            rw [e, hc'] at nD2
            cases nD2
          have bu : Bu c H' (upd H4 c (.dK (putK (mapD (linesI is) fun n => .ref (qa n)) (.inr pc.1) (.ref D2)))) := (Bu.of s4).trans Bu.put
          refine ⟨_, _, fun n => if n = pc.1 then D2 else qa n, rfl, fun b u e => ?_, ?_, hda'.mono (but_bu bu), ?_, fun n hn => ?_⟩
          · exact bu _ _ (ne_of_none e nHc) (s' _ _ e)
          · exact bu _ _ nlcc hlc'
          · rw [upd_same, mapD_put hnm]
            congr 2
            unfold mapD
            refine List.map_congr_left fun n _ => ?_
            dsimp only
            by_cases e : n = pc.1
            · rw [if_pos e, if_pos e]
            · rw [if_neg e, if_neg e]
          · dsimp only
            by_cases e : n = pc.1
            · rw [if_pos e]
              refine ⟨none_of s' nD2, nD2c, ?_⟩
              rw [upd_ne nD2c, eD, e]
            · rw [if_neg e]
              obtain ⟨f1, f2, f3⟩ := hq' n hn
              refine ⟨f1, f2, ?_⟩
              rw [upd_ne f2, s4 _ _ f3]
              congr 2
              exact LI_congr fun cl _ => by rw [colS_take hpc, if_neg fun z => e z.symm]; omega
      · rintro σ' H' ⟨y2, y4, qa, rfl, s', hlc', hda', hc', hq'⟩
        refine ⟨_, rfl, q H' c qa s' nHc hc' fun n hn => ?_⟩
        obtain ⟨f1, f2, f3⟩ := hq' n hn
        refine ⟨f1, ?_⟩
        rw [f3, hus, ← hcl, List.take_length]
        congr 2
        exact LI_congr fun cl hcl' => cols_one m0 hcl' hps
theorem ok_cc {B dep : Nat} (D : Def K mg "class_counts" (topS 45) ["program", "modulus"]) (C_lines_of : CalN CX0 P w K mg base (dep + 2) "lines_of" ["program"] (spLinesG K B dep)) (C_line_columns : CalN CX0 P w K mg base (dep + 3) "line_columns" ["items", "starts"] (spCols K B dep)) (nb : NB mg)
    (hB : 17 + (dep + 1) * B ≤ 900000 ∧ 0 < B ∧ B ≤ 3900) : CalN CX0 P w K mg base (dep + 4) "class_counts" ["program", "modulus"] (spCC K B dep) :=
  (ok_ccn D C_lines_of C_line_columns nb hB).imp fun vs H Q E ⟨x, is, m, e, hp, hps, h64, m0, m1, q⟩ => ⟨x, is, m, e, hp, Its.ps_nn is hps, by omega, by
    have z := uniq_len ((Its.sp 1 is).map (·.1)) []
    rw [List.length_map, Its.sp_len] at z
    have z0 : ([] : List Str).length = 0 := rfl
    omega, m0, m1, q⟩
end
end Ev

/-! ## uneven_pair, is_even -/
namespace Ev
open PySem PySem.Spec PyProof.Rows L2
/-- all classes alike, for all lines -/
def EvenI (is : List It) (m : Nat) : Prop := ∀ n ∈ linesI is, ∀ a b, a < m → b < m → clF is m n a = clF is m n b
def spUP (K : PySem.W.Frag) (B dep : Nat) : Sp := fun vs H Q _ => ∃ (x : V) (is : List It) (m : Nat), vs = [x, .int (m : Nat)] ∧ Prg K B dep H x is ∧ Its.ps is ∧ Its.nl is < 64 ∧ 0 < m ∧ m ≤ 100000 ∧
  ∀ H' u, Same H H' → (EvenI is m ∧ u = .non) ∨ (∃ (n : Str) (a b : Nat), n ∈ linesI is ∧ a < m ∧ b < m ∧ clF is m n a < clF is m n b ∧ Da K H' u (.tuple [.str n, .int (a : Nat), .int (b : Nat)])) → Q u H'
def spEv (K : PySem.W.Frag) (B dep : Nat) : Sp := fun vs H Q _ => ∃ (x : V) (is : List It) (m : Nat), vs = [x, .int (m : Nat)] ∧ Prg K B dep H x is ∧ Its.ps is ∧ Its.nl is < 64 ∧ 0 < m ∧ m ≤ 100000 ∧
  ∀ H' (c : Bool), Same H H' → (c = true ↔ EvenI is m) → Q (.bl c) H'
theorem scUp : FnScope ["program", "modulus", "counts", "name", "column", "least", "most"] ["program", "modulus"] (defScope (topS 44)) := ⟨rfl, rfl, rfl, by decide +kernel, rfl, by decide +kernel, by decide +kernel⟩
theorem LI_flat (m : Nat) (f : Nat → Int) : (LI m f).all flatV = true := by
  rw [LI_ints, List.all_map]
  exact List.all_eq_true.mpr fun x _ => rfl
theorem first_at {f : Nat → Int} {v : Int} {m : Nat} (h : v ∈ (List.range m).map f) : ∃ j, j < m ∧ f j = v ∧ ∀ k, k < j → f k ≠ v := by
  obtain ⟨c, hc, rfl⟩ := List.mem_map.mp h
  have hc := List.mem_range.mp hc
  have go : ∀ c, c < m → ∃ j, j < m ∧ f j = f c ∧ ∀ k, k < j → f k ≠ f c := fun c => by
    induction c using Nat.strongRecOn with
    | ind c ih =>
      intro hc
      by_cases e : ∃ k, k < c ∧ f k = f c
      · obtain ⟨k, hk, ek⟩ := e
        obtain ⟨j, h1, h2, h3⟩ := ih k hk (by omega)
        exact ⟨j, h1, h2.trans ek, fun i hi => by rw [← ek]; exact h3 i hi⟩
      · exact ⟨c, hc, rfl, fun k hk e2 => e ⟨k, hk, e2⟩⟩
  exact go c hc
section
variable {P : Program} {w : World} {K : PySem.W.Frag} {mg : Str → Option Value} {base : Heap}
theorem ok_up {B dep : Nat} (D : Def K mg "uneven_pair" (topS 44) ["program", "modulus"]) (C_lines_of : CalN CX0 P w K mg base (dep + 2) "lines_of" ["program"] (spLines K B dep)) (C_class_counts : CalN CX0 P w K mg base (dep + 4) "class_counts" ["program", "modulus"] (spCC K B dep)) (nb : NB mg) :
    CalN CX0 P w K mg base (dep + 5) "uneven_pair" ["program", "modulus"] (spUP K B dep) := by
  refine D.okO scUp (fun vs H Q E h => ?_) (fun fa cdv A outer sh H vs Q E hr h => ?_)
  · obtain ⟨x, is, m, rfl, _⟩ := h
    rfl
  · obtain ⟨x, is, m, rfl, hp, hps, h64, m0, m1, q⟩ := h
    have hu : (A.deeper (envOfC "uneven_pair" (defScope (topS 44)) sh.heap.objs.size fa cdv)).units + 1 < cLine := hu_of hr
    refine ⟨_, (pss_cons (ps_set (i := 2) scUp.nd rfl (.inl rfl) (pcallO C_class_counts (hr.mono (by omega)) (by rfl) (pa_cons (pv 0) (pa_cons (pv 1) pa_nil))))
      (pss_cons (ps_for PassesOwn.never rfl (pi_tup (pcallO C_lines_of (hr.mono (by omega)) (by rfl) (pa_cons (pv 0) pa_nil))) (pg_name (i := 3) scUp.nd rfl (Or.inl rfl))
        (pss_cons (ps_set (i := 4) scUp.nd rfl (.inl rfl) (pe_dget hu (pv 2) (pv 3) (fun _ _ => rfl)))
        (pss_cons (ps_par (i := 5) (j := 6) rfl scUp.nd rfl rfl (by decide) rfl rfl (pa_cons (pe_callB (cr_min rfl) (by rfl) nb.at (by decide +kernel) (pa_cons (pv 4) pa_nil)) (pa_cons (pe_callB (cr_max rfl) (by rfl) nb.at (by decide +kernel) (pa_cons (pv 4) pa_nil)) pa_nil)) (by rfl))
        (pss_one (ps_if (pt_cmpR op_lt (pv 5) (pv 6) (nomark _))
          (pss_one (ps_ret (pe_tup (pa_cons (pv 3) (pa_cons (pe_bm PySem.F.plainAttrs_list PySem.F.slot_list_index PySem.F.type_list_index mt_index (pv 4) (pa_cons (pv 5) pa_nil)) (pa_cons (pe_bm PySem.F.plainAttrs_list PySem.F.slot_list_index PySem.F.type_list_index mt_index (pv 4) (pa_cons (pv 6) pa_nil)) pa_nil))))))
          pss_nil)))))
      (pss_one (ps_ret pe_non)))), ?_⟩
    have y := sizeLine_eq
    refine ⟨_, rfl, _, rfl, x, is, m, rfl, hp, hps, h64, m0, m1, fun H1 c qa s1 nc hc hq => ?_⟩
    refine ⟨_, rfl, x, is, rfl, hp.same s1, h64, fun H2 a s2 ha => ⟨a, rfl, ⟨_, .inl (.inl ha)⟩, ?_⟩⟩
    have s12 := s1.trans s2
    refine for_tup (K := K) (xs := (linesI is).map V.str) (fun i σ' H' => ∃ y3 y4 y5 y6 : Option V, σ' = [some x, some (.int (m : Nat)), some (.ref c), y3, y4, y5, y6] ∧ Same H2 H' ∧ ∀ n ∈ (linesI is).take i, ∀ a b, a < m → b < m → clF is m n a = clF is m n b)
      ⟨_, _, _, _, rfl, Same.rfl', fun n hn => by rw [List.take_zero] at hn; cases hn⟩ (fun i σ' H' _ ⟨_, _, _, _, _, s', _⟩ => .inl (.inl (s' _ _ ha))) ?_ ?_
    · rintro i x' σ' H' hi ⟨y3, y4, y5, y6, rfl, s', hev⟩
      rw [List.getElem?_map] at hi
      obtain ⟨n, hn, rfl⟩ := Option.map_eq_some_iff.mp hi
      have hmem := List.mem_of_getElem? hn
      obtain ⟨_, hql⟩ := hq n hmem
      have hql' : SqL K H' (qa n) (((List.range m).map (clF is m n)).map V.int) := by
        rw [← LI_ints]
        exact .inl (.inl (s' _ _ (s2 _ _ hql)))
      have dg : DGet H' c (V.str n) (some (.ref (qa n))) := by
        have z := DGet.k (k := .inr n) (s' _ _ (s2 _ _ hc))
        rw [mapD_val hmem] at z
        exact z
      have hlen : 0 < ((List.range m).map (clF is m n)).length := by
        rw [List.length_map, List.length_range]
        exact m0
      refine ⟨_, rfl, _, rfl, c, .ref (qa n), rfl, dg, _, rfl, qa n, _, rfl, hql', hlen, fun lo lo1 lo2 => ⟨_, rfl, qa n, _, rfl, hql', hlen, fun hi' hi1 hi2 => ⟨_, _, rfl, ?_⟩⟩⟩
      refine ⟨_, rfl, _, rfl, _, _, rfl, rfl, _, rfl, ite2 (fun e => ?_) (fun e => ?_)⟩
      · have hlt : lo < hi' := of_decide_eq_true e
        obtain ⟨j1, k1, e1, f1⟩ := first_at lo1
        obtain ⟨j2, k2, e2, f2⟩ := first_at hi1
        have hfl : (((List.range m).map (clF is m n)).map V.int).all flatV = true := by
          rw [← LI_ints]
          exact LI_flat _ _
        have at_ : ∀ k, k < m → (((List.range m).map (clF is m n)).map V.int)[k]? = some (.int (clF is m n k)) := fun k hk => by
          rw [← LI_ints]
          exact LI_get hk
        have no_ : ∀ (j : Nat) (v : Int), j < m → (∀ k, k < j → clF is m n k ≠ v) → ∀ (k : Nat) (z' : V), k < j → (((List.range m).map (clF is m n)).map V.int)[k]? = some z' → eqV z' (.int v) = false := fun j v hj hf k z' hk hz => by
          rw [at_ k (by omega)] at hz
          cases hz
          exact beq_eq_false_iff_ne.mpr (hf k hk)
        refine ⟨_, rfl, _, rfl, .inl ⟨rfl, _, hql'⟩, _, rfl, qa n, _, .int lo, j1, .int lo, rfl, rfl, hql', rfl, hfl, by rw [at_ j1 k1, e1], beq_self_eq_true lo, no_ j1 lo k1 f1, ?_⟩
        refine ⟨_, rfl, .inl ⟨rfl, _, hql'⟩, _, rfl, qa n, _, .int hi', j2, .int hi', rfl, rfl, hql', rfl, hfl, by rw [at_ j2 k2, e2], beq_self_eq_true hi', no_ j2 hi' k2 f2, (by show 3 ≤ sizeLine; decide), fun t nt => ?_⟩
        refine q _ _ (s12.trans (s'.trans (same_put nt))) (.inr ⟨n, j1, j2, hmem, k1, k2, by omega, ?_⟩)
        exact .tup (xs := [.str n, .int (j1 : Nat), .int (j2 : Nat)]) (.inl (.inl upd_same)) (.cons (.str _) (.cons (.int _) (.cons (.int _) .nil)))
      · have hge : ¬ lo < hi' := of_decide_eq_false (Bool.eq_false_iff.mpr e)
        refine ⟨_, _, _, _, rfl, s', fun z hz a b ha hb => ?_⟩
        rw [List.take_add_one, hn] at hz
        rcases List.mem_append.mp hz with h | h
        · exact hev z h a b ha hb
        · have ez : z = n := List.mem_singleton.mp h
          subst ez
          have ma : ∀ k, k < m → clF is m z k ∈ (List.range m).map (clF is m z) := fun k hk => List.mem_map_of_mem (List.mem_range.mpr hk)
          have := lo2 _ (ma a ha)
          have := lo2 _ (ma b hb)
          have := hi2 _ (ma a ha)
          have := hi2 _ (ma b hb)
          omega
    · rintro σ' H' ⟨y3, y4, y5, y6, rfl, s', hev⟩
      rw [List.length_map, List.take_length] at hev
      exact q H' .non (s12.trans s') (.inl ⟨hev, rfl⟩)
end
end Ev

/-! ## is_even -/
namespace Ev
open PySem PySem.Spec PyProof.Rows L2
theorem scIe : FnScope ["program", "modulus"] ["program", "modulus"] (defScope (topS 43)) := ⟨rfl, rfl, rfl, by decide +kernel, rfl, by decide +kernel, by decide +kernel⟩
section
variable {P : Program} {w : World} {K : PySem.W.Frag} {mg : Str → Option Value} {base : Heap}
theorem ok_ev {B dep : Nat} (D : Def K mg "is_even" (topS 43) ["program", "modulus"]) (C_uneven_pair : CalN CX0 P w K mg base (dep + 5) "uneven_pair" ["program", "modulus"] (spUP K B dep)) : CalN CX0 P w K mg base (dep + 6) "is_even" ["program", "modulus"] (spEv K B dep) := by
  refine D.okO scIe (fun vs H Q E h => ?_) (fun fa cdv A outer sh H vs Q E hr h => ?_)
  · obtain ⟨x, is, m, rfl, _⟩ := h
    rfl
  · obtain ⟨x, is, m, rfl, hp, hps, h64, m0, m1, q⟩ := h
    refine ⟨_, (pss_one (ps_ret (pe_cmp (pc_isN (pcallO C_uneven_pair (hr.mono (by omega)) (by rfl) (pa_cons (pv 0) (pa_cons (pv 1) pa_nil)))) rfl))), ?_⟩
    refine ⟨_, rfl, _, rfl, x, is, m, rfl, hp, hps, h64, m0, m1, fun H1 u s1 h => ?_⟩
    refine q H1 _ s1 ⟨fun e => ?_, fun e => ?_⟩
    · rcases h with ⟨h1, _⟩ | ⟨n, a, b, _, _, _, _, hd⟩
      · exact h1
      · have e := of_decide_eq_true e
        rw [e] at hd
        cases hd
    · rcases h with ⟨_, rfl⟩ | ⟨n, a, b, hn, ha, hb, hlt, _⟩
      · rfl
      · exact absurd (e n hn a b ha hb) (by omega)
end
end Ev

/-! ## shared_divisor, as long as it is not too large -/
namespace Ev
open PySem PySem.Spec PyProof.Rows L2
def spSd (K : PySem.W.Frag) (B dep : Nat) : Sp := fun vs H Q _ => ∃ (x : V) (is : List It) (p : Nat), vs = [x, .int (p : Nat)] ∧ Prg K B dep H x is ∧ Its.ps is ∧ Nat.gcd p (Its.w is).length ≤ 2000 ∧ ∀ H', Same H H' → Q (.int (Nat.gcd p (Its.w is).length : Nat)) H'
theorem scSd : FnScope ["program", "period", "divisor"] ["program", "period"] (defScope (topS 63)) := ⟨rfl, rfl, rfl, by decide +kernel, rfl, by decide +kernel, by decide +kernel⟩
section
variable {P : Program} {w : World} {K : PySem.W.Frag} {mg : Str → Option Value} {base : Heap}
theorem ok_sd {B dep : Nat} {tG : Tok} (D : Def K mg "shared_divisor" (topS 63) ["program", "period"]) (C_length_programs : CalN CX0 P w K mg base (dep + 2) "length_programs" ["program"] (spLen K B dep)) (C_common_divisor : CalN CX0 P w K mg base 1 "common_divisor" ["one", "other"] spGcd)
    (g_GREATEST_DIVISOR : mg "GREATEST_DIVISOR" = some (.int 2000 tG)) : CalN CX0 P w K mg base (dep + 3) "shared_divisor" ["program", "period"] (spSd K B dep) := by
  refine D.okO scSd (fun vs H Q E h => ?_) (fun fa cdv A outer sh H vs Q E hr h => ?_)
  · obtain ⟨x, is, p, rfl, _⟩ := h
    rfl
  · obtain ⟨x, is, p, rfl, hp, hps, hg, q⟩ := h
    refine ⟨_, (pss_cons (ps_set (i := 2) scSd.nd rfl (.inl rfl) (pcallO C_common_divisor (hr.mono (by omega)) (by rfl) (pa_cons (pv 1) (pa_cons (pcallO C_length_programs (hr.mono (by omega)) (by rfl) (pa_cons (pv 0) pa_nil)) pa_nil))))
      (pss_cons (ps_if (pt_cmpR op_gt (pv 2) (pe_glob (v := .int 2000) rfl g_GREATEST_DIVISOR ⟨_, rfl⟩) (nomark _))
        (pss_one ps_dead)
        pss_nil)
      (pss_one (ps_ret (pv 2))))), ?_⟩
    refine ⟨_, rfl, _, rfl, x, is, rfl, hp, fun H1 s1 => ?_⟩
    rw [len_w (Its.ps_nn is hps)]
    refine ⟨p, (Its.w is).length, rfl, _, rfl, _, _, rfl, rfl, _, rfl, ite2 (fun e => ?_) (fun e => ?_)⟩
    · have e := of_decide_eq_true e
      omega
    · exact ⟨_, rfl, q H1 s1⟩
end
end Ev

/-! ## is_safe, as long as the divisor is not too large -/
namespace Ev
open PySem PySem.Spec PyProof.Rows L2
def spIsf (K : PySem.W.Frag) (B dep : Nat) : Sp := fun vs H Q _ => ∃ (x : V) (is : List It) (p : Nat), vs = [x, .int (p : Nat)] ∧ Prg K B dep H x is ∧ Its.ps is ∧ Its.nl is < 64 ∧ 1 ≤ p ∧ Nat.gcd p (Its.w is).length ≤ 2000 ∧
  ∀ H' (c : Bool), Same H H' → (c = true ↔ EvenI is (Nat.gcd p (Its.w is).length)) → Q (.bl c) H'
theorem scIsf : FnScope ["program", "period"] ["program", "period"] (defScope (topS 58)) := ⟨rfl, rfl, rfl, by decide +kernel, rfl, by decide +kernel, by decide +kernel⟩
section
variable {P : Program} {w : World} {K : PySem.W.Frag} {mg : Str → Option Value} {base : Heap}
theorem ok_isf {B dep : Nat} (D : Def K mg "is_safe" (topS 58) ["program", "period"]) (C_shared_divisor : CalN CX0 P w K mg base (dep + 3) "shared_divisor" ["program", "period"] (spSd K B dep)) (C_is_even : CalN CX0 P w K mg base (dep + 6) "is_even" ["program", "modulus"] (spEv K B dep)) :
    CalN CX0 P w K mg base (dep + 7) "is_safe" ["program", "period"] (spIsf K B dep) := by
  refine D.okO scIsf (fun vs H Q E h => ?_) (fun fa cdv A outer sh H vs Q E hr h => ?_)
  · obtain ⟨x, is, p, rfl, _⟩ := h
    rfl
  · obtain ⟨x, is, p, rfl, hp, hps, h64, p1, hg, q⟩ := h
    refine ⟨_, (pss_one (ps_ret (pcallO C_is_even (hr.mono (by omega)) (by rfl) (pa_cons (pv 0) (pa_cons (pcallO C_shared_divisor (hr.mono (by omega)) (by rfl) (pa_cons (pv 0) (pa_cons (pv 1) pa_nil))) pa_nil))))), ?_⟩
    refine ⟨_, rfl, _, rfl, _, rfl, x, is, p, rfl, hp, hps, hg, fun H1 s1 => ⟨x, is, _, rfl, hp.same s1, hps, h64, Nat.gcd_pos_of_pos_left _ p1, by omega, fun H2 c s2 hc => q H2 c (s1.trans s2) hc⟩⟩
end
end Ev

/-! ## Bench.safe, as long as all goes well -/
namespace Ev
open PySem PySem.Spec PyProof.Rows L2
def spBS (K : PySem.W.Frag) (C : Addr) : Sp := fun vs H Q _ => ∃ (b e : Addr) (is : List It) (hs : List (List It)) (p : Nat), vs = [.ref b, .int (p : Nat)] ∧ BnAt K C H b e is hs ∧ 1 ≤ p ∧ Nat.gcd p (Its.w is).length ≤ 2000 ∧
  ∀ H' (c : Bool), Same H H' → (c = true ↔ EvenI is (Nat.gcd p (Its.w is).length)) → Q (.bl c) H'
theorem okp_b70 : ∀ (n : Nat) (i : It), Okp 64 n i → Okp 70 n i
  | n, .line x t, h => by
    have h := okp_line.mp h
    exact okp_line.mpr ⟨h.1, by omega⟩
  | 0, .loop r js, h => h.elim
  | n + 1, .loop r js, h => by
    obtain ⟨h0, h1, h2⟩ : 0 ≤ r ∧ r < (2 ^ 64 : Nat) ∧ ∀ i ∈ js, Okp 64 n i := h
    exact ⟨h0, by omega, fun i hi => okp_b70 n i (h2 i hi)⟩
theorem Vp.prg70 {K : PySem.W.Frag} {H : Hp} {x : V} {is : List It} (h : Vp is) (hd : Da K H x (pgD is)) : Prg K 70 5 H x is := ⟨hd, fun i hi => okp_b70 5 i (vi_okp 5 i (h.vi i hi)), (h.prg hd).few⟩
theorem scBS : FnScope ["self", "period"] ["self", "period"] (defScope (sB 11)) := ⟨rfl, rfl, rfl, by decide +kernel, rfl, by decide +kernel, by decide +kernel⟩
section
variable {P : Program} {w : World} {K : PySem.W.Frag} {mg : Str → Option Value} {base : Heap} {C : Addr}
theorem ok_bS {k : Nat} {fL : Addr} {fdL : FuncData} (T : BTx K mg C) (GL : FnOk P w K mg base CX0 k fL fdL ["program", "period"] (spIsf K 70 5)) (bL : Binds K fdL ["program", "period"] []) (mL : mg "is_safe" = some (.ref fL)) (vL : PySem.W.keepIn K (.ref fL) = true) (D : MDef K C "safe" "Bench.safe" (sB 11) ["self", "period"]) :
    MCalB P w K mg base (k + 1) C "safe" "Bench.safe" (sB 11) ["period"] (spBS K C) := by
  refine D.okMB scBS (fun vs H Q E h => ?_) (fun f cdv A outer s H vs Q E hr h => ?_)
  · obtain ⟨b, e, is, hs, p, rfl, _⟩ := h
    rfl
  · obtain ⟨b, e, is, hs, p, rfl, hb, hp1, hg, q⟩ := h
    obtain ⟨dx, cur, h1, h2⟩ := hb.ob
    refine ⟨_, pss_one (ps_ret (pe_call GL hr (by rfl) mL vL bL .nil pass0 (pa_cons (pe_fld (pv 0) rfl) (pa_cons (pv 1) pa_nil)))), ?_⟩
    exact ⟨_, rfl, b, C, dx, _, _, rfl, h1, T.cl, T.nC, flB_cur _ _, _, rfl, cur, is, p, rfl, hb.vp.prg70 h2, hb.vp.ps, hb.vp.nl, hp1, hg, q⟩
end
end Ev

/-! ## Items as drawn (family C) -/
namespace Ev
open PySem PySem.Spec PyProof.Rows L2
def poolC : List Str := ["a", "b", "a", "c", "idle", "line", "loop", "zzzzzzzz"]
/-- an item as drawn -/
def Wc (T R : Int) : Nat → It → Prop
  | _, .line x t => x ∈ poolC ∧ 1 ≤ t ∧ t ≤ T
  | 0, .loop _ _ => False
  | n + 1, .loop r is => 1 ≤ r ∧ r ≤ R ∧ 1 ≤ is.length ∧ is.length ≤ 2 ∧ ∀ i ∈ is, Wc T R n i
theorem wc_line {T R : Int} {n : Nat} {x : Str} {t : Int} : Wc T R n (.line x t) ↔ x ∈ poolC ∧ 1 ≤ t ∧ t ≤ T := by
  cases n <;> exact Iff.rfl
theorem ni_mem : ∀ {is : List It} {i : It}, i ∈ is → It.ni i ≤ Its.ni is
  | j :: is, i, h => by
    rw [Its.ni]
    rcases List.mem_cons.mp h with rfl | h
    · exact Nat.le_add_right _ _
    · exact Nat.le_trans (ni_mem h) (Nat.le_add_left _ _)
theorem It.ni_pos : ∀ i : It, 1 ≤ It.ni i
  | .line _ _ => by rw [It.ni]; exact Nat.le_refl _
  | .loop _ _ => by rw [It.ni]; exact Nat.le_add_right _ _
theorem ni_len : ∀ is : List It, is.length ≤ Its.ni is
  | [] => Nat.zero_le _
  | i :: is => by
    rw [Its.ni, List.length_cons]
    have := It.ni_pos i
    have := ni_len is
    omega
theorem ni_sum : ∀ is : List It, (is.map fun i => ((It.ni i : Nat) : Int)).sum = ((Its.ni is : Nat) : Int)
  | [] => by rw [Its.ni]; rfl
  | i :: is => by
    rw [Its.ni, List.map_cons, List.sum_cons, ni_sum is]
    omega
/-! ### items as drawn -/
theorem wc_ps {T R : Int} : ∀ (n : Nat) (i : It), Wc T R n i → It.ps i
  | n, .line x t, h => by
    rw [It.ps]
    exact (wc_line.mp h).2.1
  | 0, .loop r is, h => h.elim
  | n + 1, .loop r is, h => by
    obtain ⟨h1, h2, h3, h4, h5⟩ : 1 ≤ r ∧ r ≤ R ∧ 1 ≤ is.length ∧ is.length ≤ 2 ∧ ∀ i ∈ is, Wc T R n i := h
    rw [It.ps]
    exact ⟨h1, (fun e => by rw [e] at h3; exact absurd h3 (by decide)), ps_of fun i hi => wc_ps n i (h5 i hi)⟩
theorem wc_okp {T R : Int} {B : Nat} (hT : T < (2 ^ B : Nat)) (hR : R < (2 ^ B : Nat)) : ∀ (n : Nat) (i : It), Wc T R n i → Okp B n i
  | n, .line x t, h => by
    have h := wc_line.mp h
    exact okp_line.mpr ⟨by omega, by omega⟩
  | 0, .loop r is, h => h.elim
  | n + 1, .loop r is, h => by
    obtain ⟨h1, h2, h3, h4, h5⟩ : 1 ≤ r ∧ r ≤ R ∧ 1 ≤ is.length ∧ is.length ≤ 2 ∧ ∀ i ∈ is, Wc T R n i := h
    exact ⟨by omega, by omega, fun i hi => wc_okp hT hR n i (h5 i hi)⟩
theorem poolC_nm : poolC.all nmB = true := by decide +kernel
theorem wc_nm {T R : Int} (hT : T < (2 ^ 64 : Nat)) (hR : R < (2 ^ 64 : Nat)) : ∀ (n : Nat) (i : It), Wc T R n i → It.nm i
  | n, .line x t, h => by
    have h := wc_line.mp h
    rw [It.nm]
    exact ⟨List.all_eq_true.mp poolC_nm x h.1, by omega⟩
  | 0, .loop r is, h => h.elim
  | n + 1, .loop r is, h => by
    obtain ⟨h1, h2, h3, h4, h5⟩ : 1 ≤ r ∧ r ≤ R ∧ 1 ≤ is.length ∧ is.length ≤ 2 ∧ ∀ i ∈ is, Wc T R n i := h
    rw [It.nm]
    exact ⟨by omega, nm_of fun i hi => wc_nm hT hR n i (h5 i hi)⟩
theorem wc_up {T R T' R' : Int} (hT : T ≤ T') (hR : R ≤ R') : ∀ (d e : Nat) (i : It), d ≤ e → Wc T R d i → Wc T' R' e i
  | d, e, .line x t, _, h => by
    have h := wc_line.mp h
    exact wc_line.mpr ⟨h.1, h.2.1, by omega⟩
  | 0, _, .loop _ _, _, h => h.elim
  | d + 1, 0, .loop _ _, hl, _ => absurd hl (Nat.not_succ_le_zero d)
  | d + 1, e + 1, .loop r is, hl, h => by
    obtain ⟨h1, h2, h3, h4, h5⟩ : 1 ≤ r ∧ r ≤ R ∧ 1 ≤ is.length ∧ is.length ≤ 2 ∧ ∀ i ∈ is, Wc T R d i := h
    exact ⟨h1, by omega, h3, h4, fun i hi => wc_up hT hR d e i (by omega) (h5 i hi)⟩
def itC : Nat → Nat
  | 0 => 1
  | n + 1 => 1 + 2 * itC n
theorem wc_ni {T R : Int} : ∀ (n : Nat) (i : It), Wc T R n i → It.ni i ≤ itC n
  | n, .line x t, _ => by
    rw [It.ni]
    cases n
    · exact Nat.le_refl _
    · show 1 ≤ 1 + _
      omega
  | 0, .loop r is, h => h.elim
  | n + 1, .loop r is, h => by
    obtain ⟨h1, h2, h3, h4, h5⟩ : 1 ≤ r ∧ r ≤ R ∧ 1 ≤ is.length ∧ is.length ≤ 2 ∧ ∀ i ∈ is, Wc T R n i := h
    rw [It.ni]
    have z := ni_mul fun i hi => wc_ni n i (h5 i hi)
    have z2 : is.length * itC n ≤ 2 * itC n := Nat.mul_le_mul_right _ h4
    show 1 + Its.ni is ≤ 1 + 2 * itC n
    omega
theorem w_takeS {is : List It} {i : Nat} {it : It} (h : is[i]? = some it) : Its.w (is.take (i + 1)) = Its.w (is.take i) ++ It.w it := by
  obtain ⟨h1, h2⟩ := List.getElem?_eq_some_iff.mp h
  rw [List.take_succ_eq_append_getElem h1, h2, w_app, w_one]
theorem w_len_take (is : List It) (i : Nat) : (Its.w (is.take i)).length ≤ (Its.w is).length := by
  have e : Its.w is = Its.w (is.take i) ++ Its.w (is.drop i) := by
    rw [← w_app, List.take_append_drop]
  rw [e, List.length_append]
  exact Nat.le_add_right _ _
theorem w_mem_len {is : List It} {it : It} (h : it ∈ is) : (It.w it).length ≤ (Its.w is).length := by
  obtain ⟨i, hi⟩ := List.getElem?_of_mem h
  have a := w_len_take is (i + 1)
  rw [w_takeS hi, List.length_append] at a
  omega
theorem flat_str (n : Nat) (xs : List Str) : (List.replicate n (xs.map V.str)).flatten = ((List.replicate n xs).flatten).map V.str := by
  rw [List.map_flatten, List.map_replicate]
theorem flat_one (n : Nat) (x : V) : (List.replicate n [x]).flatten = List.replicate n x := by
  induction n with
  | zero => rfl
  | succ n ih => rw [List.replicate_succ, List.flatten_cons, ih]; rfl
theorem len_flat (n : Nat) (xs : List Str) : ((List.replicate n xs).flatten).length = xs.length * n := by
  induction n with
  | zero => rfl
  | succ n ih =>
    rw [List.replicate_succ, List.flatten_cons, List.length_append, ih, Nat.mul_succ]
    omega
theorem ni_takeC (is : List It) (k : Nat) : Its.ni (is.take k) + Its.ni (is.drop k) = Its.ni is := by
  have app : ∀ is js : List It, Its.ni (is ++ js) = Its.ni is + Its.ni js := fun is => by
    induction is with
    | nil => intro js; rw [List.nil_append, Its.ni, Nat.zero_add]
    | cons i is ih => intro js; rw [List.cons_append, Its.ni, Its.ni, ih js, Nat.add_assoc]
  rw [← app, List.take_append_drop]
theorem w_sumC : ∀ is : List It, (is.map fun i => (((It.w i).length : Nat) : Int)).sum = (((Its.w is).length : Nat) : Int)
  | [] => by rw [Its.w]; rfl
  | i :: is => by
    rw [Its.w, List.length_append, List.map_cons, List.sum_cons, w_sumC is]
    omega
end Ev

/-! ## The items from a tick on -/
namespace Ev
open PySem PySem.Spec PyProof.Rows L2
mutual
def It.frm : It → Nat → List It
  | .line x t, s => [.line x (t - (s : Nat))]
  | .loop r is, s => if s % (Its.w is).length = 0 then [.loop (r - ((s / (Its.w is).length : Nat) : Int)) is] else Its.frm is (s % (Its.w is).length) ++ [.loop (r - ((s / (Its.w is).length : Nat) : Int) - 1) is]
def Its.frm : List It → Nat → List It
  | [], _ => []
  | i :: is, s => if s < (It.w i).length then It.frm i s ++ is else Its.frm is (s - (It.w i).length)
end
theorem flat_drop (l : List Str) : ∀ q r : Nat, q ≤ r → ((List.replicate r l).flatten).drop (q * l.length) = (List.replicate (r - q) l).flatten
  | 0, r, _ => by rw [Nat.zero_mul, List.drop_zero, Nat.sub_zero]
  | q + 1, 0, h => absurd h (Nat.not_succ_le_zero q)
  | q + 1, r + 1, h => by
    rw [List.replicate_succ, List.flatten_cons, Nat.succ_mul, Nat.add_comm, ← List.drop_drop, List.drop_left, flat_drop l q r (Nat.le_of_succ_le_succ h), Nat.add_sub_add_right]
theorem flat_drop2 {l : List Str} {s r : Nat} (hl : 0 < l.length) (h : s < r * l.length) : ((List.replicate r l).flatten).drop s = l.drop (s % l.length) ++ (List.replicate (r - s / l.length - 1) l).flatten := by
  have hq : s / l.length < r := (Nat.div_lt_iff_lt_mul hl).mpr h
  have e : s = s / l.length * l.length + s % l.length := by
    rw [Nat.mul_comm]
    exact (Nat.div_add_mod s l.length).symm
  have hm := Nat.mod_lt s hl
  conv => lhs; rw [e]
  rw [← List.drop_drop, flat_drop l _ _ (Nat.le_of_lt hq)]
  obtain ⟨k, hk⟩ : ∃ k, r - s / l.length = k + 1 := ⟨r - s / l.length - 1, by omega⟩
  rw [hk, List.replicate_succ, List.flatten_cons, List.drop_append_of_le_length (Nat.le_of_lt hm), Nat.add_sub_cancel]
theorem w_loop_len {r : Int} {is : List It} : (It.w (.loop r is)).length = r.toNat * (Its.w is).length := by
  rw [It.w, len_flat, Nat.mul_comm]
mutual
theorem It.frm_w : ∀ (i : It) (s : Nat), It.ps i → s < (It.w i).length → Its.w (It.frm i s) = (It.w i).drop s
  | .line x t, s, hp, hs => by
    rw [It.w, List.length_replicate] at hs
    rw [It.frm, w_one, It.w, It.w, List.drop_replicate]
    congr 1
    omega
  | .loop r is, s, hp, hs => by
    rw [It.ps] at hp
    have hL := Its.w_pos is hp.2.1 hp.2.2
    rw [w_loop_len] at hs
    have hq : s / (Its.w is).length < r.toNat := (Nat.div_lt_iff_lt_mul hL).mpr hs
    have hd : It.w (.loop r is) = (List.replicate r.toNat (Its.w is)).flatten := by rw [It.w]
    rw [hd, flat_drop2 hL hs, It.frm]
    by_cases e : s % (Its.w is).length = 0
    · rw [if_pos e, w_one, It.w, e, List.drop_zero]
      obtain ⟨k, hk⟩ : ∃ k, r.toNat - s / (Its.w is).length = k + 1 := ⟨r.toNat - s / (Its.w is).length - 1, by omega⟩
      rw [show (r - ((s / (Its.w is).length : Nat) : Int)).toNat = k + 1 by omega, show r.toNat - s / (Its.w is).length - 1 = k by omega, List.replicate_succ, List.flatten_cons]
    · rw [if_neg e, w_app, w_one, It.w, Its.frm_w is _ hp.2.2]
      congr 3
      omega
theorem Its.frm_w : ∀ (is : List It) (s : Nat), Its.ps is → Its.w (Its.frm is s) = (Its.w is).drop s
  | [], s, _ => by
    rw [Its.frm, Its.w, List.drop_nil]
  | i :: is, s, hp => by
    rw [Its.ps] at hp
    rw [Its.frm, Its.w]
    by_cases e : s < (It.w i).length
    · rw [if_pos e, w_app, It.frm_w i s hp.1 e, List.drop_append_of_le_length (Nat.le_of_lt e)]
    · rw [if_neg e, Its.frm_w is _ hp.2, List.drop_append, show (It.w i).drop s = [] from List.drop_of_length_le (by omega), List.nil_append]
end
theorem frm_sub {t s B : Nat} {x : Int} (h : 0 ≤ x ∧ x < (2 ^ B : Nat)) (hs : s ≤ x.toNat) : 0 ≤ x - (s : Nat) ∧ x - (s : Nat) < (2 ^ B : Nat) := by
  omega
mutual
theorem It.frm_ok {B : Nat} : ∀ (n : Nat) (i : It) (s : Nat), It.ps i → s < (It.w i).length → Okp B n i → ∀ j ∈ It.frm i s, Okp B n j
  | n, .line x t, s, hp, hs, ho, j, hj => by
    rw [It.w, List.length_replicate] at hs
    rw [It.frm, List.mem_singleton] at hj
    subst hj
    have ho := okp_line.mp ho
    exact okp_line.mpr ⟨by omega, by omega⟩
  | 0, .loop r is, s, hp, hs, ho, j, hj => ho.elim
  | n + 1, .loop r is, s, hp, hs, ho, j, hj => by
    obtain ⟨h0, h1, h2⟩ : 0 ≤ r ∧ r < (2 ^ B : Nat) ∧ ∀ i ∈ is, Okp B n i := ho
    rw [It.ps] at hp
    have hL := Its.w_pos is hp.2.1 hp.2.2
    rw [w_loop_len] at hs
    have hq : s / (Its.w is).length < r.toNat := (Nat.div_lt_iff_lt_mul hL).mpr hs
    rw [It.frm] at hj
    generalize s / (Its.w is).length = q at hq hj
    by_cases e : s % (Its.w is).length = 0
    · rw [if_pos e, List.mem_singleton] at hj
      subst hj
      exact ⟨by omega, by omega, h2⟩
    · rw [if_neg e] at hj
      rcases List.mem_append.mp hj with hj | hj
      · exact okp_up1 (Its.frm_ok n is _ hp.2.2 h2 j hj)
      · rw [List.mem_singleton] at hj
        subst hj
        exact ⟨by omega, by omega, h2⟩
theorem Its.frm_ok {B : Nat} : ∀ (n : Nat) (is : List It) (s : Nat), Its.ps is → (∀ i ∈ is, Okp B n i) → ∀ j ∈ Its.frm is s, Okp B n j
  | n, [], s, _, _, j, hj => by
    rw [Its.frm] at hj
    cases hj
  | n, i :: is, s, hp, ho, j, hj => by
    rw [Its.ps] at hp
    rw [Its.frm] at hj
    by_cases e : s < (It.w i).length
    · rw [if_pos e] at hj
      rcases List.mem_append.mp hj with hj | hj
      · exact It.frm_ok n i s hp.1 e (ho i (List.mem_cons_self ..)) j hj
      · exact ho j (List.mem_cons_of_mem _ hj)
    · rw [if_neg e] at hj
      exact Its.frm_ok n is _ hp.2 (fun i hi => ho i (List.mem_cons_of_mem _ hi)) j hj
end
mutual
theorem It.okp_nn {B : Nat} : ∀ (n : Nat) (i : It), Okp B n i → It.nn i
  | n, .line x t, h => by
    rw [It.nn]
    exact (okp_line.mp h).1
  | 0, .loop r is, h => h.elim
  | n + 1, .loop r is, h => by
    obtain ⟨h0, h1, h2⟩ : 0 ≤ r ∧ r < (2 ^ B : Nat) ∧ ∀ i ∈ is, Okp B n i := h
    rw [It.nn]
    exact ⟨h0, Its.okp_nn n is h2⟩
theorem Its.okp_nn {B : Nat} : ∀ (n : Nat) (is : List It), (∀ i ∈ is, Okp B n i) → Its.nn is
  | n, [], _ => by
    rw [Its.nn]
    trivial
  | n, i :: is, h => by
    rw [Its.nn]
    exact ⟨It.okp_nn n i (h i (List.mem_cons_self ..)), Its.okp_nn n is fun j hj => h j (List.mem_cons_of_mem _ hj)⟩
end
mutual
theorem It.frm_nl {B : Nat} : ∀ (n : Nat) (i : It) (s : Nat), Okp B n i → Its.nl (It.frm i s) ≤ (n + 1) * It.nl i
  | n, .line x t, s, _ => by
    rw [It.frm, Its.nl, Its.nl, It.nl, It.nl, Nat.add_zero, Nat.mul_one]
    exact Nat.le_add_left _ _
  | 0, .loop r is, s, ho => ho.elim
  | n + 1, .loop r is, s, ho => by
    obtain ⟨h0, h1, h2⟩ : 0 ≤ r ∧ r < (2 ^ B : Nat) ∧ ∀ i ∈ is, Okp B n i := ho
    rw [It.frm, It.nl, Nat.succ_mul]
    by_cases e : s % (Its.w is).length = 0
    · rw [if_pos e, Its.nl, Its.nl, It.nl]
      omega
    · rw [if_neg e, Its.nl_app, Its.nl, Its.nl, It.nl]
      have := Its.frm_nl n is (s % (Its.w is).length) h2
      omega
theorem Its.frm_nl {B : Nat} : ∀ (n : Nat) (is : List It) (s : Nat), (∀ i ∈ is, Okp B n i) → Its.nl (Its.frm is s) ≤ (n + 1) * Its.nl is
  | n, [], s, _ => by
    rw [Its.frm, Its.nl]
    exact Nat.zero_le _
  | n, i :: is, s, ho => by
    rw [Its.frm, Its.nl, Nat.mul_add]
    by_cases e : s < (It.w i).length
    · rw [if_pos e, Its.nl_app]
      have := It.frm_nl n i s (ho i (List.mem_cons_self ..))
      have := Nat.le_mul_of_pos_left (Its.nl is) (show 0 < n + 1 by omega)
      omega
    · rw [if_neg e]
      have := Its.frm_nl n is (s - (It.w i).length) fun j hj => ho j (List.mem_cons_of_mem _ hj)
      omega
end
mutual
/-- the names of lines -/
def It.nms : It → List Str
  | .line x _ => [x]
  | .loop _ is => Its.nms is
def Its.nms : List It → List Str
  | [] => []
  | i :: is => It.nms i ++ Its.nms is
end
mutual
theorem It.sp_nms (r : Int) : ∀ i : It, (It.sp r i).map (·.1) = It.nms i
  | .line x t => by
    rw [It.sp, It.nms]
    rfl
  | .loop k is => by
    rw [It.sp, It.nms, Its.sp_nms (r * k) is]
theorem Its.sp_nms (r : Int) : ∀ is : List It, (Its.sp r is).map (·.1) = Its.nms is
  | [] => by
    rw [Its.sp, Its.nms]
    rfl
  | i :: is => by
    rw [Its.sp, Its.nms, List.map_append, It.sp_nms r i, Its.sp_nms r is]
end
theorem nms_app : ∀ is js : List It, Its.nms (is ++ js) = Its.nms is ++ Its.nms js
  | [], js => by
    rw [List.nil_append, Its.nms, List.nil_append]
  | i :: is, js => by
    rw [List.cons_append, Its.nms, Its.nms, nms_app is js, List.append_assoc]
mutual
theorem It.frm_nms : ∀ (i : It) (s : Nat), ∀ x ∈ Its.nms (It.frm i s), x ∈ It.nms i
  | .line y t, s, x, h => by
    rw [It.frm, Its.nms, Its.nms, List.append_nil, It.nms] at h
    rw [It.nms]
    exact h
  | .loop r is, s, x, h => by
    rw [It.frm] at h
    rw [It.nms]
    by_cases e : s % (Its.w is).length = 0
    · rw [if_pos e, Its.nms, Its.nms, List.append_nil, It.nms] at h
      exact h
    · rw [if_neg e, nms_app] at h
      rcases List.mem_append.mp h with h | h
      · exact Its.frm_nms is _ x h
      · rw [Its.nms, Its.nms, List.append_nil, It.nms] at h
        exact h
theorem Its.frm_nms : ∀ (is : List It) (s : Nat), ∀ x ∈ Its.nms (Its.frm is s), x ∈ Its.nms is
  | [], s, x, h => by
    rw [Its.frm] at h
    exact h
  | i :: is, s, x, h => by
    rw [Its.frm] at h
    rw [Its.nms]
    by_cases e : s < (It.w i).length
    · rw [if_pos e, nms_app] at h
      rcases List.mem_append.mp h with h | h
      · exact List.mem_append_left _ (It.frm_nms i s x h)
      · exact List.mem_append_right _ h
    · rw [if_neg e] at h
      exact List.mem_append_right _ (Its.frm_nms is _ x h)
end
theorem nd_sub : ∀ {l k : List Str}, l.Nodup → (∀ x ∈ l, x ∈ k) → l.length ≤ k.length
  | [], _, _, _ => Nat.zero_le _
  | a :: l, k, hn, hs => by
    have hn := List.nodup_cons.mp hn
    have ha := hs a (List.mem_cons_self ..)
    have z := nd_sub (l := l) (k := k.erase a) hn.2 fun x hx => (List.mem_erase_of_ne fun e => hn.1 (by rw [← e]; exact hx)).mpr (hs x (List.mem_cons_of_mem _ hx))
    rw [List.length_erase_of_mem ha] at z
    have := List.length_pos_of_mem ha
    rw [List.length_cons]
    omega
theorem frm_uniq {is : List It} {s : Nat} : (uniq [] ((Its.sp 1 (Its.frm is s)).map (·.1))).length ≤ (uniq [] ((Its.sp 1 is).map (·.1))).length := by
  refine nd_sub (uniq_nd _) fun x hx => ?_
  rw [uniq_mem] at hx ⊢
  rcases hx with h | h
  · cases h
  · refine .inr ?_
    rw [Its.sp_nms] at h ⊢
    exact Its.frm_nms is s x h
theorem lines_uniq (is : List It) : (linesI is).length = (uniq [] ((Its.sp 1 is).map (·.1))).length := (srt_perm _).length_eq
theorem frm_lines {is : List It} {s : Nat} {x : Str} (h : x ∈ linesI (Its.frm is s)) : x ∈ linesI is := by
  rw [lines_mem, Its.sp_nms] at h ⊢
  exact Its.frm_nms is s x h
end Ev
namespace Ev
open PySem PySem.Spec PyProof.Rows L2
mutual
theorem It.frm_len : ∀ (i : It) (s : Nat), (It.frm i s).length ≤ It.ni i
  | .line x t, s => by
    rw [It.frm, It.ni]
    exact Nat.le_refl _
  | .loop r is, s => by
    rw [It.frm, It.ni]
    by_cases e : s % (Its.w is).length = 0
    · rw [if_pos e]
      show 1 ≤ _
      omega
    · rw [if_neg e, List.length_append]
      have := Its.frm_len is (s % (Its.w is).length)
      show _ + 1 ≤ _
      omega
theorem Its.frm_len : ∀ (is : List It) (s : Nat), (Its.frm is s).length ≤ Its.ni is
  | [], s => by
    rw [Its.frm]
    exact Nat.zero_le _
  | i :: is, s => by
    rw [Its.frm, Its.ni]
    by_cases e : s < (It.w i).length
    · rw [if_pos e, List.length_append]
      have := It.frm_len i s
      have := ni_len is
      omega
    · rw [if_neg e]
      have := Its.frm_len is (s - (It.w i).length)
      omega
end
theorem cutD_from (ds : List PyData) (i : Nat) : cutD ds (some ((i : Nat) : Int)) none = ds.drop i := by
  unfold cutD
  have e : HT.sIx ds.length 0 (some ((i : Nat) : Int)) = min i ds.length := by
    show (if ((i : Nat) : Int) < 0 then (((i : Nat) : Int) + (ds.length : Int)).toNat else min ((i : Nat) : Int).toNat ds.length) = min i ds.length
    rw [if_neg (by omega), Int.toNat_natCast]
  rw [HT.sIx_none, e]
  rcases Nat.le_total i ds.length with h | h
  · rw [Nat.min_eq_left h]
    exact List.take_of_length_le (by rw [List.length_drop]; exact Nat.le_refl _)
  · rw [Nat.min_eq_right h, List.drop_of_length_le (Nat.le_refl _), List.drop_of_length_le h, List.take_nil]
theorem d_one (i : It) : [i].map It.d = [It.d i] := rfl
end Ev

/-! ## items_from -/
namespace Ev
open PySem PySem.Spec PyProof.Rows L2
def spIfm (K : PySem.W.Frag) (B dep : Nat) : Sp := fun vs H Q _ => ∃ (x : V) (is : List It) (s : Nat), vs = [x, .int (s : Nat)] ∧ Da K H x (.tuple (is.map It.d)) ∧ (∀ i ∈ is, Okp B dep i) ∧ Its.ps is ∧ Its.ni is ≤ 10000 ∧ ∀ H' u, Same H H' → Da K H' u (.tuple ((Its.frm is s).map It.d)) → Q u H'
def spIfo (K : PySem.W.Frag) (B dep : Nat) : Sp := fun vs H Q _ => ∃ (x : V) (i : It) (s : Nat), vs = [x, .int (s : Nat)] ∧ Da K H x (It.d i) ∧ Okp B dep i ∧ It.ps i ∧ s < (It.w i).length ∧ It.ni i ≤ 10000 ∧ ∀ H' u, Same H H' → Da K H' u (.tuple ((It.frm i s).map It.d)) → Q u H'
theorem scIfm : FnScope ["items", "start", "at", "item", "size"] ["items", "start"] (defScope (topS 54)) := ⟨rfl, rfl, rfl, by decide +kernel, rfl, by decide +kernel, by decide +kernel⟩
theorem scIfo : FnScope ["item", "start", "kind", "first", "second", "done", "rest", "rounds"] ["item", "start"] (defScope (topS 55)) := ⟨rfl, rfl, rfl, by decide +kernel, rfl, by decide +kernel, by decide +kernel⟩
section
variable {P : Program} {w : World} {K : PySem.W.Frag} {mg : Str → Option Value} {base : Heap}
theorem ifo_step {k B dep : Nat} {spR : Sp} (D : Def K mg "item_from" (topS 55) ["item", "start"]) (C_length_programs : CalN CX0 P w K mg base (dep + 2) "length_programs" ["program"] (spLen K B dep)) (C_items_from : CalN CX0 P w K mg base k "items_from" ["items", "start"] spR) (nb : NB mg) (hk : dep + 2 ≤ k)
    (hB : 17 + (dep + 1) * B ≤ 4000) (hR : dep = 0 ∨ ∃ d, dep = d + 1 ∧ spR = spIfm K B d) : CalN CX0 P w K mg base (k + 1) "item_from" ["item", "start"] (spIfo K B dep) := by
  refine D.okO scIfo (fun vs H Q E h => ?_) (fun fa cdv A outer sh H vs Q E hr h => ?_)
  · obtain ⟨x, i, s, rfl, _⟩ := h
    rfl
  · obtain ⟨x, it, s, rfl, hd, hok, hps, hs, hni, q⟩ := h
    refine ⟨_, (pss_cons (ps_asg (pv 0) (pg_tup rfl (pgs_cons (pg_name (i := 2) scIfo.nd rfl (Or.inl rfl)) (pgs_cons (pg_name (i := 3) scIfo.nd rfl (Or.inl rfl)) (pgs_cons (pg_name (i := 4) scIfo.nd rfl (Or.inl rfl)) pgs_nil)))))
      (pss_cons (ps_if (pt_cmpR op_eq (pv 2) pe_str (nomark _))
        (pss_one (ps_ret (pe_tup (pa_cons (pe_tup (pa_cons pe_str (pa_cons (pv 3) (pa_cons (pe_op op_sub (pv 4) (pv 1)) pa_nil)))) pa_nil))))
        pss_nil)
      (pss_cons (ps_asg (pe_callB call_divmodW (by rfl) nb.at (by decide +kernel) (pa_cons (pv 1) (pa_cons (pcallO C_length_programs (hr.mono (by omega)) (by rfl) (pa_cons (pv 4) pa_nil)) pa_nil))) (pg_tup rfl (pgs_cons (pg_name (i := 5) scIfo.nd rfl (Or.inl rfl)) (pgs_cons (pg_name (i := 6) scIfo.nd rfl (Or.inl rfl)) pgs_nil))))
      (pss_cons (ps_set (i := 7) scIfo.nd rfl (.inl rfl) (pe_op op_sub (pv 3) (pv 5)))
      (pss_cons (ps_if (pt_cmpR op_eq (pv 6) pe_int (nomark _))
        (pss_one (ps_ret (pe_tup (pa_cons (pe_tup (pa_cons pe_str (pa_cons (pv 7) (pa_cons (pv 4) pa_nil)))) pa_nil))))
        pss_nil)
      (pss_one (ps_ret (pe_op op_catA (pcallO C_items_from (hr.mono (by omega)) (by rfl) (pa_cons (pv 4) (pa_cons (pv 6) pa_nil))) (pe_tup (pa_cons (pe_tup (pa_cons pe_str (pa_cons (pe_op op_sub (pv 7) pe_int) (pa_cons (pv 4) pa_nil)))) pa_nil)))))))))), ?_⟩
    have y := sizeLine_eq
    cases it with
    | line z t =>
      obtain ⟨b, rfl, hb⟩ := da_line hd
      refine ⟨_, rfl, b, _, rfl, hb, rfl, _, _, rfl, _, _, rfl, _, _, rfl, rfl, ?_⟩
      refine ⟨_, rfl, rfl, _, rfl, ?_⟩
      rw [dec_str]
      refine iteT ?_
      refine ⟨_, rfl, _, rfl, _, rfl, _, _, rfl, rfl, (by show 3 ≤ sizeLine; decide), fun t1 n1 => ⟨(by show 1 ≤ sizeLine; decide), fun t2 n2 => ?_⟩⟩
      refine q _ _ ((same_put n1).trans (same_put n2)) ?_
      rw [It.frm, d_one, It.d]
      exact .tup (xs := [.ref t1]) (.inl (.inl upd_same)) (.cons (.tup (xs := [.str "line", .str z, .int (t - (s : Nat))]) (.inl (.inl (same_put n2 _ _ upd_same))) (.cons (.str _) (.cons (.str _) (.cons (.int _) .nil)))) .nil)
    | loop r js =>
      obtain ⟨d', rfl, hsp⟩ : ∃ d', dep = d' + 1 ∧ spR = spIfm K B d' := by
        rcases hR with h | h
        · subst h
          exact hok.elim
        · exact h
      subst hsp
      obtain ⟨k0, k1, hokj⟩ : 0 ≤ r ∧ r < (2 ^ B : Nat) ∧ ∀ i ∈ js, Okp B d' i := hok
      rw [It.ps] at hps
      rw [It.ni] at hni
      obtain ⟨b, v4, rfl, hb, hv4⟩ := da_loop hd
      have hnn := Its.ps_nn js hps.2.2
      have hlen := len_w hnn
      have hpos := Its.w_pos js hps.2.1 hps.2.2
      have hnl := Its.nl_ni js
      have hsw : s < 2 ^ 4000 := by
        have h1 := w_bits (B := B) (n := d' + 1) (is := [.loop r js]) (fun i hi => by rw [List.mem_singleton.mp hi]; exact ⟨k0, k1, hokj⟩) (by rw [Its.nl, Its.nl, It.nl]; omega)
        rw [w_one] at h1
        exact Nat.lt_of_lt_of_le (Nat.lt_trans hs h1) (Nat.pow_le_pow_right (by decide) hB)
      refine ⟨_, rfl, b, _, rfl, hb, rfl, _, _, rfl, _, _, rfl, _, _, rfl, rfl, ?_⟩
      refine ⟨_, rfl, rfl, _, rfl, ?_⟩
      rw [dec_ll]
      refine iteF ?_
      refine ⟨_, rfl, _, rfl, v4, js, rfl, ⟨hv4, fun i hi => okp_up1 (hokj i hi), by omega⟩, fun H1 s1 => ?_⟩
      rw [hlen]
      refine ⟨_, _, rfl, divp_by (n := 4000) (by omega) (by omega) (by decide), fun p np => ⟨p, _, rfl, .inl (.inl upd_same), rfl, _, _, rfl, _, _, rfl, rfl, ?_⟩⟩
      have s2 : Same H (upd H1 p (.tup [.int ((s : Nat) / ((Its.w js).length : Nat) : Int), .int ((s : Nat) % ((Its.w js).length : Nat) : Int)])) := s1.trans (same_put np)
      dsimp only [gName]
      generalize upd H1 p (.tup [.int ((s : Nat) / ((Its.w js).length : Nat) : Int), .int ((s : Nat) % ((Its.w js).length : Nat) : Int)]) = H2 at s2 ⊢
      rw [← Int.natCast_ediv, ← Int.natCast_emod]
      refine ⟨_, rfl, _, rfl, _, _, rfl, rfl, _, rfl, rfl, _, rfl, ?_⟩
      have hjd : It.d (.loop (r - ((s / (Its.w js).length : Nat) : Int)) js) = .tuple [.str "loop", .int (r - ((s / (Its.w js).length : Nat) : Int)), .tuple (js.map It.d)] := by rw [It.d, Its.d_map]
      have hjd1 : It.d (.loop (r - ((s / (Its.w js).length : Nat) : Int) - 1) js) = .tuple [.str "loop", .int (r - ((s / (Its.w js).length : Nat) : Int) - 1), .tuple (js.map It.d)] := by rw [It.d, Its.d_map]
      by_cases e : s % (Its.w js).length = 0
      · rw [show decide (V.int ((s % (Its.w js).length : Nat) : Int) = V.int 0) = true from decide_eq_true (by rw [e]; rfl)]
        refine iteT ?_
        refine ⟨_, rfl, _, rfl, (by show 3 ≤ sizeLine; decide), fun t1 n1 => ⟨(by show 1 ≤ sizeLine; decide), fun t2 n2 => ?_⟩⟩
        refine q _ _ (s2.trans ((same_put n1).trans (same_put n2))) ?_
        rw [It.frm, if_pos e, d_one, hjd]
        exact .tup (xs := [.ref t1]) (.inl (.inl upd_same)) (.cons (.tup (xs := [.str "loop", .int _, v4]) (.inl (.inl (same_put n2 _ _ upd_same))) (.cons (.str _) (.cons (.int _) (.cons (hv4.mono (s2.trans ((same_put n1).trans (same_put n2)))) .nil)))) .nil)
      · rw [show decide (V.int ((s % (Its.w js).length : Nat) : Int) = V.int 0) = false from decide_eq_false fun z => e (by have := V.int.inj z; omega)]
        refine iteF ?_
        refine ⟨_, rfl, _, rfl, v4, js, _, rfl, hv4.mono s2, hokj, hps.2.2, by omega, fun H3 u3 s3 hu3 => ?_⟩
        refine ⟨_, rfl, _, _, rfl, rfl, _, rfl, (by show 3 ≤ sizeLine; decide), fun t1 n1 => ⟨(by show 1 ≤ sizeLine; decide), fun t2 n2 => ?_⟩⟩
        have s45 := (same_put (o := .tup [.str "loop", .int (r - ((s / (Its.w js).length : Nat) : Int) - 1), v4]) n1).trans (same_put (o := .tup [.ref t1]) n2)
        have hfl := Its.frm_len js (s % (Its.w js).length)
        refine cat_val (K := K) (hu3.mono s45) (es := [It.d (.loop (r - ((s / (Its.w js).length : Nat) : Int) - 1) js)]) ?_ (by rw [List.length_map]; show _ + 1 ≤ _; omega) fun H6 u6 s6 hu6 => ?_
        · rw [hjd1]
          exact .tup (xs := [.ref t1]) (.inl (.inl upd_same)) (.cons (.tup (xs := [.str "loop", .int _, v4]) (.inl (.inl (same_put n2 _ _ upd_same))) (.cons (.str _) (.cons (.int _) (.cons (hv4.mono ((s2.trans s3).trans s45)) .nil)))) .nil)
        · refine q _ _ ((s2.trans s3).trans (s45.trans s6)) ?_
          rw [It.frm, if_neg e, List.map_append, d_one]
          exact hu6
theorem ifm_step {k B dep : Nat} (D : Def K mg "items_from" (topS 54) ["items", "start"]) (C_length_programs : CalN CX0 P w K mg base (dep + 2) "length_programs" ["program"] (spLen K B dep)) (C_item_from : CalN CX0 P w K mg base k "item_from" ["item", "start"] (spIfo K B dep)) (nb : NB mg) (hk : dep + 2 ≤ k) :
    CalN CX0 P w K mg base (k + 1) "items_from" ["items", "start"] (spIfm K B dep) := by
  refine D.okO scIfm (fun vs H Q E h => ?_) (fun fa cdv A outer sh H vs Q E hr h => ?_)
  · obtain ⟨x, is, s, rfl, _⟩ := h
    rfl
  · obtain ⟨x, is, s, rfl, hd, hok, hps, hni, q⟩ := h
    refine ⟨_, (pss_cons (ps_for PassesOwn.never rfl (pi_enumT rfl nb.at (pa_cons (pv 0) pa_nil)) (pg_tup rfl (pgs_cons (pg_name (i := 2) scIfm.nd rfl (Or.inl rfl)) (pgs_cons (pg_name (i := 3) scIfm.nd rfl (Or.inl rfl)) pgs_nil)))
        (pss_cons (ps_set (i := 4) scIfm.nd rfl (.inl rfl) (pcallO C_length_programs (hr.mono (by omega)) (by rfl) (pa_cons (pe_tup (pa_cons (pv 3) pa_nil)) pa_nil)))
        (pss_cons (ps_if (pt_cmpR op_lt (pv 1) (pv 4) (nomark _))
          (pss_one (ps_ret (pe_op op_catA (pcallO C_item_from (hr.mono (by omega)) (by rfl) (pa_cons (pv 3) (pa_cons (pv 1) pa_nil))) (pe_slice sl_tupA (pv 0) (po_some (pe_op op_add (pv 2) pe_int)) po_none))))
          pss_nil)
        (pss_one (ps_aug (i := 1) scIfm.nd rfl (.inl rfl) (pv 4) ip_sub)))))
      (pss_one (ps_ret (pe_tup pa_nil)))), ?_⟩
    have y := sizeLine_eq
    obtain ⟨a, xs, rfl, hs, hxs⟩ := da_prog hd
    have hxl := daAll_len hxs
    rw [List.length_map] at hxl
    refine ⟨_, rfl, a, xs, rfl, hs, for_it (walk_enumT (K := K) (a := a) (xs := xs)) (fun i σ' H' => ∃ (st : Nat) (y2 y3 y4 : Option V), σ' = [some (.ref a), some (.int (st : Nat)), y2, y3, y4] ∧ Same H H' ∧ Its.frm is s = Its.frm (is.drop i) st)
      ⟨s, none, none, none, rfl, Same.rfl', by rw [List.drop_zero]⟩ (fun i σ' H' _ ⟨_, _, _, _, _, s', _⟩ => seqT_mono s' hs) ?_ ?_⟩
    · rintro i v0 σ' H' H0 _ ⟨st, y2, y3, y4, rfl, s', hf⟩ ⟨T, u0, x', rfl, nT, rfl, e0, hi⟩
      cases e0
      dsimp only at hi
      obtain ⟨d, hd', hx'⟩ := daAll_at (hxs.mono s') hi
      rw [List.getElem?_map] at hd'
      obtain ⟨it, hit, rfl⟩ := Option.map_eq_some_iff.mp hd'
      obtain ⟨hil, hie⟩ := List.getElem?_eq_some_iff.mp hit
      have hmem := List.mem_of_getElem? hit
      have hpi := ps_mem hps hmem
      have hnim := ni_mem hmem
      have hnl := It.nl_ni it
      have hdr : is.drop i = it :: is.drop (i + 1) := by rw [← hie]; exact List.drop_eq_getElem_cons hil
      rw [hdr, Its.frm] at hf
      have hsz := len_one (It.ps_nn it hpi)
      have sT := same_put (o := .tup [.int (i : Nat), x']) nT
      refine ⟨T, _, rfl, .inl (.inl upd_same), rfl, _, _, rfl, _, _, rfl, rfl, ?_⟩
      refine ⟨_, rfl, (by show 1 ≤ sizeLine; decide), fun t1 n1 => ?_⟩
      have s1 := sT.trans (same_put (o := .tup [x']) n1)
      refine ⟨.ref t1, [it], rfl, ⟨.tup (xs := [x']) (.inl (.inl upd_same)) (.cons (hx'.mono s1) .nil), fun j hj => by rw [List.mem_singleton.mp hj]; exact hok it hmem, by rw [Its.nl, Its.nl]; omega⟩, fun H2 s2 => ?_⟩
      have s12 := s1.trans s2
      rw [hsz]
      refine ⟨_, rfl, _, rfl, _, _, rfl, rfl, _, rfl, ite2 (fun e => ?_) (fun e => ?_)⟩
      · have hlt : st < (It.w it).length := by
          have e : ((st : Nat) : Int) < ((It.w it).length : Nat) := of_decide_eq_true e
          omega
        rw [if_pos hlt] at hf
        refine ⟨_, rfl, _, rfl, x', it, st, rfl, hx'.mono s12, hok it hmem, hpi, hlt, by omega, fun H3 u3 s3 hu3 => ?_⟩
        refine ⟨_, rfl, _, rfl, _, _, rfl, rfl, _, rfl, ?_⟩
        dsimp only [tNoPart]
        refine sl_val (lo := some ((i : Nat) + 1)) (hi := none) (hd.mono ((s'.trans s12).trans s3)) fun H4 u4 s4 hu4 => ?_
        rw [show ((i : Nat) : Int) + 1 = ((i + 1 : Nat) : Int) by omega, cutD_from, ← List.map_drop] at hu4
        have hfl := It.frm_len it st
        have hil2 := ni_len is
        refine cat_val (K := K) (hu3.mono s4) hu4 (by rw [List.length_map, List.length_map, List.length_drop]; omega) fun H5 u5 s5 hu5 => ?_
        refine q _ _ ((s'.trans s12).trans (s3.trans (s4.trans s5))) ?_
        rw [hf, List.map_append]
        exact hu5
      · have hge : ¬ st < (It.w it).length := by
          have e : ¬ ((st : Nat) : Int) < ((It.w it).length : Nat) := of_decide_eq_false (Bool.eq_false_iff.mpr e)
          omega
        rw [if_neg hge] at hf
        refine ⟨_, rfl, _, rfl, _, _, rfl, rfl, st - (It.w it).length, some (.int (i : Nat)), some x', some (.int ((It.w it).length : Nat)), ?_, s'.trans s12, hf⟩
        rw [show ((st - (It.w it).length : Nat) : Int) = ((st : Nat) : Int) - (((It.w it).length : Nat) : Int) by omega]
        rfl
    · rintro σ' H' ⟨st, y2, y3, y4, rfl, s', hf⟩
      rw [hxl, List.drop_length, Its.frm] at hf
      refine ⟨Nat.zero_le _, fun t nt => q _ _ (s'.trans (same_put nt)) ?_⟩
      rw [hf]
      exact .tup (xs := []) (.inl (.inl upd_same)) .nil
theorem ok_ifm {B : Nat} (M : Nat) (hB : 17 + (M + 1) * B ≤ 4000) (D1 : Def K mg "item_from" (topS 55) ["item", "start"]) (D2 : Def K mg "items_from" (topS 54) ["items", "start"]) (C_length_programs : ∀ dep, dep ≤ M → CalN CX0 P w K mg base (dep + 2) "length_programs" ["program"] (spLen K B dep)) (nb : NB mg) :
    ∀ dep : Nat, dep ≤ M → CalN CX0 P w K mg base (2 * dep + 4) "items_from" ["items", "start"] (spIfm K B dep)
  | 0, h => ifm_step D2 (C_length_programs 0 h) (ifo_step (k := 2) D1 (C_length_programs 0 h) (no_calO D2) nb (Nat.le_refl 2) (Nat.le_trans (Nat.add_le_add_left (Nat.mul_le_mul_right B (by omega)) 17) hB) (.inl rfl)) nb (by decide)
  | n + 1, h => ifm_step (k := 2 * n + 5) D2 (C_length_programs (n + 1) h) (ifo_step (k := 2 * n + 4) D1 (C_length_programs (n + 1) h) (ok_ifm M hB D1 D2 C_length_programs nb n (Nat.le_of_succ_le h)) nb (by omega) (Nat.le_trans (Nat.add_le_add_left (Nat.mul_le_mul_right B (by omega)) 17) hB) (.inr ⟨n, rfl, rfl⟩)) nb (by omega)
end
end Ev

/-! ## list.count of texts -/
namespace Ev
open PySem PySem.Spec PyProof.Rows L2
theorem isStrOf_count {k : Str} : ∀ {us : List Value} {zs : List Str}, StrsAre us zs → us.countP (isStrOf k) = zs.count k
  | _, _, .nil => rfl
  | _, _, .cons n t h => by
    have ih := isStrOf_count (k := k) h
    rw [List.countP_cons, List.count_cons, ih] <;> rfl
section
variable {X : Cx}
def rCntS (K : PySem.W.Frag) : V → List V → Hp → VK → Prop := fun x xs H Q => ∃ (p : Addr) (zs : List Str) (k : Str), x = .ref p ∧ xs = [.str k] ∧ SqL K H p (zs.map V.str) ∧ Q (.int (zs.count k : Nat)) H
theorem mt_lcountS : MtR X "list.count" (rCntS X.K) := by
  intro pins s σ H x xs v us Q I rx rxs h
  obtain ⟨p, zs, k, rfl, rfl, hs, q⟩ := h
  cases rx
  obtain ⟨u, rfl, ru⟩ := rxs.one
  obtain ⟨t, rfl⟩ := ru
  obtain ⟨its, rv, ⟨⟨cls, dd, data, sl⟩, n, ho, hc, hdn, hd⟩, hlen⟩ := I.list hs
  simp only at hc hd
  subst hc hd
  have hi := rv.strs
  refine call_meets PySem.F.slot_list_count ⟨_, ho, rfl⟩ PySem.F.entry_list_count (PySem.F.args_list_count_2 _ _)
    (SeqAt.list_countAt p its.toArray n dd sl (.str k t) (isStrOf k)) ⟨ho, fun y hy => (eq_isStrOf k t hi y (by simpa using hy)).at _ _, ?_⟩
  have ec : its.toArray.toList.countP (isStrOf k) = zs.count k := isStrOf_count hi
  refine ⟨.int (zs.count k : Nat), H, I.tok _, ⟨s.toks, ?_⟩, q⟩
  show Value.int ((its.toArray.toList.countP (isStrOf k) : Nat) : Int) s.toks = Value.int ((zs.count k : Nat) : Int) s.toks
  rw [ec]
end
end Ev

/-! ## What the looks of a start see -/
namespace Ev
open PySem PySem.Spec PyProof.Rows L2
def wAt (w : List Str) (p s k : Nat) : Str := (w[(s + k * p) % w.length]?).getD ("" : Str)
def seenL (w : List Str) (p s n : Nat) : List Str := (List.range n).map (wAt w p s)
theorem wAt_get {w : List Str} {p s k : Nat} (hL : 0 < w.length) : w[(s + k * p) % w.length]? = some (wAt w p s k) := by
  unfold wAt
  rw [List.getElem?_eq_getElem (Nat.mod_lt _ hL)]
  rfl
theorem seenL_count {w : List Str} {p s : Nat} {x : Str} (hL : 0 < w.length) : ∀ n, ((seenL w p s n).count x : Int) = sumK (fun k => if w[(s + k * p) % w.length]? = some x then 1 else 0) n
  | 0 => rfl
  | n + 1 => by
    have ih := seenL_count (p := p) (s := s) (x := x) hL n
    have e : seenL w p s (n + 1) = seenL w p s n ++ [wAt w p s n] := by
      unfold seenL
      rw [List.range_succ, List.map_append]
      rfl
    rw [e, List.count_append, List.count_singleton]
    show _ = sumK _ n + (if w[(s + n * p) % w.length]? = some x then 1 else 0)
    rw [← ih, wAt_get hL]
    by_cases h : wAt w p s n = x
    · rw [if_pos (beq_iff_eq.mpr h), if_pos (by rw [h])]
      omega
    · rw [if_neg (fun z => h (beq_iff_eq.mp z)), if_neg (fun z => h (Option.some.inj z))]
      omega
/-- all classes of places alike -/
def FairW (w : List Str) (g : Nat) : Prop := ∀ n ∈ w, ∀ a b, a < g → b < g → cf n g a w 0 = cf n g b w 0
def ShareAt (w : List Str) (p s : Nat) (n : Str) : Prop := ((seenL w p s (w.length / Nat.gcd p w.length)).count n : Int) * (w.length : Nat) = (w.count n : Nat) * ((w.length / Nat.gcd p w.length : Nat) : Int)
theorem fair_iffM {w : List Str} {p M : Nat} (hL : 0 < w.length) (hM : Nat.gcd p w.length ≤ M) : (∀ s, s < M → ∀ n ∈ w, ShareAt w p s n) ↔ FairW w (Nat.gcd p w.length) := by
  have hg := Nat.gcd_pos_of_pos_right p hL
  have hd := Nat.gcd_dvd_right p w.length
  have key : ∀ s n, ((seenL w p s (w.length / Nat.gcd p w.length)).count n : Int) = cf n (Nat.gcd p w.length) (s % Nat.gcd p w.length) w 0 := fun s n => (seenL_count hL _).trans (seen_count hL)
  unfold ShareAt FairW
  generalize Nat.gcd p w.length = g at *
  constructor
  · intro h n hn a b ha hb
    have h1 := h a (by omega) n hn
    have h2 := h b (by omega) n hn
    rw [key, Nat.mod_eq_of_lt ha] at h1
    rw [key, Nat.mod_eq_of_lt hb] at h2
    exact Int.eq_of_mul_eq_mul_right (by omega) (h1.trans h2.symm)
  · intro h s hs n hn
    have e1 := cf_sum (n := n) hg w 0
    rw [sumK_congr (h := fun _ => cf n g (s % g) w 0) (fun c hc => h n hn c (s % g) hc (Nat.mod_lt _ hg)), sumK_const] at e1
    have e2 : ((w.length : Nat) : Int) = (g : Nat) * ((w.length / g : Nat) : Int) := by
      rw [← Int.natCast_mul, Nat.mul_div_cancel' hd]
    rw [key, ← e1]
    conv => lhs; rw [e2]
    rw [← Int.mul_assoc, Int.mul_comm (cf n g (s % g) w 0)]
theorem fair_iff {w : List Str} {p : Nat} (hL : 0 < w.length) : (∀ s, s < w.length → ∀ n ∈ w, ShareAt w p s n) ↔ FairW w (Nat.gcd p w.length) := fair_iffM hL (Nat.gcd_le_right p hL)
end Ev

/-! ## Looks, as numbers -/
namespace Ev
open PySem PySem.Spec PyProof.Rows L2
def lkW (w : List Str) (p s : Nat) (n : Str) : Int := cf n p 0 (w.drop s) 0
def is1 (x : Option Str) (n : Str) : Int := if x = some n then 1 else 0
theorem cf_cons {n x : Str} {m c o : Nat} {l : List Str} : cf n m c (x :: l) o = (if x = n ∧ o % m = c then 1 else 0) + cf n m c l (o + 1) := rfl
theorem cf_skip {n : Str} {p : Nat} : ∀ (k : Nat) (l : List Str), k < p → cf n p 0 l (p - k) = cf n p 0 (l.drop k) 0
  | 0, l, h => by
    rw [List.drop_zero, Nat.sub_zero]
    exact cf_mod l (by rw [Nat.mod_self, Nat.zero_mod])
  | k + 1, [], h => by
    rw [List.drop_nil]
    rfl
  | k + 1, x :: l, h => by
    have e : (p - (k + 1)) % p = p - (k + 1) := Nat.mod_eq_of_lt (by omega)
    rw [cf_cons, List.drop_succ_cons, if_neg (fun z => by rw [e] at z; omega), Int.zero_add, show p - (k + 1) + 1 = p - k by omega]
    exact cf_skip k l (by omega)
theorem lk_step {w : List Str} {p s : Nat} {n : Str} (hp : 0 < p) : lkW w p s n = is1 w[s]? n + lkW w p (s + p) n := by
  unfold lkW is1
  by_cases h : s < w.length
  · rw [List.drop_eq_getElem_cons h, cf_cons, List.getElem?_eq_getElem h, Nat.zero_add, Nat.zero_mod]
    have e : cf n p 0 (w.drop (s + 1)) 1 = cf n p 0 (w.drop (s + p)) 0 := by
      have z := cf_skip (n := n) (p := p) (p - 1) (w.drop (s + 1)) (by omega)
      rw [show p - (p - 1) = 1 by omega, List.drop_drop, show s + 1 + (p - 1) = s + p by omega] at z
      exact z
    rw [e]
    congr 1
    by_cases e2 : w[s] = n
    · rw [if_pos ⟨e2, rfl⟩, if_pos (by rw [e2])]
    · rw [if_neg (fun z => e2 z.1), if_neg (fun z => e2 (Option.some.inj z))]
  · rw [List.drop_of_length_le (by omega), List.drop_of_length_le (by omega), List.getElem?_eq_none (by omega)]
    rfl
theorem lk_steps {w : List Str} {p s : Nat} {n : Str} (hp : 0 < p) : ∀ c : Nat, lkW w p s n = sumK (fun k => is1 w[s + k * p]? n) c + lkW w p (s + c * p) n
  | 0 => by
    rw [Nat.zero_mul, Nat.add_zero]
    show _ = 0 + _
    rw [Int.zero_add]
  | c + 1 => by
    rw [lk_steps hp c, lk_step (s := s + c * p) hp]
    show _ = (sumK _ c + is1 w[s + c * p]? n) + _
    rw [show s + (c + 1) * p = s + c * p + p by rw [Nat.succ_mul]; omega]
    omega
theorem flat_atS {w : List Str} : ∀ {T t : Nat}, t < T * w.length → ((List.replicate T w).flatten)[t]? = w[t % w.length]?
  | 0, t, h => by omega
  | T + 1, t, h => by
    rw [List.replicate_succ, List.flatten_cons]
    by_cases e : t < w.length
    · rw [List.getElem?_append_left e, Nat.mod_eq_of_lt e]
    · rw [List.getElem?_append_right (by omega), flat_atS (T := T) (by rw [Nat.succ_mul] at h; omega)]
      congr 1
      exact (Nat.mod_eq_sub_mod (by omega)).symm
/-- of the first c looks at the program repeated -/
def snW (w : List Str) (p s c : Nat) (n : Str) : Int := sumK (fun k => is1 w[(s + k * p) % w.length]? n) c
theorem sn_count {w : List Str} {p s c : Nat} {n : Str} (hL : 0 < w.length) : snW w p s c n = ((seenL w p s c).count n : Nat) := (seenL_count hL c).symm
theorem sn_lk {w : List Str} {p s c T : Nat} {n : Str} (hp : 0 < p) (hT : s + c * p ≤ T * w.length) : lkW ((List.replicate T w).flatten) p s n - lkW ((List.replicate T w).flatten) p (s + c * p) n = snW w p s c n := by
  rw [lk_steps (w := (List.replicate T w).flatten) (s := s) hp c]
  unfold snW
  rw [sumK_congr (h := fun k => is1 w[(s + k * p) % w.length]? n) fun k hk => ?_]
  · omega
  · have : k * p + p ≤ c * p := by
      rw [← Nat.succ_mul]
      exact Nat.mul_le_mul_right _ hk
    rw [flat_atS (by omega)]
theorem sumN_map {f : Str → Int} : ∀ {l : List Str} {m : Str}, l.Nodup → sumN (l.map fun n => (n, f n)) m = if m ∈ l then f m else 0
  | [], m, _ => by
    rw [if_neg (fun z => by cases z)]
    rfl
  | a :: l, m, h => by
    have h := List.nodup_cons.mp h
    have z := sumN_map (f := f) (l := l) (m := m) h.2
    rw [List.map_cons, ← List.singleton_append, sumN_app, z]
    by_cases e : a = m
    · subst e
      rw [if_neg h.1, if_pos (List.mem_cons_self ..)]
      simp [sumN]
    · have e2 : m ∈ a :: l ↔ m ∈ l := ⟨fun z => (List.mem_cons.mp z).elim (fun y => absurd y.symm e) id, List.mem_cons_of_mem _⟩
      simp [sumN, e]
      by_cases e3 : m ∈ l
      · rw [if_pos e3, if_pos (.inr e3)]
      · rw [if_neg e3, if_neg (fun z => z.elim (fun y => e y.symm) e3)]
mutual
theorem It.w_nms : ∀ (i : It) (x : Str), x ∈ It.w i → x ∈ It.nms i
  | .line y t, x, h => by
    rw [It.w] at h
    rw [It.nms, List.mem_singleton]
    exact (List.mem_replicate.mp h).2
  | .loop r is, x, h => by
    rw [It.w] at h
    rw [It.nms]
    obtain ⟨l, hl, hx⟩ := List.mem_flatten.mp h
    rw [(List.mem_replicate.mp hl).2] at hx
    exact w_nms is x hx
theorem w_nms : ∀ (is : List It) (x : Str), x ∈ Its.w is → x ∈ Its.nms is
  | [], x, h => by
    rw [Its.w] at h
    cases h
  | i :: is, x, h => by
    rw [Its.w] at h
    rw [Its.nms]
    rcases List.mem_append.mp h with h | h
    · exact List.mem_append_left _ (It.w_nms i x h)
    · exact List.mem_append_right _ (w_nms is x h)
end
theorem sumN_frm {is : List It} {p s : Nat} (hps : Its.ps is) (n : Str) : sumN ((linesI (Its.frm is s)).map fun n => (n, cf n p 0 (Its.w (Its.frm is s)) 0)) n = lkW (Its.w is) p s n := by
  rw [sumN_map (lines_nd _), Its.frm_w is s hps]
  unfold lkW
  by_cases h : n ∈ linesI (Its.frm is s)
  · rw [if_pos h]
  · rw [if_neg h]
    refine (cf_none _ _ fun z => h ?_).symm
    rw [lines_mem, Its.sp_nms]
    rw [← Its.frm_w is s hps] at z
    exact w_nms _ _ z
end Ev

/-! ## looks -/
namespace Ev
open PySem PySem.Spec PyProof.Rows L2
def spLk (K : PySem.W.Frag) (B dep : Nat) : Sp := fun vs H Q _ => ∃ (x : V) (is : List It) (p s : Nat), vs = [x, .int (p : Nat), .int (s : Nat)] ∧ Prg K B dep H x is ∧ Its.ps is ∧ Its.nl is < 64 ∧ Its.ni is ≤ 10000 ∧ 1 ≤ p ∧ p ≤ 100000 ∧
  ∀ H' u, Same H H' → Da K H' u (totD is (lkW (Its.w is) p s)) → Q u H'
theorem scLk : FnScope ["program", "period", "start", "counts", "name", "column"] ["program", "period", "start"] (defScope (topS 51)) := ⟨rfl, rfl, rfl, by decide +kernel, rfl, by decide +kernel, by decide +kernel⟩
theorem pairs_tup : ∀ ps : List (Str × Int), tupDs (ps.map pairD) = true
  | [] => rfl
  | p :: ps => by
    rw [List.map_cons, tupDs, pairs_tup ps]
    rfl
theorem lines_loop (r : Int) (is : List It) : linesI [.loop r is] = linesI is := by
  unfold linesI
  rw [Its.sp_nms, Its.sp_nms, Its.nms, Its.nms, It.nms, List.append_nil]
theorem sumN_negM (f : Str → Int) (l : List Str) (n : Str) (h : l.Nodup) : sumN (l.map fun n => (n, -f n)) n = -(if n ∈ l then f n else 0) := by
  rw [sumN_map (f := fun n => -f n) h]
  by_cases e : n ∈ l
  · rw [if_pos e, if_pos e]
  · rw [if_neg e, if_neg e]
    rfl
section
variable {P : Program} {w : World} {K : PySem.W.Frag} {mg : Str → Option Value} {base : Heap}
theorem ok_lk {B dep : Nat} (hd : dep ≤ 20) (D : Def K mg "looks" (topS 51) ["program", "period", "start"]) (C_items_from : CalN CX0 P w K mg base (2 * dep + 4) "items_from" ["items", "start"] (spIfm K B dep)) (C_class_counts : CalN CX0 P w K mg base (dep + 4) "class_counts" ["program", "modulus"] (spCCn K B dep))
    (C_added_up : CalN CX0 P w K mg base (dep + 3) "added_up" ["program", "pairs"] (spAdd K B dep)) (nb : NB mg) : CalN CX0 P w K mg base (2 * dep + 5) "looks" ["program", "period", "start"] (spLk K B dep) := by
  refine D.okO scLk (fun vs H Q E h => ?_) (fun fa cdv A outer sh H vs Q E hr h => ?_)
  · obtain ⟨x, is, p, s, rfl, _⟩ := h
    rfl
  · obtain ⟨x, is, p, s, rfl, hp, hps, h64, hni, p1, p2, q⟩ := h
    refine ⟨_, (pss_cons (ps_set (i := 3) scLk.nd rfl (.inl rfl) (pcallO C_class_counts (hr.mono (by omega)) (by rfl) (pa_cons (pcallO C_items_from (hr.mono (by omega)) (by rfl) (pa_cons (pv 0) (pa_cons (pv 2) pa_nil))) (pa_cons (pv 1) pa_nil))))
      (pss_one (ps_ret (pcallO C_added_up (hr.mono (by omega)) (by rfl) (pa_cons (pv 0) (pa_cons (pe_lock (pe_lc (own := [("name", 4), ("column", 5)]) (g := (gTup K 2 (gCons (gName 4) (gCons (gName 5) gNil)))) (tt := tYes) (te := (tTup (tCons (tVar 4) (tCons (tOp (rIxL K) (tVar 5) (tC (.int 0))) tNil)))) rfl scLk.nd (pi_items (pv 3)) (blkOk_by (N := ["program", "period", "start", "counts", "name", "column"]) (sc := defScope (topS 51)) (by decide +kernel)) (fun _ _ _ _ _ => (pg_tup rfl (pgs_cons (pg_name (i := 4) scLk.nd rfl (Or.inl rfl)) (pgs_cons (pg_name (i := 5) scLk.nd rfl (Or.inl rfl)) pgs_nil)))) (fun _ _ _ _ _ => pts_nil) (fun _ _ _ _ _ => (pe_tup (pa_cons (pv 4) (pa_cons (pe_ix ix_list (pv 5) pe_int (fun _ _ => rfl)) pa_nil)))))) pa_nil)))))), ?_⟩
    have y := sizeLine_eq
    have hun : (uniq [] ((Its.sp 1 is).map (·.1))).length < 64 := by
      have z := uniq_len ((Its.sp 1 is).map (·.1)) []
      rw [List.length_map, Its.sp_len] at z
      have z0 : ([] : List Str).length = 0 := rfl
      omega
    have hfo := Its.frm_ok dep is s hps hp.ok
    have hfn : Its.nl (Its.frm is s) < 4000 := by
      have z := Its.frm_nl dep is s hp.ok
      have z2 : (dep + 1) * Its.nl is ≤ 21 * 64 := Nat.mul_le_mul (by omega) (by omega)
      omega
    refine ⟨_, rfl, _, rfl, x, is, s, rfl, hp.da, hp.ok, hps, hni, fun H1 u1 s1 hu1 => ⟨_, rfl, u1, Its.frm is s, p, rfl, ⟨hu1, hfo, by omega⟩, Its.okp_nn dep _ hfo, hfn, Nat.lt_of_le_of_lt frm_uniq hun, by omega, p2, fun H2 c qa s2 nc hc hq => ?_⟩⟩
    have hnl := lines_len (is := Its.frm is s)
    let ls := linesI (Its.frm is s)
    let ps : List (Str × Int) := ls.map fun n => (n, cf n p 0 (Its.w (Its.frm is s)) 0)
    have hpl : ps.length = ls.length := List.length_map _
    have hll : ls.length < 4000 := Nat.lt_of_le_of_lt hnl hfn
    refine ⟨_, rfl, c, _, hc, trivial, fun od => ⟨_, rfl, c, od, _, rfl, upd_same, fun D nD => ?_⟩⟩
    have nDc : D ≠ c := fun z => by
      rw [z, upd_same] at nD
      cases nD
    have hqc : ∀ n ∈ ls, qa n ≠ c := fun n hn z => by
      have := (hq n hn).2
      rw [z, hc] at this
      cases this
    refine lc_it (walk_items (kvs := mapD ls fun n => .ref (qa n))) (fun k H' => Same (upd H2 c (.frz od (.dK (mapD ls fun n => .ref (qa n))))) H' ∧ ∃ us, H' D = some (.lst us) ∧ us.length = k ∧ DaAll K (but H' c) us ((ps.take k).map pairD))
      ⟨same_put nD, [], upd_same, rfl, by rw [List.take_zero]; exact .nil⟩ (fun k H' _ ⟨s', _⟩ => s' _ _ upd_same) ?_ ?_
    · rintro k v H4 H5 hk ⟨s4, us, eD, hul, hda⟩ ⟨T2, u1', u2', rfl, nT2, rfl, e1, e2⟩
      rw [mapD_len] at hk
      have hkv : (mapD ls fun n => V.ref (qa n))[k]? = some ((.inr ls[k] : Key), .ref (qa ls[k])) := by
        unfold mapD
        rw [List.getElem?_map, List.getElem?_eq_getElem hk]
        rfl
      dsimp only at e1 e2
      rw [hkv] at e1 e2
      have e1 : u1' = .str ls[k] := (Option.some.inj e1).symm
      have e2 : u2' = .ref (qa ls[k]) := (Option.some.inj e2).symm
      subst e1 e2
      have hnm : ls[k] ∈ ls := List.getElem_mem hk
      obtain ⟨_, hql⟩ := hq _ hnm
      have hq4 : H4 (qa ls[k]) = some (.lst (LI p (clF (Its.frm is s) p ls[k]))) := s4 _ _ (by rw [upd_ne (hqc _ hnm)]; exact hql)
      have sT := same_put (o := .tup [.str ls[k], .ref (qa ls[k])]) nT2
      have hat : atI (LI p (clF (Its.frm is s) p ls[k])) 0 = some (.int (clF (Its.frm is s) p ls[k] 0)) := LI_at (c := 0) (by omega)
      have nTc : T2 ≠ c := fun z => by
        rw [z, s4 _ _ upd_same] at nT2
        cases nT2
      refine ⟨T2, _, rfl, .inl (.inl upd_same), rfl, _, _, rfl, _, _, rfl, rfl, rfl, ?_⟩
      refine ⟨_, rfl, _, rfl, qa ls[k], _, 0, _, rfl, rfl, .inl (.inl (sT _ _ hq4)), hat, (by show 2 ≤ sizeLine; decide), fun t3 n3 => ?_⟩
      have s3 := same_put (o := .tup [.str ls[k], .int (clF (Its.frm is s) p ls[k] 0)]) n3
      have hD3 := s3 _ _ (sT _ _ eD)
      have nt3c : t3 ≠ c := fun z => by
        rw [z, sT _ _ (s4 _ _ upd_same)] at n3
        cases n3
      have nt3D : t3 ≠ D := fun z => by
        rw [z, sT _ _ eD] at n3
        cases n3
      refine ⟨us, hD3, by omega, fun b o e => ?_, us ++ [.ref t3], upd_same, by rw [List.length_append, hul]; rfl, ?_⟩
      · rw [upd_ne (ne_of_none e nD)]
        exact s3 _ _ (sT _ _ (s4 _ _ e))
      · have hpk : ps[k]? = some (ls[k], cf ls[k] p 0 (Its.w (Its.frm is s)) 0) := by
          show (ls.map _)[k]? = _
          rw [List.getElem?_map, List.getElem?_eq_getElem hk]
          rfl
        rw [List.take_add_one, hpk, List.map_append]
        have kt : Kt (but H4 c) (but (upd (upd (upd H4 T2 (.tup [.str ls[k], .ref (qa ls[k])])) t3 (.tup [.str ls[k], .int (clF (Its.frm is s) p ls[k] 0)])) D (.lst (us ++ [.ref t3]))) c) := fun b o e no => by
          by_cases hbc : b = c
          · rw [hbc] at e
            unfold but at e
            rw [if_pos rfl] at e
            cases e
          · rw [but_ne hbc] at e ⊢
            have hbD : b ≠ D := fun z => by
              rw [z, eD] at e
              cases e
              exact no _ rfl
            rw [upd_ne hbD]
            exact s3 _ _ (sT _ _ e)
        refine da_app (DaAll.kt kt (pairs_tup _) hda) (.cons ?_ .nil)
        refine .tup (xs := [.str ls[k], .int (clF (Its.frm is s) p ls[k] 0)]) (.inl (.inl ?_)) (.cons (.str _) (.cons (.int _) .nil))
        rw [but_ne nt3c, upd_ne nt3D]
        exact upd_same
    · rintro H4 ⟨s4, us, eD, hul, hda⟩
      rw [mapD_len] at hul hda
      rw [← hpl, List.take_length] at hda
      refine ⟨s4 _ _ upd_same, ?_⟩
      have s24 : Same H2 (upd H4 c (.dK (mapD ls fun n => .ref (qa n)))) := fun b o e => by
        by_cases hbc : b = c
        · rw [hbc] at e ⊢
          rw [upd_same, ← hc, e]
        · rw [upd_ne hbc]
          exact s4 _ _ (by rw [upd_ne hbc]; exact e)
      have s14 := (s1.trans s2).trans s24
      have hD4 : upd H4 c (.dK (mapD ls fun n => .ref (qa n))) D = some (.lst us) := by
        rw [upd_ne nDc]
        exact eD
      have hda4 : DaAll K (upd H4 c (.dK (mapD ls fun n => .ref (qa n)))) us (ps.map pairD) := hda.mono (but_le Bu.put)
      refine ⟨x, .ref D, is, ps, rfl, hp.same s14, h64, ⟨D, us, rfl, .inl (.inl hD4), hda4⟩, by omega, fun pr hpr => ?_, fun H5 u5 s5 hu5 => q H5 u5 (s14.trans s5) ?_⟩
      · obtain ⟨n, hn, rfl⟩ := List.mem_map.mp hpr
        exact frm_lines hn
      · have e : sumN ps = lkW (Its.w is) p s := funext fun n => sumN_frm hps n
        rw [e] at hu5
        exact hu5
end
end Ev

/-! ## Bench.wrap, Bench.looks, Desk(text) -/
namespace Ev
open PySem PySem.Spec PyProof.Rows L2
def wrapI (is : List It) (a b : Nat) (n : Int) : It := .loop n ((is.drop a).take (b - a))
def spBW (K : PySem.W.Frag) (C : Addr) : Sp := fun vs H Q _ => ∃ (p e : Addr) (is : List It) (hs : List (List It)) (a b : Nat) (n : Int), vs = [.ref p, .int (a : Nat), .int (b : Nat), .int n] ∧ BnAt K C H p e is hs ∧ hs.length ≤ 100000 ∧ a < b ∧ b ≤ is.length ∧ Vp (putI is a b (wrapI is a b n)) ∧
  ∀ H', Bu2 p e H H' → BnAt K C H' p e (putI is a b (wrapI is a b n)) (hs ++ [is]) → Q .non H'
def spBLk (K : PySem.W.Frag) (C : Addr) : Sp := fun vs H Q _ => ∃ (b e : Addr) (is : List It) (hs : List (List It)) (p s : Nat), vs = [.ref b, .int (p : Nat), .int (s : Nat)] ∧ BnAt K C H b e is hs ∧ 1 ≤ p ∧ p ≤ 2000 ∧
  ∀ H' u, Same H H' → Da K H' u (totD is (lkW (Its.w is) p s)) → Q u H'
def spRpT (K : PySem.W.Frag) : Sp := fun vs H Q _ => ∃ is : List It, vs = [.str (mkS (Its.tx is))] ∧ 1 ≤ is.length ∧ is.length ≤ 20 ∧ Its.ni is ≤ 60 ∧ (∀ i ∈ is, Vt 5 i) ∧ ∀ H' u, Same H H' → Da K H' u (.tuple (is.map It.d)) → Q u H'
theorem scBW : FnScope ["self", "first", "stop", "rounds"] ["self", "first", "stop", "rounds"] (defScope (sB 8)) := ⟨rfl, rfl, rfl, by decide +kernel, rfl, by decide +kernel, by decide +kernel⟩
theorem scBLk : FnScope ["self", "period", "start"] ["self", "period", "start"] (defScope (sB 12)) := ⟨rfl, rfl, rfl, by decide +kernel, rfl, by decide +kernel, by decide +kernel⟩
section
variable {P : Program} {w : World} {K : PySem.W.Frag} {mg : Str → Option Value} {base : Heap} {C CD : Addr}
theorem ok_bW {fC : Addr} {fdC : FuncData} (T : BTx K mg C) (nb : NB mg) (MU : MCal P w K mg base 16 C "put" ["self", "first", "stop", "item"] (spBU K C)) (GC : FnOk P w K mg base CX0 3 fC fdC ["value", "least", "most"] (spCi K)) (bC : Binds K fdC ["value", "least", "most"] []) (mC : mg "check_index" = some (.ref fC)) (vC : PySem.W.keepIn K (.ref fC) = true)
    (D : MDef K C "wrap" "Bench.wrap" (sB 8) ["self", "first", "stop", "rounds"]) : MCalB P w K mg base 17 C "wrap" "Bench.wrap" (sB 8) ["first", "stop", "rounds"] (spBW K C) := by
  refine D.okMB scBW (fun vs H Q E h => ?_) (fun f cdv A outer s H vs Q E hr h => ?_)
  · obtain ⟨p, e, is, hs, a, b, n, rfl, _⟩ := h
    rfl
  · obtain ⟨p, e, is, hs, a, b, n, rfl, hb, hl9, hab, hbl, hv, q⟩ := h
    obtain ⟨dx, cur, h1, h2⟩ := hb.ob
    obtain ⟨c, xs, rfl, hc, hx⟩ := da_prog h2
    have hxl := daAll_len hx
    rw [List.length_map] at hxl
    refine ⟨_, pss_cons (ps_expr (pe_call GC (hr.mono (by omega)) (by rfl) mC vC bC .nil pass0 (pa_cons (pv 1) (pa_cons pe_int (pa_cons (pe_op op_sub (pe_callB call_len_seq (by rfl) nb.at PySem.boot_len (pa_cons (pe_fld (pv 0) rfl) pa_nil)) pe_int) pa_nil)))))
      (pss_cons (ps_expr (pe_call GC (hr.mono (by omega)) (by rfl) mC vC bC .nil pass0 (pa_cons (pv 2) (pa_cons (pe_op op_add (pv 1) pe_int) (pa_cons (pe_callB call_len_seq (by rfl) nb.at PySem.boot_len (pa_cons (pe_fld (pv 0) rfl) pa_nil)) pa_nil)))))
      (pss_one (ps_expr (pmeth MU T.cl hr (pv 0) (pa_cons (pv 1) (pa_cons (pv 2) (pa_cons (pe_tup (pa_cons pe_str (pa_cons (pv 3) (pa_cons (pe_slice sl_tupA (pe_fld (pv 0) rfl) (po_some (pv 1)) (po_some (pv 2))) pa_nil)))) pa_nil))))))), ?_⟩
    refine ⟨_, rfl, _, rfl, p, C, dx, _, _, rfl, h1, T.cl, T.nC, flB_cur _ _, c, xs, rfl, .inr hc, _, _, rfl, rfl, (a : Nat), 0, _, rfl, by omega, by omega, fun H1 s1 => ?_⟩
    refine ⟨_, rfl, _, rfl, _, _, rfl, rfl, _, rfl, p, C, dx, _, _, rfl, s1 _ _ h1, T.cl, T.nC, flB_cur _ _, c, xs, rfl, .inr (seqT_mono s1 hc), (b : Nat), (a : Nat) + 1, _, rfl, by omega, by omega, fun H2 s2 => ?_⟩
    have s12 := s1.trans s2
    refine ⟨_, rfl, p, dx, _, rfl, s12 _ _ h1, rfl, _, rfl, _, rfl, _, rfl, _, rfl, p, C, dx, _, _, rfl, s12 _ _ h1, T.cl, T.nC, flB_cur _ _, _, rfl, _, rfl, _, rfl, _, rfl, sl_val (lo := some (a : Nat)) (hi := some (b : Nat)) (h2.mono s12) fun H3 u3 s3 hu3 => ?_⟩
    rw [cut_mid] at hu3
    have s13 := s12.trans s3
    refine ⟨(by show 3 ≤ sizeLine; decide), fun t nt => ?_⟩
    have st := same_put (o := .tup [.str "loop", .int n, u3]) nt
    have s14 := s13.trans st
    refine ⟨p, e, is, hs, a, b, .ref t, wrapI is a b n, rfl, hb.same s14, hl9, ?_, hv, fun H5 b5 hb5 => q H5 ((Bu2.of s14).trans b5) hb5⟩
    rw [wrapI, It.d, Its.d_map, List.map_take, List.map_drop]
    exact .tup (.inl (.inl upd_same)) (.cons (.str _) (.cons (.int _) (.cons (hu3.mono st) .nil)))
theorem ok_bLk {k : Nat} {fL : Addr} {fdL : FuncData} (T : BTx K mg C) (GL : FnOk P w K mg base CX0 k fL fdL ["program", "period", "start"] (spLk K 70 5)) (bL : Binds K fdL ["program", "period", "start"] []) (mL : mg "looks_looks" = some (.ref fL)) (vL : PySem.W.keepIn K (.ref fL) = true) (D : MDef K C "looks" "Bench.looks" (sB 12) ["self", "period", "start"]) :
    MCalB P w K mg base (k + 1) C "looks" "Bench.looks" (sB 12) ["period", "start"] (spBLk K C) := by
  refine D.okMB scBLk (fun vs H Q E h => ?_) (fun f cdv A outer s H vs Q E hr h => ?_)
  · obtain ⟨b, e, is, hs, p, s, rfl, _⟩ := h
    rfl
  · obtain ⟨b, e, is, hs, p, s, rfl, hb, hp1, hp2, q⟩ := h
    obtain ⟨dx, cur, h1, h2⟩ := hb.ob
    refine ⟨_, pss_one (ps_ret (pe_call GL hr (by rfl) mL vL bL .nil pass0 (pa_cons (pe_fld (pv 0) rfl) (pa_cons (pv 1) (pa_cons (pv 2) pa_nil))))), ?_⟩
    have hni := hb.vp.ni
    exact ⟨_, rfl, b, C, dx, _, _, rfl, h1, T.cl, T.nC, flB_cur _ _, _, rfl, _, rfl, cur, is, p, s, rfl, hb.vp.prg70 h2, hb.vp.ps, hb.vp.nl, by omega, hp1, by omega, q⟩
theorem ok_dsk {kR : Nat} {f : Addr} {fd : FuncData} (T : DTx K CD) (F : Fun K "__init__" "Desk.__init__" (sDk 0) f fd) (KB : KCal P w K mg base 16 C "Bench" ["self", "program"] (spBI K C)) (C_read_program : CalN CX0 P w K mg base 16 "read_program" ["text"] (spRpT K)) :
    FnOk P w K mg base CX0 18 f fd ["self", "text"] (spDI K C CD) := by
  refine F.ok scDI (fun vs H Q E h => ?_) (fun cdv A outer s H vs Q E hr h => ?_)
  · obtain ⟨d, dx, is, rfl, _⟩ := h
    rfl
  · obtain ⟨d, dx, is, rfl, hd, h1, h2, h3, h4, hv, q⟩ := h
    refine ⟨_, pss_one (ps_fld (pv 0) (pmake KB hr (by rfl) (pa_cons (pcallO C_read_program (hr.mono (by decide)) (by rfl) (pa_cons (pv 1) pa_nil)) pa_nil)) rfl), ?_⟩
    refine ⟨_, rfl, is, rfl, h1, h2, h3, h4, fun H1 u s1 hu b xd nb nd ne => ?_⟩
    have hd1 := s1 _ _ hd
    have db : d ≠ b := ne_of_none hd1 nb
    have dd : d ≠ xd := ne_of_none hd1 nd
    have g1 : Same H1 (upd H1 xd (.own b)) := same_put nd
    have nb1 : (upd H1 xd (HO.own b)) b = none := by
      rw [upd_ne ne.symm]
      exact nb
    have g2 := g1.trans (same_put (o := .ins C xd []) nb1)
    refine ⟨b, xd, u, is, rfl, upd_same, hu.mono g2, hv, fun e H5 ne5 hb bu => ⟨rfl, ?_⟩⟩
    have hd2 := g2 _ _ hd1
    have hd5 := bu _ _ db hd2
    have de : d ≠ e := ne_of_none hd2 ne5
    refine ⟨_, rfl, d, CD, dx, [], rfl, hd5, T.cl, T.nB, (by show 0 < 1000; decide), ?_⟩
    refine q b e _ (none_of' s1 nb) (none_of' (s1.trans g2) ne5) db.symm (hb.kj (Kj.putI hd5) fun o => ⟨fun z => ?_, fun z => ?_⟩) ⟨dx, upd_same⟩ fun c o nc hc => ?_
    · rw [upd_ne db.symm]
      exact z
    · rw [upd_ne de.symm]
      exact z
    · rw [upd_ne nc]
      exact bu _ _ (ne_of_none (s1 _ _ hc) nb) (g2 _ _ (s1 _ _ hc))
end
end Ev

/-! ## Defs that may be called both ways: by place, and by keywords from the last one on -/
namespace Ev
open PySem PySem.Spec PyProof.Rows L2
structure CalB (P : Program) (w : World) (K : PySem.W.Frag) (mg : Str → Option Value) (base : Heap) (k : Nat) (x : Str) (st : Stmt) (ps : List Str) (sp : Sp) : Prop where
  ex : ∃ (f : Addr) (fd : FuncData), FnG P w K mg base CX0 k f fd ps sp ∧ Fun K x x st f fd ∧ Binds K fd ps [] ∧ mg x = some (.ref f)
section
variable {P : Program} {w : World} {K : PySem.W.Frag} {mg : Str → Option Value} {base : Heap} {x : Str} {st : Stmt} {ps N : List Str} {sp : Sp} {k j : Nat}
theorem CalB.cal (C : CalB P w K mg base k x st ps sp) : Cal P w K mg base k x ps sp := by
  obtain ⟨f, fd, G, F, b, m⟩ := C.ex
  exact ⟨f, fd, G, b, m, F.kp⟩
theorem CalB.kw (C : CalB P w K mg base k x st ps sp)
    (hb : ∀ (kV doc pm : Value) (an : Option Addr) (cdv ct : Value) (us : List Value), us.length = ps.length → bindArgs (PySem.W.fnOf x x (defArgs st) (defBody st) (defScope st) .none kV doc pm an cdv ct) ⟨[], ps.reverse.zip us⟩ = pure (ps.zip us.reverse)) : CalR P w K mg base k x ps sp := by
  obtain ⟨f, fd, G, F, b, m⟩ := C.ex
  have F0 := F
  obtain ⟨oc, od, kV, doc, pm, an, cdv, ct, osl, rfl, lk, hcd⟩ := F.ex
  exact ⟨f, _, G, fun s us hl => .of_eq (hb kV doc pm an cdv ct us hl), m, F0.kp⟩
theorem CalB.of {f : Addr} {fd : FuncData} (F : Fun K x x st f fd) (G : FnOk P w K mg base CX0 k f fd ps sp) (b : Binds K fd ps []) (m : mg x = some (.ref f)) : CalB P w K mg base k x st ps sp := ⟨f, fd, .of G, F, b, m⟩
theorem CalB.up (C : CalB P w K mg base j x st ps sp) (h : j ≤ k) : CalB P w K mg base k x st ps sp := by
  obtain ⟨f, fd, G, F, b, m⟩ := C.ex
  exact ⟨f, fd, G.up h, F, b, m⟩
theorem Def.okB (D : Def K mg x st ps) (S : FnScope N ps (defScope st)) (len : ∀ vs H Q E, sp vs H Q E → vs.length = ps.length)
    (hbody : ∀ (f : Addr) (cdv : Value) (A : Around) (outer : List Env) (s : Shared) (H : Hp) (vs : List V) (Q : VK) (E : XK),
      Room k (A.deeper (envOfC x (defScope st) s.heap.objs.size f cdv)) → A.guards = some [] → sp vs H Q E →
      ∃ t, PSs (cxOf CX0 P w K mg base N x (defScope st) f cdv A outer s H E).nox (defBody st) t ∧
        t { nx := fun _ H' => Q .non H', rt := Q } (start N vs) H) : CalB P w K mg base (k + 1) x st ps sp := by
  obtain ⟨f, fd, F, b, m⟩ := D.ex
  exact ⟨f, fd, okG F S len (hbody f), F, b, m⟩
end
end Ev

/-! ## padded -/
namespace Ev
open PySem PySem.Spec PyProof.Rows L2
def padD (ds : List PyData) (t : Int) : List PyData := if t = 0 then ds else ds ++ [It.d (.line "idle" t)]
def spPad (K : PySem.W.Frag) : Sp := fun vs H Q _ => ∃ (x : V) (ds : List PyData) (t : Int), vs = [x, .int t] ∧ Da K H x (.tuple ds) ∧ ds.length ≤ 1000000 ∧ ∀ H' u, Same H H' → Da K H' u (.tuple (padD ds t)) → Q u H'
theorem scPd : FnScope ["program", "ticks"] ["program", "ticks"] (defScope (topS 75)) := ⟨rfl, rfl, rfl, by decide +kernel, rfl, by decide +kernel, by decide +kernel⟩
section
variable {P : Program} {w : World} {K : PySem.W.Frag} {mg : Str → Option Value} {base : Heap}
theorem ok_padded (D : Def K mg "padded" (topS 75) ["program", "ticks"]) (nb : NB mg) : CalB P w K mg base 1 "padded" (topS 75) ["program", "ticks"] (spPad K) := by
  refine D.okB scPd (fun vs H Q E h => ?_) (fun f cdv A outer s H vs Q E hr gd h => ?_)
  · obtain ⟨x, ds, t, rfl, _⟩ := h
    rfl
  · obtain ⟨x, ds, t, rfl, hd, hl, q⟩ := h
    refine ⟨_, (pss_cons (ps_if (pt_cmpR op_eq (pv 1) pe_int (nomark _))
        (pss_one (ps_ret (pv 0)))
        pss_nil)
      (pss_one (ps_ret (pe_op op_catA (pv 0) (pe_tup (pa_cons (pe_tup (pa_cons pe_str (pa_cons pe_str (pa_cons (pv 1) pa_nil)))) pa_nil)))))), ?_⟩
    have y := sizeLine_eq
    refine s_ifB (b := decide (t = 0)) (t_eqI rfl) (fun e H' s' => ?_) (fun e H' s' => ?_)
    · have e := of_decide_eq_true e
      refine ⟨_, rfl, q H' x s' ?_⟩
      unfold padD
      rw [if_pos e]
      exact hd.mono s'
    · have e := of_decide_eq_false e
      refine ⟨_, rfl, _, rfl, (by show 3 ≤ sizeLine; decide), fun t1 n1 => ⟨(by show 1 ≤ sizeLine; decide), fun t2 n2 => ?_⟩⟩
      have s1 := same_put (o := .tup [.str "line", .str "idle", .int t]) n1
      have s2 := same_put (o := .tup [.ref t1]) n2
      refine cat_val (es := [It.d (.line "idle" t)]) ((hd.mono s').mono (s1.trans s2)) (.tup (xs := [.ref t1]) (.inl (.inl upd_same)) (.cons ?_ .nil)) (by show ds.length + 1 ≤ _; omega) fun H3 u s3 hu => q H3 u (s'.trans ((s1.trans s2).trans s3)) ?_
      · rw [It.d]
        exact .tup (xs := [.str "line", .str "idle", .int t]) (.inl (.inl (s2 _ _ upd_same))) (.cons (.str _) (.cons (.str _) (.cons (.int _) .nil)))
      · unfold padD
        rw [if_neg e]
        exact hu
end
theorem pad_eq {is : List It} {t : Int} : padD (is.map It.d) t = (is ++ if t = 0 then [] else [It.line "idle" t]).map It.d := by
  unfold padD
  split
  · simp
  · simp
end Ev

/-! ## least_padding -/
namespace Ev
open PySem PySem.Spec PyProof.Rows L2
def padI (is : List It) (t : Int) : List It := is ++ if t = 0 then [] else [It.line "idle" t]
/-- even with so many ticks more -/
def EvAt (is : List It) (p t : Nat) : Prop := EvenI (padI is t) (Nat.gcd p ((Its.w is).length + t))
theorem even_one (is : List It) : EvenI is 1 := fun n _ a b ha hb => by
  have e1 : a = 0 := by omega
  have e2 : b = 0 := by omega
  rw [e1, e2]
theorem cop_at (L : Nat) {p : Nat} (hp : 1 ≤ p) : ∃ t, t < p ∧ Nat.gcd p (L + t) = 1 := by
  refine ⟨(p - L % p + 1) % p, Nat.mod_lt _ (by omega), ?_⟩
  have hl := Nat.mod_lt L (show 0 < p by omega)
  have e : L + (p - L % p + 1) = p * (L / p + 1) + 1 := by
    have := Nat.div_add_mod L p
    rw [Nat.mul_add, Nat.mul_one]
    omega
  rw [Nat.gcd_rec, Nat.add_mod_mod, e, Nat.mul_add_mod]
  by_cases h : p = 1
  · rw [h]
    rfl
  · rw [Nat.mod_eq_of_lt (by omega), Nat.gcd_one_left]
def spLP (K : PySem.W.Frag) (B dep : Nat) : Sp := fun vs H Q _ => ∃ (x : V) (is : List It) (p : Nat), vs = [x, .int (p : Nat)] ∧ Prg K B dep H x is ∧ Its.ps is ∧ Its.nl is < 60 ∧ is.length ≤ 1000 ∧ 1 ≤ p ∧ p ≤ 100000 ∧
  ∀ H' (t : Nat), Same H H' → EvAt is p t → (∀ s, s < t → ¬ EvAt is p s) → t < p → Q (.int (t : Nat)) H'
theorem scLp : FnScope ["program", "period", "size", "ticks"] ["program", "period"] (defScope (topS 76)) := ⟨rfl, rfl, rfl, by decide +kernel, rfl, by decide +kernel, by decide +kernel⟩
theorem pad_prg {K : PySem.W.Frag} {B dep t : Nat} {H : Hp} {x u : V} {is : List It} (hB : 17 ≤ B) (h : Prg K B dep H x is) (hn : Its.nl is < 60) (ht : t ≤ 100000) {H' : Hp} (hu : Da K H' u (.tuple (padD (is.map It.d) t))) : Prg K B dep H' u (padI is t) ∧ Its.nl (padI is t) < 64 := by
  have hpow : (2 ^ 17 : Nat) ≤ 2 ^ B := Nat.pow_le_pow_right (by decide) hB
  have hnl : Its.nl (padI is t) ≤ Its.nl is + 1 := by
    unfold padI
    rw [Its.nl_app]
    split
    · rw [Its.nl]; omega
    · rw [Its.nl, Its.nl, It.nl]; omega
  rw [pad_eq] at hu
  refine ⟨⟨hu, fun i hi => ?_, by omega⟩, by omega⟩
  rcases List.mem_append.mp hi with h' | h'
  · exact h.ok i h'
  · split at h'
    · cases h'
    · rw [List.mem_singleton.mp h']
      exact okp_line.mpr ⟨by omega, by omega⟩
theorem pad_ps {is : List It} {t : Nat} (h : Its.ps is) : Its.ps (padI is t) := ps_of fun i hi => by
  rcases List.mem_append.mp hi with h' | h'
  · exact ps_mem h h'
  · split at h'
    · cases h'
    · rw [List.mem_singleton.mp h', It.ps]
      omega
theorem pad_w (is : List It) (t : Nat) : Its.w (padI is t) = Its.w is ++ List.replicate t ("idle" : Str) := by
  unfold padI
  rw [w_app]
  congr 1
  by_cases h : t = 0
  · rw [if_pos (by omega), h, Its.w]
    rfl
  · rw [if_neg (by omega), w_one, It.w, Int.toNat_natCast]
section
variable {P : Program} {w : World} {K : PySem.W.Frag} {mg : Str → Option Value} {base : Heap}
theorem ok_lp {B dep : Nat} (hB : 17 ≤ B) (D : Def K mg "least_padding" (topS 76) ["program", "period"]) (C_length_programs : Cal P w K mg base (dep + 2) "length_programs" ["program"] (spLen K B dep)) (C_padded : Cal P w K mg base 1 "padded" ["program", "ticks"] (spPad K))
    (C_common_divisor : Cal P w K mg base 1 "common_divisor" ["one", "other"] spGcd) (C_is_even : Cal P w K mg base (dep + 6) "is_even" ["program", "modulus"] (spEv K B dep)) : CalB P w K mg base (dep + 7) "least_padding" (topS 76) ["program", "period"] (spLP K B dep) := by
  refine D.okB scLp (fun vs H Q E h => ?_) (fun fa cdv A outer sh H vs Q E hr gd h => ?_)
  · obtain ⟨x, is, p, rfl, _⟩ := h
    rfl
  · obtain ⟨x, is, p, rfl, hp, hps, hnl, hil, p0, p1, q⟩ := h
    refine ⟨_, (pss_cons (ps_set (i := 2) scLp.nd rfl (.inl rfl) (pcall C_length_programs (hr.mono (by omega)) gd (by rfl) (pa_cons (pv 0) pa_nil)))
      (pss_cons (ps_set (i := 3) scLp.nd rfl (.inl rfl) pe_int)
      (pss_cons (ps_while PassesOwn.never (pt_not (pt_val (pcall C_is_even (hr.mono (by omega)) gd (by rfl) (pa_cons (pcall C_padded (hr.mono (by omega)) gd (by rfl) (pa_cons (pv 0) (pa_cons (pv 3) pa_nil))) (pa_cons (pcall C_common_divisor (hr.mono (by omega)) gd (by rfl) (pa_cons (pv 1) (pa_cons (pe_op op_add (pv 2) (pv 3)) pa_nil))) pa_nil)))))
        (pss_one (ps_aug (i := 3) scLp.nd rfl (.inl rfl) pe_int ip_add)))
      (pss_one (ps_ret (pv 3)))))), ?_⟩
    have y := sizeLine_eq
    obtain ⟨t0, ht0, hg0⟩ := cop_at (Its.w is).length p0
    have stop : EvAt is p t0 := by
      unfold EvAt
      rw [hg0]
      exact even_one _
    refine ⟨_, rfl, x, is, rfl, hp, fun H1 s1 => ?_⟩
    rw [len_w (Its.ps_nn is hps)]
    refine while_w (fun m σ' H' => ∃ t : Nat, m = t0 - t ∧ σ' = [some x, some (.int (p : Nat)), some (.int ((Its.w is).length : Nat)), some (.int (t : Nat))] ∧ Same H H' ∧ t ≤ t0 ∧ ∀ s, s < t → ¬ EvAt is p s) ⟨_, 0, rfl, rfl, s1, Nat.zero_le _, fun s hs => absurd hs (Nat.not_lt_zero s)⟩ ?_ ?_
    · rintro m σ' H' ⟨t, rfl, rfl, s', ht, hno⟩
      refine ⟨_, rfl, _, rfl, x, is.map It.d, (t : Nat), rfl, hp.da.mono s', by rw [List.length_map]; omega, fun H2 u s2 hu => ?_⟩
      obtain ⟨prg, hnl2⟩ := pad_prg hB hp hnl (show t ≤ 100000 by omega) hu
      have gpos : 0 < Nat.gcd p ((Its.w is).length + t) := Nat.gcd_pos_of_pos_left _ (by omega)
      have gle : Nat.gcd p ((Its.w is).length + t) ≤ p := Nat.gcd_le_left _ (by omega)
      refine ⟨_, rfl, _, rfl, _, rfl, _, _, rfl, rfl, p, (Its.w is).length + t, rfl, u, padI is t, _, rfl, prg, pad_ps hps, hnl2, gpos, by omega, fun H3 c s3 hc => ⟨_, rfl, ?_⟩⟩
      have s13 : Same H H3 := s'.trans (s2.trans s3)
      cases c with
      | true => exact iteF ⟨_, rfl, q H3 t s13 (hc.mp rfl) hno (by omega)⟩
      | false =>
        have nev : ¬ EvAt is p t := fun h => Bool.false_ne_true (hc.mpr h)
        have hne : t ≠ t0 := fun e => nev (by rw [e]; exact stop)
        refine iteT ?_
        refine ⟨_, rfl, _, _, rfl, rfl, t0 - (t + 1), by omega, t + 1, rfl, rfl, s13, by omega, fun s hs => ?_⟩
        by_cases e : s = t
        · rw [e]
          exact nev
        · exact hno s (by omega)
    · rintro σ' H' Q1 Q2 hQ ⟨v1, e1, v2, e2, x, ds, t, e3, hd, hl, h⟩
      refine ⟨v1, e1, v2, e2, x, ds, t, e3, hd, hl, fun H'' u s hu => ?_⟩
      obtain ⟨v3, e4, v4, e5, v5, e6, i, j, e7, e8, a, b, e9, x2, is2, m2, e10, hp, hps, h64, m0, m1, h2⟩ := h H'' u s hu
      refine ⟨v3, e4, v4, e5, v5, e6, i, j, e7, e8, a, b, e9, x2, is2, m2, e10, hp, hps, h64, m0, m1, fun H3 c s3 hc => ?_⟩
      obtain ⟨b, e, z⟩ := h2 H3 c s3 hc
      exact ⟨b, e, hQ _ _ z⟩
end
end Ev

/-! ## What the script is drawn from -/
namespace Ev
open PySem PySem.Spec PyProof.Rows L2
theorem scSt : FnScope ["_law_script", "_law_k", "_law_cell", "_law_own"] ["_law_script", "_law_k"] (defScope (topS 117)) := ⟨rfl, rfl, rfl, by decide +kernel, rfl, by decide +kernel, by decide +kernel⟩
theorem scDr : FnScope ["_law_stream_here", "_law_many", "_law_digit", "_law_prime", "_law_mixed"] ["_law_stream_here", "_law_many"] (defScope (topS 118)) := ⟨rfl, rfl, rfl, by decide +kernel, rfl, by decide +kernel, by decide +kernel⟩
theorem bigS : (0 : Int) < (10 ^ (60 : Int).toNat) ^ (5 : Int).toNat := by decide +kernel
section
variable {P : Program} {w : World} {K : PySem.W.Frag} {mg : Str → Option Value} {base : Heap}
theorem ok_stream (D : Def K mg "_law_stream" (topS 117) ["_law_script", "_law_k"]) (nb : NB mg) : Cal P w K mg base 1 "_law_stream" ["_law_script", "_law_k"] (spPotS K) := by
  refine D.ok scSt (fun vs H Q E h => ?_) (fun f cdv A outer s H vs Q E hr gd h => ?_)
  · obtain ⟨a, ns, k, rfl, _⟩ := h
    rfl
  · obtain ⟨a, ns, k, rfl, hS, k0, k1, q⟩ := h
    refine ⟨_, (pss_cons (ps_set (i := 2) scSt.nd rfl (.inl rfl) (pe_ifExp (pt_cmpR op_lt (pv 1) (pe_callB call_len_seq (by rfl) nb.at PySem.boot_len (pa_cons (pv 0) pa_nil)) (nomark _)) (pe_ix ix_list (pv 0) (pv 1) (fun _ _ => rfl)) (pe_op op_add (pe_op op_mul pe_int (pv 1)) pe_int)))
      (pss_cons (ps_set (i := 3) scSt.nd rfl (.inl rfl) (pe_op op_mul (pe_op op_mod (pe_callB call_abs (by rfl) nb.at (by decide +kernel) (pa_cons (pv 2) pa_nil)) (pe_op op_powG (pe_op op_pow pe_int pe_int) pe_int)) (pe_callTy call_int1 (by rfl) nb.at (by decide +kernel) (pa_cons (pe_cmpR op_ge (pe_callB call_abs (by rfl) nb.at (by decide +kernel) (pa_cons (pv 2) pa_nil)) (pe_op op_pow pe_int pe_int) (nomark _)) pa_nil))))
      (pss_one (ps_ret (pe_lst (pa_cons (pv 3) (pa_cons (pe_op op_mod (pe_op op_add (pe_op op_add (pe_op op_mul (pe_op op_mod (pv 2) pe_int) pe_int) (pe_op op_mul (pe_op op_mul pe_int (pv 1)) (pv 1))) pe_int) pe_int) (pa_cons pe_int pa_nil)))))))), ?_⟩
    refine ⟨_, rfl, _, rfl, a, _, rfl, .inl hS, k, _, rfl, rfl, _, rfl, ite2 (fun e => ?a) (fun e => ?b)⟩
    case' a =>
      have hk : k < ((ns.map V.int).length : Int) := of_decide_eq_true e
      rw [List.length_map] at hk
      have hk' : k.toNat < ns.length := by omega
      have g : atI (ns.map V.int) k = some (.int ns[k.toNat]) := by
        have z : (ns.map V.int)[k.toNat]? = some (.int ns[k.toNat]) := by
          rw [List.getElem?_map, List.getElem?_eq_getElem hk']
          rfl
        have y := atI_nat z
        rw [Int.toNat_of_nonneg k0] at y
        exact y
      refine ⟨_, rfl, _, rfl, a, _, k, _, rfl, rfl, hS, g, ?_⟩
    case' b =>
      refine ⟨_, rfl, 13, k, rfl, rfl, .inl ⟨by decide, by decide⟩, _, _, rfl, rfl, ?_⟩
    all_goals
      refine ⟨_, rfl, _, rfl, 10, 60, rfl, rfl, ⟨by decide, by decide, by decide⟩, _, 5, rfl, rfl, ⟨by decide, by decide +kernel⟩, _, _, rfl, rfl, bigS, ?_⟩
      refine ⟨_, rfl, _, rfl, 10, 18, rfl, rfl, ⟨by decide, by decide, by decide⟩, _, _, rfl, rfl, .inr ⟨_, rfl, _, _, rfl, rfl, .inr (flag_in _), ?_⟩⟩
      refine ⟨_, rfl, _, rfl, _, _, rfl, rfl, (show (0 : Int) < 2305843009213693951 by decide), _, _, rfl, rfl, .inr ⟨by decide, by decide⟩, _, rfl, _, _, rfl, rfl, .inl ⟨by decide, by decide⟩, _, rfl, _, _, rfl, rfl, .inr ⟨by omega, by omega⟩, ?_⟩
      refine ⟨_, _, rfl, rfl, _, _, rfl, rfl, _, _, rfl, rfl, (show (0 : Int) < 2305843009213693921 by decide), (by show 3 ≤ sizeLine; decide), fun p np => q _ p np (same_put np) ⟨_, upd_same, ?_⟩⟩
      exact ⟨_, _, 0, rfl, own_nn _ _ _ bigS, Int.emod_nonneg _ (by decide), Int.emod_lt_of_pos _ (by decide), Int.le_refl 0, by decide⟩
theorem ok_draw (D : Def K mg "_law_draw" (topS 118) ["_law_stream_here", "_law_many"]) (nb : NB mg) : Cal P w K mg base 1 "_law_draw" ["_law_stream_here", "_law_many"] spDraw := by
  refine D.ok scDr (fun vs H Q E h => ?_) (fun f cdv A outer s H vs Q E hr gd h => ?_)
  · obtain ⟨p, m, n, rfl, _⟩ := h
    rfl
  · obtain ⟨p, m, n, rfl, ⟨xs, hp, x, y, c, rfl, x0, y0, y1, c0, c1⟩, hn, m0, m1, q⟩ := h
    have hL : SqL K H p [.int x, .int y, .int c] := .inl (.inl hp)
    refine ⟨_, (pss_cons (ps_if (pt_cmpR op_gt (pe_ix ix_list (pv 0) pe_int (fun _ _ => rfl)) pe_int (nomark _))
        (pss_cons (ps_set (i := 2) scDr.nd rfl (.inl rfl) (pe_op op_mod (pe_ix ix_list (pv 0) pe_int (fun _ _ => rfl)) (pv 1)))
        (pss_cons (ps_asg (pe_op op_fdivW (pe_ix ix_list (pv 0) pe_int (fun _ _ => rfl)) (pv 1)) (pg_sub (pv 0) pe_int set_list))
        (pss_one (ps_ret (pv 2)))))
        pss_nil)
      (pss_cons (ps_asg (pe_op op_add (pe_ix ix_list (pv 0) pe_int (fun _ _ => rfl)) pe_int) (pg_sub (pv 0) pe_int set_list))
      (pss_cons (ps_set (i := 3) scDr.nd rfl (.inl rfl) (pe_ix ix_list (pe_lst (pa_cons pe_int (pa_cons pe_int (pa_cons pe_int (pa_cons pe_int (pa_cons pe_int pa_nil)))))) (pe_op op_mod (pe_ix ix_list (pv 0) pe_int (fun _ _ => rfl)) pe_int) (fun _ _ => rfl)))
      (pss_cons (ps_set (i := 4) scDr.nd rfl (.inl rfl) (pe_op op_mod (pe_op op_pow (pe_op op_add (pe_op op_add (pe_ix ix_list (pv 0) pe_int (fun _ _ => rfl)) (pe_op op_mul (pe_op op_mul pe_int (pe_ix ix_list (pv 0) pe_int (fun _ _ => rfl))) (pe_ix ix_list (pv 0) pe_int (fun _ _ => rfl)))) pe_int) pe_int) (pv 3)))
      (pss_one (ps_ret (pe_op op_mod (pe_op op_fdivW (pe_op op_mod (pe_op op_mul (pv 4) (pe_op op_add (pe_op op_mod (pv 4) pe_int) (pe_op op_mul pe_int (pe_ix ix_list (pv 0) pe_int (fun _ _ => rfl))))) pe_int) pe_int) (pv 1)))))))), ?_⟩
    refine ⟨_, rfl, p, _, 0, .int x, rfl, rfl, hL, rfl, _, _, rfl, rfl, _, rfl, ite2 (fun e => ?_) (fun e => ?_)⟩
    · have hx : 0 < x := of_decide_eq_true e
      refine ⟨_, rfl, p, _, 0, .int x, rfl, rfl, hL, rfl, _, rfl, _, _, rfl, rfl, m0, ?_⟩
      refine ⟨_, rfl, p, _, 0, .int x, rfl, rfl, hL, rfl, _, rfl, _, _, rfl, rfl, ⟨m0, m1⟩, _, rfl, p, _, 0, 0, rfl, rfl, hp, rfl, _, rfl, ?_⟩
      exact q _ _ Bu.put ⟨_, upd_same, _, _, _, rfl, Int.ediv_nonneg x0 (Int.le_of_lt m0), y0, y1, c0, by omega⟩ (Int.emod_nonneg _ (by omega)) (Int.emod_lt_of_pos _ m0)
    · refine ⟨_, rfl, p, _, 2, .int c, rfl, rfl, hL, rfl, _, _, rfl, rfl, _, rfl, p, _, 2, 2, rfl, rfl, hp, rfl, ?_⟩
      have c0' : 0 ≤ c + 1 := by omega
      have c1' : c + 1 ≤ 10000001 := by omega
      refine ⟨(by show 5 ≤ sizeLine; decide), fun t nt => ?_⟩
      have npt : p ≠ t := fun z => by
        rw [← z, upd_same] at nt
        cases nt
      let H2 : Hp := upd (upd H p (.lst [.int x, .int y, .int (c + 1)])) t (.lst [.int 2147483647, .int 2147483629, .int 2147483587, .int 2147483579, .int 2147483563])
      have h2 : H2 p = some (.lst [.int x, .int y, .int (c + 1)]) := by
        show upd _ t _ p = _
        rw [upd_ne npt, upd_same]
      have hL2 : SqL K H2 p [.int x, .int y, .int (c + 1)] := .inl (.inl h2)
      have hb : Bu p H H2 := Bu.trans Bu.put (Bu.new nt)
      have hT : SqL K H2 t [.int 2147483647, .int 2147483629, .int 2147483587, .int 2147483579, .int 2147483563] := .inl (.inl upd_same)
      obtain ⟨pr, hpr, p1, p2⟩ : ∃ pr : Int, atI [V.int 2147483647, .int 2147483629, .int 2147483587, .int 2147483579, .int 2147483563] ((c + 1) % 5) = some (.int pr) ∧ 0 < pr ∧ pr < 2147483648 := by
        have r0 : 0 ≤ (c + 1) % 5 := Int.emod_nonneg _ (by decide)
        have r1 : (c + 1) % 5 < 5 := Int.emod_lt_of_pos _ (by decide)
        generalize (c + 1) % 5 = r at r0 r1
        have : r = 0 ∨ r = 1 ∨ r = 2 ∨ r = 3 ∨ r = 4 := by omega
        rcases this with rfl | rfl | rfl | rfl | rfl <;> exact ⟨_, rfl, by decide, by decide⟩
      refine ⟨_, rfl, p, _, 2, .int (c + 1), rfl, rfl, hL2, rfl, _, _, rfl, rfl, (show (0 : Int) < 5 by decide), t, _, _, _, rfl, rfl, hT, hpr, ?_⟩
      have m3 : 0 ≤ 65537 * (c + 1) := by omega
      have m4 : 65537 * (c + 1) * (c + 1) ≤ 65537 * 10000001 * 10000001 := Int.mul_le_mul (Int.mul_le_mul_of_nonneg_left c1' (by decide)) c1' c0' (by decide)
      have m5 : 0 ≤ 65537 * (c + 1) * (c + 1) := Int.mul_nonneg m3 c0'
      refine ⟨_, rfl, p, _, 1, .int y, rfl, rfl, hL2, rfl, _, rfl, p, _, 2, .int (c + 1), rfl, rfl, hL2, rfl, _, _, rfl, rfl, .inl ⟨by decide, by decide⟩, _, rfl, p, _, 2, .int (c + 1), rfl, rfl, hL2, rfl, _, _, rfl, rfl, .inr ⟨by omega, by omega⟩, ?_⟩
      have pb : CPow (y + 65537 * (c + 1) * (c + 1) + 37) 3 := ⟨by decide, by decide, by omega⟩
      refine ⟨_, _, rfl, rfl, _, _, rfl, rfl, _, _, rfl, rfl, pb, _, rfl, _, _, rfl, rfl, p1, ?_⟩
      have u0 : 0 ≤ (y + 65537 * (c + 1) * (c + 1) + 37) ^ (3 : Int).toNat % pr := Int.emod_nonneg _ (by omega)
      have u1 : (y + 65537 * (c + 1) * (c + 1) + 37) ^ (3 : Int).toNat % pr < pr := Int.emod_lt_of_pos _ p1
      have fin := fun d => q H2 d hb ⟨_, h2, x, y, c + 1, rfl, x0, y0, y1, c0', by omega⟩
      show gName 4 (V.int ((y + 65537 * (c + 1) * (c + 1) + 37) ^ (3 : Int).toNat % pr)) _ _ _
      generalize (y + 65537 * (c + 1) * (c + 1) + 37) ^ (3 : Int).toNat % pr = u at u0 u1 ⊢
      have v0 : 0 ≤ u % 10007 := Int.emod_nonneg _ (by decide)
      have v1 : u % 10007 < 10007 := Int.emod_lt_of_pos _ (by decide)
      refine ⟨_, rfl, _, rfl, _, _, rfl, rfl, (show (0 : Int) < 10007 by decide), _, rfl, p, _, 2, .int (c + 1), rfl, rfl, hL2, rfl, _, _, rfl, rfl, .inl ⟨by decide, by decide⟩, _, _, rfl, rfl, ?_⟩
      refine ⟨_, _, rfl, rfl, .inl ⟨by omega, by omega⟩, _, _, rfl, rfl, (show (0 : Int) < 2305843009213693907 by decide), _, _, rfl, rfl, ⟨by decide, by decide +kernel⟩, _, rfl, _, _, rfl, rfl, m0, ?_⟩
      exact fin _ (Int.emod_nonneg _ (by omega)) (Int.emod_lt_of_pos _ m0)
end
end Ev

/-! ## Data of tuples, to be compared -/
namespace Ev
open PySem PySem.Spec PyProof.Rows L2
mutual
theorem da_dp2 {K : PySem.W.Frag} {H : Hp} : ∀ {v : V} {d : PyData}, tupD d = true → Da K H v d → Dp K H v d
  | _, .none, _, h => by
    cases h
    exact .non
  | _, .bool b, _, h => by
    cases h
    exact .bl b
  | _, .int i, _, h => by
    cases h
    exact .int i
  | _, .str x, _, h => by
    cases h
    exact .str x
  | _, .list ds, t, _ => by
    rw [tupD] at t
    cases t
  | _, .tuple ds, t, h => by
    rw [tupD] at t
    cases h with
    | tup hs ha => exact .tup hs (daAll_dp2 t ha)
  | _, .dict _, t, _ => by
    rw [tupD] at t
    cases t
theorem daAll_dp2 {K : PySem.W.Frag} {H : Hp} : ∀ {vs : List V} {ds : List PyData}, tupDs ds = true → DaAll K H vs ds → DpAll K H vs ds
  | _, [], _, h => by
    cases h
    exact .nil
  | _, d :: ds, t, h => by
    rw [tupDs, Bool.and_eq_true] at t
    cases h with
    | cons h1 h2 => exact .cons (da_dp2 t.1 h1) (daAll_dp2 t.2 h2)
end
end Ev

/-! ## k62: the law -/
namespace Ev
open PySem PySem.Spec PyProof.Rows L2
def spLaw (K : PySem.W.Frag) : Sp := fun vs H Q _ => ∃ (a : Addr) (ns : List Int), vs = [.ref a] ∧ SqL K H a (ns.map V.int) ∧ ∀ H', Q (.bl true) H'
theorem scLaw : FnScope ["_law_script", "_law_k", "_law_stream_here", "_law_row", "_law_gap", "_law_page", "_law_bench", "_law_other", "_law_desk"] ["_law_script"] (defScope (topS 119)) := ⟨rfl, rfl, rfl, by decide +kernel, rfl, by decide +kernel, by decide +kernel⟩
theorem mm2 (n : Int) : -(2 ^ 62) ≤ (if (if n < 2 then n else 2) > 1 then (if n < 2 then n else 2) else 1) ∧ (if (if n < 2 then n else 2) > 1 then (if n < 2 then n else 2) else 1) < 2 ^ 62 ∧ (if (if n < 2 then n else 2) > 1 then (if n < 2 then n else 2) else 1).toNat ≤ 2 := by
  split <;> split <;> omega
/-- the two lines -/
def r62 (s t : Int) : List It := [.line "a" s, .line "b" t]
theorem okN_a : okN "a" := by
  refine ⟨by decide +kernel, by decide +kernel, ?_⟩
  decide +kernel
theorem okN_b : okN "b" := by
  refine ⟨by decide +kernel, by decide +kernel, ?_⟩
  decide +kernel
theorem r62_vp {s t : Nat} (s1 : 1 ≤ s) (s5 : s ≤ 5) (t1 : 1 ≤ t) (t5 : t ≤ 5) : Vp (r62 s t) := by
  refine ⟨by show 1 ≤ 2; decide, by show 2 ≤ 20; decide, fun i hi => ?_, by show 2 ≤ 60; decide⟩
  simp only [r62, List.mem_cons, List.not_mem_nil, or_false] at hi
  rcases hi with rfl | rfl
  · exact vi_line.mpr ⟨by decide +kernel, by omega, by omega⟩
  · exact vi_line.mpr ⟨by decide +kernel, by omega, by omega⟩
theorem r62_vt {s t : Nat} (s1 : 1 ≤ s) (s5 : s ≤ 5) (t1 : 1 ≤ t) (t5 : t ≤ 5) : ∀ i ∈ r62 s t, Vt 5 i := fun i hi => by
  simp only [r62, List.mem_cons, List.not_mem_nil, or_false] at hi
  rcases hi with rfl | rfl
  · exact vt_line.mpr ⟨okN_a, by omega, by omega⟩
  · exact vt_line.mpr ⟨okN_b, by omega, by omega⟩
theorem w62_vp {s t : Nat} (s1 : 1 ≤ s) (s5 : s ≤ 5) (t1 : 1 ≤ t) (t5 : t ≤ 5) : Vp [.loop 2 (r62 s t)] := by
  refine ⟨by show 1 ≤ 1; decide, by show 1 ≤ 20; decide, fun i hi => ?_, by show 3 ≤ 60; decide⟩
  rw [List.mem_singleton] at hi
  subst hi
  have v := r62_vp s1 s5 t1 t5
  refine ⟨by decide, by decide, v.ne, v.le, fun i hi => ?_⟩
  simp only [r62, List.mem_cons, List.not_mem_nil, or_false] at hi
  rcases hi with rfl | rfl
  · exact vi_line.mpr ⟨by decide +kernel, by omega, by omega⟩
  · exact vi_line.mpr ⟨by decide +kernel, by omega, by omega⟩
theorem l62_vp {t : Nat} (t1 : 1 ≤ t) (t5 : t ≤ 5) : Vp [.line "b" t] := by
  refine ⟨by show 1 ≤ 1; decide, by show 1 ≤ 20; decide, fun i hi => ?_, by show 1 ≤ 60; decide⟩
  rw [List.mem_singleton] at hi
  subst hi
  exact vi_line.mpr ⟨by decide +kernel, by omega, by omega⟩
/-- all data of the law can be compared -/
def ok62 (s t : Nat) : Bool :=
  [(PyData.tuple ((r62 s t).map It.d)), .tuple (padD ((r62 s t).map It.d) 0), .tuple (padD ((r62 s t).map It.d) 1), .tuple (padD ((r62 s t).map It.d) 2), .tuple [It.d (.loop 2 (r62 s t))], .tuple [It.d (.line "b" t)], It.d (.line "a" s),
    totD [.loop 2 (r62 s t)] (lkW (Its.w [.loop 2 (r62 s t)]) 2 1)].all fun d => SeqAt.shaped d && tupD d
theorem ok62_all : ((List.range 6).all fun s => (List.range 6).all fun t => ok62 s t) = true := by decide +kernel
theorem ok62_at {s t : Nat} (s5 : s ≤ 5) (t5 : t ≤ 5) {d : PyData} (hd : d ∈ [(PyData.tuple ((r62 s t).map It.d)), .tuple (padD ((r62 s t).map It.d) 0), .tuple (padD ((r62 s t).map It.d) 1), .tuple (padD ((r62 s t).map It.d) 2), .tuple [It.d (.loop 2 (r62 s t))], .tuple [It.d (.line "b" t)], It.d (.line "a" s),
    totD [.loop 2 (r62 s t)] (lkW (Its.w [.loop 2 (r62 s t)]) 2 1)]) : SeqAt.shaped d = true ∧ tupD d = true := by
  have z := List.all_eq_true.mp (List.all_eq_true.mp ok62_all s (List.mem_range.mpr (by omega))) t (List.mem_range.mpr (by omega))
  have z2 := List.all_eq_true.mp z d hd
  rw [Bool.and_eq_true] at z2
  exact z2
theorem BnAt.kj62 {K : PySem.W.Frag} {C p e : Addr} {H H' : Hp} {is : List It} {hs : List (List It)} (h : BnAt K C H p e is hs) (s : Bu2 p e H H') : Kj H H' := by
  obtain ⟨dx, cur, h1, _⟩ := h.ob
  obtain ⟨us, h2, _⟩ := h.er
  intro b o ho n m
  refine s b o (fun z => ?_) (fun z => ?_) ho
  · rw [z, h1] at ho
    cases ho
    exact m _ _ _ rfl
  · rw [z, h2] at ho
    cases ho
    exact n _ rfl
theorem da_line62 {K : PySem.W.Frag} {H : Hp} {v : V} {x : Str} {t : Int} (h : Da K H v (It.d (.line x t))) : ∃ c, v = .ref c ∧ SqT K H c [.str "line", .str x, .int t] := by
  rw [It.d] at h
  obtain ⟨c, xs, rfl, hc, hx⟩ := da_prog h
  cases hx with
  | cons h1 h2 =>
    cases h2 with
    | cons h3 h4 =>
      cases h4 with
      | cons h5 h6 =>
        cases h6
        cases da_strE h1
        cases da_strE h3
        cases da_intE h5
        exact ⟨c, rfl, hc⟩
theorem w_r62 (s t : Nat) : (Its.w (r62 s t)).length = s + t := by
  simp [r62, Its.w, It.w]
theorem gcd6 (n : Nat) : Nat.gcd 6 n ≤ 2000 := Nat.le_trans (Nat.gcd_le_left n (by decide)) (by decide)
theorem neD_no {K : PySem.W.Frag} {H : Hp} {x y : V} {d : PyData} {Q : VK} (hx : Da K H x d) (hy : Da K H y d) (ok : SeqAt.shaped d = true ∧ tupD d = true) (q : Q (.bl false) H) : rNeD K x y H Q := by
  refine ⟨d, d, da_dp2 ok.2 hx, da_dp2 ok.2 hy, ok.1, ok.1, ?_⟩
  rw [PySem.SeqAt.eqv_refl d (SeqAt.canLay_of_shaped ok.1)]
  exact q
section
variable {P : Program} {w : World} {K : PySem.W.Frag} {mg : Str → Option Value} {base : Heap} {C CD d_FORMS d_ACTIONS : Addr} {kD : Nat}
theorem ok_law (T : BTx K mg C) (TD : DTx K CD) (hm : ∃ mm, base.Ns sysModules mm) {f : Addr} {fd : FuncData} (F : Fun K "law" "law" (topS 119) f fd) (C__law_stream : Cal P w K mg base 1 "_law_stream" ["_law_script", "_law_k"] (spPotS K)) (C__law_draw : Cal P w K mg base 1 "_law_draw" ["_law_stream_here", "_law_many"] spDraw)
    (C_padded : Cal P w K mg base 1 "padded" ["program", "ticks"] (spPad K)) (R_padded : CalR P w K mg base 1 "padded" ["program", "ticks"] (spPad K)) (C_least_padding : Cal P w K mg base 12 "least_padding" ["program", "period"] (spLP K 70 5)) (R_least_padding : CalR P w K mg base 12 "least_padding" ["program", "period"] (spLP K 70 5))
    (C_show_program : Cal P w K mg base 13 "show_program" ["program"] (spShw K 5)) (R_show_program : CalR P w K mg base 13 "show_program" ["program"] (spShw K 5)) (R_read_program : CalR P w K mg base 16 "read_program" ["text"] (spRpT K))
    (KR_Bench : KCalR P w K mg base 16 C "Bench" ["program"] (spBI K C)) (KR_Desk : KCalR P w K mg base 18 CD "Desk" ["text"] (spDI K C CD)) (M_program : MCal P w K mg base 1 C "program" ["self"] (spBP K C)) (MR_wrap : MCalR P w K mg base 17 C "wrap" ["first", "stop", "rounds"] (spBW K C))
    (M_safe : MCal P w K mg base 20 C "safe" ["self", "period"] (spBS K C)) (MR_safe : MCalR P w K mg base 20 C "safe" ["period"] (spBS K C)) (M_looks : MCal P w K mg base 20 C "looks" ["self", "period", "start"] (spBLk K C)) (MR_looks : MCalR P w K mg base 20 C "looks" ["period", "start"] (spBLk K C))
    (MR_delete : MCalR P w K mg base 4 C "delete" ["index"] (spBD K C)) (MR_run : MCalR P w K mg base (kD + 1) CD "run" ["line"] (spDR P K w mg base kD CD d_FORMS d_ACTIONS)) (hk : kD ≤ 19) (FS : ∃ t, Fo0 K w d_FORMS "show" t) (FL : ∃ t, Fo0 K w d_FORMS "length" t) (AS : ∃ f, KDct K w d_ACTIONS "show" (.ref f) ∧ StarF P w K mg base kD f (spTp K C)) (AL : ∃ f, KDct K w d_ACTIONS "length" (.ref f) ∧ StarF P w K mg base kD f (spTl K C)) (nb : NB mg) :
    FnG P w K mg base CX0 22 f fd ["_law_script"] (spLaw K) := by
  refine okG F scLaw (fun vs H Q E h => ?_) (fun cdv A outer s H vs Q E hr gd h => ?_)
  · obtain ⟨a, ns, rfl, _⟩ := h
    rfl
  · obtain ⟨a, ns, rfl, hS, q⟩ := h
    refine ⟨_, (pss_cons (ps_for PassesOwn.never rfl (pi_range1 rfl nb.at (pa_cons (pe_callB (call_max2 rfl) (by rfl) nb.at (by decide +kernel) (pa_cons pe_int (pa_cons (pe_callB (call_min2 rfl) (by rfl) nb.at (by decide +kernel) (pa_cons pe_int (pa_cons (pe_callB call_len_seq (by rfl) nb.at PySem.boot_len (pa_cons (pv 0) pa_nil)) pa_nil))) pa_nil))) pa_nil)) (pg_name (i := 1) scLaw.nd rfl (Or.inl rfl))
        (pss_cons (ps_set (i := 2) scLaw.nd rfl (.inl rfl) (pcall C__law_stream (hr.mono (by omega)) gd (by rfl) (pa_cons (pv 0) (pa_cons (pv 1) pa_nil))))
        (pss_cons (ps_set (i := 3) scLaw.nd rfl (.inl rfl) (pe_tup (pa_cons (pe_tup (pa_cons pe_str (pa_cons pe_str (pa_cons (pe_op op_add pe_int (pcall C__law_draw (hr.mono (by omega)) gd (by rfl) (pa_cons (pv 2) (pa_cons pe_int pa_nil)))) pa_nil)))) (pa_cons (pe_tup (pa_cons pe_str (pa_cons pe_str (pa_cons (pe_op op_add pe_int (pcall C__law_draw (hr.mono (by omega)) gd (by rfl) (pa_cons (pv 2) (pa_cons pe_int pa_nil)))) pa_nil)))) pa_nil))))
        (pss_cons (ps_set (i := 4) scLaw.nd rfl (.inl rfl) (pcall C__law_draw (hr.mono (by omega)) gd (by rfl) (pa_cons (pv 2) (pa_cons pe_int pa_nil))))
        (pss_cons (ps_if (pt_cmpR (op_neD hr.units) (pcallR R_padded (hr.mono (by omega)) gd (by rfl) (pk_cons (pv 4) (pk_cons (pv 3) pk_nil))) (pcall C_padded (hr.mono (by omega)) gd (by rfl) (pa_cons (pv 3) (pa_cons (pv 4) pa_nil))) (nomark _))
          (pss_one (ps_ret pe_bl))
          pss_nil)
        (pss_cons (ps_if (pt_cmpR op_ne (pcallR R_least_padding (hr.mono (by omega)) gd (by rfl) (pk_cons pe_int (pk_cons (pv 3) pk_nil))) (pcall C_least_padding (hr.mono (by omega)) gd (by rfl) (pa_cons (pv 3) (pa_cons pe_int pa_nil))) (nomark _))
          (pss_one (ps_ret pe_bl))
          pss_nil)
        (pss_cons (ps_par (i := 5) (j := 6) rfl scLaw.nd rfl rfl (by decide) rfl rfl (pa_cons (pcallR R_show_program (hr.mono (by omega)) gd (by rfl) (pk_cons (pv 3) pk_nil)) (pa_cons (pmakeR KR_Bench (hr.mono (by omega)) (by rfl) (pk_cons (pv 3) pk_nil)) pa_nil)) (by rfl))
        (pss_cons (ps_if (PW.pt (pw_or (pt_cmpR op_ne (pv 5) (pcall C_show_program (hr.mono (by omega)) gd (by rfl) (pa_cons (pv 3) pa_nil)) (nomark _)) (pw_or (pt_cmpR (op_neD hr.units) (pcallR R_read_program (hr.mono (by omega)) gd (by rfl) (pk_cons (pv 5) pk_nil)) (pv 3) (nomark _)) (pw_or1 (pt_cmpR (op_neD hr.units) (pmeth0 M_program T.cl (hr.mono (by omega)) (pv 6)) (pv 3) (nomark _))))))
          (pss_one (ps_ret pe_bl))
          pss_nil)
        (pss_cons (ps_if (PW.pt (pw_or (pt_cmp (pc_notN (pmethR MR_wrap T.cl (hr.mono (by omega)) (pv 6) (pk_cons pe_int (pk_cons pe_int (pk_cons pe_int pk_nil))))) rfl) (pw_or1 (pt_cmpR (op_neD hr.units) (pmeth0 M_program T.cl (hr.mono (by omega)) (pv 6)) (pe_tup (pa_cons (pe_tup (pa_cons pe_str (pa_cons pe_int (pa_cons (pv 3) pa_nil)))) pa_nil)) (nomark _)))))
          (pss_one (ps_ret pe_bl))
          pss_nil)
        (pss_cons (ps_if (PW.pt (pw_or (pt_cmpR op_ne (pmethR MR_safe T.cl (hr.mono (by omega)) (pv 6) (pk_cons pe_int pk_nil)) (pmeth M_safe T.cl (hr.mono (by omega)) (pv 6) (pa_cons pe_int pa_nil)) (nomark _)) (pw_or1 (pt_cmpR (op_neD hr.units) (pmethR MR_looks T.cl (hr.mono (by omega)) (pv 6) (pk_cons pe_int (pk_cons pe_int pk_nil))) (pmeth M_looks T.cl (hr.mono (by omega)) (pv 6) (pa_cons pe_int (pa_cons pe_int pa_nil))) (nomark _)))))
          (pss_one (ps_ret pe_bl))
          pss_nil)
        (pss_cons (ps_set (i := 7) scLaw.nd rfl (.inl rfl) (pmakeR KR_Bench (hr.mono (by omega)) (by rfl) (pk_cons (pv 3) pk_nil)))
        (pss_cons (ps_if (PW.pt (pw_or (pt_cmpR (op_neD hr.units) (pmethR MR_delete T.cl (hr.mono (by omega)) (pv 7) (pk_cons pe_int pk_nil)) (pe_ix ix_tup (pv 3) pe_int (fun _ _ => rfl)) (nomark _)) (pw_or1 (pt_cmpR (op_neD hr.units) (pmeth0 M_program T.cl (hr.mono (by omega)) (pv 7)) (pe_slice sl_tupA (pv 3) (po_some pe_int) po_none) (nomark _)))))
          (pss_one (ps_ret pe_bl))
          pss_nil)
        (pss_cons (ps_set (i := 8) scLaw.nd rfl (.inl rfl) (pmakeR KR_Desk (hr.mono (by omega)) (by rfl) (pk_cons (pv 5) pk_nil)))
        (pss_one (ps_if (PW.pt (pw_or (pt_cmpR op_ne (pmethR MR_run TD.cl (hr.mono (by omega)) (pv 8) (pk_cons pe_str pk_nil)) (pv 5) (nomark _)) (pw_or1 (pt_cmpR op_ne (pmethR MR_run TD.cl (hr.mono (by omega)) (pv 8) (pk_cons pe_str pk_nil)) (pe_callTy call_str_int (by rfl) nb.at (by decide +kernel) (pa_cons (pe_op op_add (pe_ix ix_tup (pe_ix ix_tup (pv 3) pe_int (fun _ _ => rfl)) pe_int (fun _ _ => rfl)) (pe_ix ix_tup (pe_ix ix_tup (pv 3) pe_int (fun _ _ => rfl)) pe_int (fun _ _ => rfl))) pa_nil)) (nomark _)))))
          (pss_one (ps_ret pe_bl))
          pss_nil)))))))))))))))
      (pss_one (ps_ret pe_bl))), ?_⟩
    have y := sizeLine_eq
    refine ⟨_, rfl, a, _, rfl, .inl hS, 2, _, rfl, 1, _, rfl, _, rfl, (mm2 _).1, (mm2 _).2.1, for_range (lo := 0) (fun i σ' H' => ∃ y1 y2 y3 y4 y5 y6 y7 y8 : Option V, σ' = [some (.ref a), y1, y2, y3, y4, y5, y6, y7, y8] ∧ SqL K H' a (ns.map V.int))
      ⟨_, _, _, _, _, _, _, _, rfl, hS⟩ ?_ ?_⟩
    · rintro i σ' H1 hi ⟨y1, y2, y3, y4, y5, y6, y7, y8, rfl, hS1⟩
      have hi2 : i < 2 := Nat.lt_of_lt_of_le hi (mm2 _).2.2
      refine ⟨_, rfl, _, rfl, a, ns, _, rfl, hS1, by omega, by omega, fun H2 p np s2 hp2 => ?_⟩
      refine ⟨_, rfl, p, 5, _, rfl, hp2, by decide, by decide, by decide, fun H3 d1 b3 hp3 d10 d15 => ⟨_, _, rfl, rfl, (by show 3 ≤ sizeLine; rw [y]; decide), fun q1 n1 => ?_⟩⟩
      have hp3' : PotA p 1 (upd H3 q1 (.tup [.str "line", .str "a", .int (1 + d1)])) := hp3.new n1
      have k3 : Same H3 (upd H3 q1 (.tup [.str "line", .str "a", .int (1 + d1)])) := same_put n1
      have e1 : (upd H3 q1 (.tup [.str "line", .str "a", .int (1 + d1)])) q1 = some (.tup [.str "line", .str "a", .int (1 + d1)]) := upd_same
      generalize upd H3 q1 (.tup [.str "line", .str "a", .int (1 + d1)]) = H4 at hp3' k3 e1 ⊢
      refine ⟨_, rfl, p, 5, _, rfl, hp3', by decide, by decide, by decide, fun H5 d2 b5 hp5 d20 d25 => ⟨_, _, rfl, rfl, (by show 3 ≤ sizeLine; rw [y]; decide), fun q2 n2 => ?_⟩⟩
      refine ⟨(by show 2 ≤ sizeLine; rw [y]; decide), fun q3 n3 => ?_⟩
      obtain ⟨s, hs, s1, s5⟩ : ∃ s : Nat, 1 + d1 = (s : Int) ∧ 1 ≤ s ∧ s ≤ 5 := ⟨(1 + d1).toNat, by omega, by omega, by omega⟩
      obtain ⟨t, ht, t1, t5⟩ : ∃ t : Nat, 1 + d2 = (t : Int) ∧ 1 ≤ t ∧ t ≤ 5 := ⟨(1 + d2).toNat, by omega, by omega, by omega⟩
      rw [hs] at e1
      dsimp only at n3 ⊢
      rw [ht] at n3 ⊢
      obtain ⟨xp, ep, _⟩ := hp3
      have pq1 : p ≠ q1 := ne_of_none ep n1
      have e5 := b5 _ _ pq1.symm e1
      have g2 : Same H5 (upd H5 q2 (.tup [.str "line", .str "b", .int (t : Nat)])) := same_put n2
      have g3 := g2.trans (same_put (o := .tup [.ref q1, .ref q2]) n3)
      have hd6 : Da K (upd (upd H5 q2 (.tup [.str "line", .str "b", .int (t : Nat)])) q3 (.tup [.ref q1, .ref q2])) (.ref q3) (.tuple ((r62 s t).map It.d)) := .tup (.inl (.inl upd_same)) (.cons (.tup (.inl (.inl (g3 _ _ e5))) (.cons (.str _) (.cons (.str _) (.cons (.int _) .nil)))) (.cons (.tup (.inl (.inl (same_put n3 _ _ upd_same))) (.cons (.str _) (.cons (.str _) (.cons (.int _) .nil)))) .nil))
      have hp6 := (hp5.new (o := .tup [.str "line", .str "b", .int (t : Nat)]) n2).new (o := .tup [.ref q1, .ref q2]) n3
      have k6 : ∀ c o, c ≠ p → H1 c = some o → (upd (upd H5 q2 (.tup [.str "line", .str "b", .int (t : Nat)])) q3 (.tup [.ref q1, .ref q2])) c = some o := fun c o nc h => g3 _ _ (b5 _ _ nc (k3 _ _ (b3 _ _ nc (s2 _ _ h))))
      generalize (upd (upd H5 q2 (.tup [.str "line", .str "b", .int (t : Nat)])) q3 (.tup [.ref q1, .ref q2])) = H6 at hd6 hp6 k6 ⊢
      refine ⟨_, rfl, p, 3, _, rfl, hp6, by decide, by decide, by decide, fun H7 g b7 hp7 g0 g3' => ?_⟩
      have hd7 := hd6.bu (prog_tup _) hp6 b7
      obtain ⟨g, rfl⟩ : ∃ k : Nat, g = (k : Nat) := ⟨g.toNat, by omega⟩
      have k7 : ∀ c o, c ≠ p → H1 c = some o → H7 c = some o := fun c o nc h => b7 _ _ nc (k6 _ _ nc h)
      have vp := r62_vp s1 s5 t1 t5
      have okP : SeqAt.shaped (.tuple (padD ((r62 s t).map It.d) (g : Nat))) = true ∧ tupD (.tuple (padD ((r62 s t).map It.d) (g : Nat))) = true := by
        have hg : g = 0 ∨ g = 1 ∨ g = 2 := by omega
        rcases hg with rfl | rfl | rfl
        · exact ok62_at s5 t5 (by simp)
        · exact ok62_at s5 t5 (by simp)
        · exact ok62_at s5 t5 (by simp)
      have okR := ok62_at s5 t5 (d := .tuple ((r62 s t).map It.d)) (by simp)
      refine ⟨_, rfl, _, rfl, rfl, .ref q3, _, _, rfl, hd7, (by show 2 ≤ 1000000; decide), fun H8 u s8 hu8 => ?_⟩
      refine ⟨_, rfl, _, rfl, .ref q3, _, _, rfl, hd7.mono s8, (by show 2 ≤ 1000000; decide), fun H9 v s9 hv9 => neD_no (hu8.mono s9) hv9 okP ⟨_, rfl, iteF ?_⟩⟩
      have s79 := s8.trans s9
      have hd9 := hd7.mono s79
      refine ⟨_, rfl, rfl, .ref q3, r62 s t, 6, rfl, vp.prg70 hd9, vp.ps, (by show 2 < 60; decide), (by show 2 ≤ 1000; decide), by decide, by decide, fun H10 m1 s10 ev1 mn1 _ => ?_⟩
      refine ⟨_, rfl, .ref q3, r62 s t, 6, rfl, vp.prg70 (hd9.mono s10), vp.ps, (by show 2 < 60; decide), (by show 2 ≤ 1000; decide), by decide, by decide, fun H11 m2 s11 ev2 mn2 _ => ?_⟩
      have em : m1 = m2 := by
        rcases Nat.lt_trichotomy m1 m2 with h | h | h
        · exact (mn2 _ h ev1).elim
        · exact h
        · exact (mn1 _ h ev2).elim
      subst em
      refine ⟨rfl, _, rfl, ?_⟩
      rw [decide_eq_true (rfl : V.int ((m1 : Nat) : Int) = V.int ((m1 : Nat) : Int))]
      refine iteF ?_
      have s911 := s10.trans s11
      have hd11 := hd9.mono s911
      have vt := r62_vt s1 s5 t1 t5
      refine ⟨_, rfl, rfl, .ref q3, r62 s t, rfl, hd11, vt, (by show 2 ≤ 1000; decide), fun H12 s12 => ?_⟩
      refine ⟨_, rfl, rfl, fun b xd nb nd ne => ?_⟩
      have g1 : Same H12 (upd H12 xd (.own b)) := same_put nd
      have nb1 : (upd H12 xd (HO.own b)) b = none := by
        rw [upd_ne ne.symm]
        exact nb
      have g2' := g1.trans (same_put (o := .ins C xd []) nb1)
      have hd12 := (hd11.mono s12).mono g2'
      refine ⟨b, xd, .ref q3, r62 s t, rfl, upd_same, hd12, vp, fun e H13 ne13 hb bu => ⟨rfl, _, _, rfl, ?_⟩⟩
      have kj13 : Kj _ H13 := fun c o h _ m => bu c o (fun z => by
        rw [z, upd_same] at h
        cases h
        exact m _ _ _ rfl) h
      have hd13 := hd12.kj kj13 (prog_tup _)
      have k13 : ∀ c o, c ≠ p → H1 c = some o → H13 c = some o := fun c o nc h => by
        have z := s12 _ _ (s911 _ _ (s79 _ _ (k7 _ _ nc h)))
        exact bu _ _ (ne_of_none z nb) (g2' _ _ z)
      have ke : ∀ c o, c ≠ p → H1 c = some o → c ≠ b ∧ c ≠ e := fun c o nc h => by
        have z := s12 _ _ (s911 _ _ (s79 _ _ (k7 _ _ nc h)))
        exact ⟨ne_of_none z nb, ne_of_none (g2' _ _ z) ne13⟩
      clear kj13 bu ne13
      refine ⟨_, rfl, _, rfl, .ref q3, r62 s t, rfl, hd13, vt, (by show 2 ≤ 1000; decide), fun H14 s14 => ⟨rfl, _, rfl, ?_⟩⟩
      rw [decide_eq_true (rfl : V.str (mkS (Its.tx (r62 s t))) = V.str (mkS (Its.tx (r62 s t))))]
      refine iteF ?_
      refine ⟨_, rfl, rfl, r62 s t, rfl, (by show 1 ≤ 2; decide), (by show 2 ≤ 20; decide), (by show 2 ≤ 60; decide), vt, fun H15 u15 s15 hu15 => ?_⟩
      have s1315 := s14.trans s15
      refine ⟨_, rfl, neD_no hu15 (hd13.mono s1315) okR ⟨_, rfl, iteF ?_⟩⟩
      have hb15 := hb.same s1315
      have hd15 := hd13.mono s1315
      obtain ⟨dx15, cur15, h15, _⟩ := hb15.ob
      refine ⟨_, rfl, b, dx15, _, rfl, h15, rfl, b, e, r62 s t, [], rfl, hb15, fun v15 hv15 => ⟨_, rfl, neD_no hv15 hd15 okR ⟨_, rfl, iteF ?_⟩⟩⟩
      have ew : putI (r62 s t) 0 2 (wrapI (r62 s t) 0 2 2) = [.loop 2 (r62 s t)] := rfl
      refine ⟨_, rfl, b, dx15, _, rfl, h15, rfl, rfl, b, e, r62 s t, [], 0, 2, 2, rfl, hb15, by decide, by decide, (by show 2 ≤ 2; decide), (by rw [ew]; exact w62_vp s1 s5 t1 t5), fun H16 b16 hb16 => ?_⟩
      rw [ew] at hb16
      refine ⟨false, by simp, iteF ?_⟩
      have hd16 := hd15.kj (hb15.kj62 b16) (prog_tup _)
      have okW := ok62_at s5 t5 (d := .tuple [It.d (.loop 2 (r62 s t))]) (by simp)
      obtain ⟨dx16, cur16, h16, _⟩ := hb16.ob
      refine ⟨_, rfl, b, dx16, _, rfl, h16, rfl, b, e, _, _, rfl, hb16, fun v16 hv16 => ?_⟩
      refine ⟨_, rfl, (by show 3 ≤ sizeLine; rw [y]; decide), fun q4 n4 => ⟨(by show 1 ≤ sizeLine; rw [y]; decide), fun q5 n5 => ?_⟩⟩
      have w4 : Same H16 (upd H16 q4 (.tup [.str "loop", .int 2, .ref q3])) := same_put n4
      have w5 := w4.trans (same_put (o := .tup [.ref q4]) n5)
      refine neD_no (hv16.mono w5) (.tup (.inl (.inl upd_same)) (.cons (by
        rw [It.d, Its.d_map]
        exact .tup (.inl (.inl (same_put n5 _ _ upd_same))) (.cons (.str _) (.cons (.int _) (.cons (hd16.mono w5) .nil)))) .nil)) okW ⟨_, rfl, iteF ?_⟩
      have hb18 := hb16.same w5
      have hd18 := hd16.mono w5
      have k18 : ∀ c o, c ≠ p → H1 c = some o → (upd (upd H16 q4 (.tup [.str "loop", .int 2, .ref q3])) q5 (.tup [.ref q4])) c = some o := fun c o nc h => by
        exact w5 _ _ (b16 _ _ (ke _ _ nc h).1 (ke _ _ nc h).2 (s1315 _ _ (k13 _ _ nc h)))
      generalize (upd (upd H16 q4 (.tup [.str "loop", .int 2, .ref q3])) q5 (.tup [.ref q4])) = H18 at hb18 hd18 k18 ⊢
      obtain ⟨dx18, cur18, h18, _⟩ := hb18.ob
      refine ⟨_, rfl, b, dx18, _, rfl, h18, rfl, rfl, b, e, _, _, 6, rfl, hb18, by decide, gcd6 _, fun H19 c1 s19 i1 => ?_⟩
      have hb19 := hb18.same s19
      refine ⟨_, rfl, b, dx18, _, rfl, s19 _ _ h18, rfl, _, _, _, _, 6, rfl, hb19, by decide, gcd6 _, fun H20 c2 s20 i2 => ?_⟩
      have ec : c1 = c2 := by
        rw [Bool.eq_iff_iff]
        exact i1.trans i2.symm
      subst ec
      refine ⟨rfl, _, rfl, ?_⟩
      rw [decide_eq_true (rfl : V.bl c1 = V.bl c1)]
      refine iteF ?_
      have s1820 := s19.trans s20
      have hb20 := hb18.same s1820
      have okL := ok62_at s5 t5 (d := totD [.loop 2 (r62 s t)] (lkW (Its.w [.loop 2 (r62 s t)]) 2 1)) (by simp)
      refine ⟨_, rfl, b, dx18, _, rfl, s1820 _ _ h18, rfl, rfl, b, e, _, _, 2, 1, rfl, hb20, by decide, by decide, fun H21 u21 s21 hu21 => ?_⟩
      have hb21 := hb20.same s21
      refine ⟨_, rfl, b, dx18, _, rfl, s21 _ _ (s1820 _ _ h18), rfl, b, e, _, _, 2, 1, rfl, hb21, by decide, by decide, fun H22 u22 s22 hu22 => neD_no (hu21.mono s22) hu22 okL ⟨_, rfl, iteF ?_⟩⟩
      have s1822 := s1820.trans (s21.trans s22)
      have hd22 := hd18.mono s1822
      refine ⟨_, rfl, rfl, fun b2 xd2 nb2 nd2 ne2 => ?_⟩
      have m1' : Same H22 (upd H22 xd2 (.own b2)) := same_put nd2
      have nb3 : (upd H22 xd2 (HO.own b2)) b2 = none := by
        rw [upd_ne ne2.symm]
        exact nb2
      have m2' := m1'.trans (same_put (o := .ins C xd2 []) nb3)
      refine ⟨b2, xd2, .ref q3, r62 s t, rfl, upd_same, hd22.mono m2', vp, fun e2 H23 ne23 hb23 bu23 => ⟨rfl, ?_⟩⟩
      have hd23 := (hd22.mono m2').kj (fun c o h _ m => bu23 c o (fun z => by
        rw [z, upd_same] at h
        cases h
        exact m _ _ _ rfl) h) (prog_tup _)
      have k23 : ∀ c o, c ≠ p → H1 c = some o → H23 c = some o := fun c o nc h => by
        have z := s1822 _ _ (k18 _ _ nc h)
        exact bu23 _ _ (ne_of_none z nb2) (m2' _ _ z)
      have ke2 : ∀ c o, c ≠ p → H1 c = some o → c ≠ b2 ∧ c ≠ e2 := fun c o nc h => by
        have z := s1822 _ _ (k18 _ _ nc h)
        exact ⟨ne_of_none z nb2, ne_of_none (m2' _ _ z) ne23⟩
      clear bu23 ne23
      obtain ⟨dx23, cur23, h23, _⟩ := hb23.ob
      refine ⟨_, rfl, b2, dx23, _, rfl, h23, rfl, rfl, b2, e2, r62 s t, [], 0, .line "a" s, rfl, hb23, by decide, rfl, (by show 2 ≤ 2; decide), fun H24 u24 b24 hb24 hu24 => ?_⟩
      have hd24 := hd23.kj (hb23.kj62 b24) (prog_tup _)
      obtain ⟨c24, xs24, ec24, hc24, hx24⟩ := da_prog hd24
      cases ec24
      have okA := ok62_at s5 t5 (d := It.d (.line "a" s)) (by simp)
      have okB := ok62_at s5 t5 (d := .tuple [It.d (.line "b" t)]) (by simp)
      obtain ⟨x1, hx1, x2, hx2, exs⟩ : ∃ x1, Da K H24 x1 (It.d (.line "a" s)) ∧ ∃ x2, Da K H24 x2 (It.d (.line "b" t)) ∧ xs24 = [x1, x2] := by
        cases hx24 with
        | cons h1 h2 =>
          cases h2 with
          | cons h3 h4 =>
            cases h4
            exact ⟨_, h1, _, h3, rfl⟩
      subst exs
      refine ⟨_, rfl, q3, _, 0, x1, rfl, rfl, hc24, rfl, neD_no hu24 hx1 okA ⟨_, rfl, iteF ?_⟩⟩
      obtain ⟨dx24, cur24, h24, _⟩ := hb24.ob
      refine ⟨_, rfl, b2, dx24, _, rfl, h24, rfl, b2, e2, _, _, rfl, hb24, fun v24 hv24 => ⟨_, rfl, _, rfl, ?_⟩⟩
      dsimp only [tNoPart]
      refine sl_val (lo := some ((1 : Nat) : Int)) (hi := none) hd24 fun H25 u25 s25 hu25 => ?_
      rw [cut_from] at hu25
      refine neD_no (hv24.mono s25) hu25 okB ⟨_, rfl, iteF ?_⟩
      have hd25 := hd24.mono s25
      have k25 : ∀ c o, c ≠ p → H1 c = some o → H25 c = some o := fun c o nc h => s25 _ _ (b24 _ _ (ke2 _ _ nc h).1 (ke2 _ _ nc h).2 (k23 _ _ nc h))
      refine ⟨_, rfl, rfl, fun dk xdk ndk nxdk nedk => ?_⟩
      have m3' : Same H25 (upd H25 xdk (.own dk)) := same_put nxdk
      have ndk3 : (upd H25 xdk (HO.own dk)) dk = none := by
        rw [upd_ne nedk.symm]
        exact ndk
      have m4' := m3'.trans (same_put (o := .ins CD xdk []) ndk3)
      refine ⟨dk, xdk, r62 s t, rfl, upd_same, (by show 1 ≤ 2; decide), (by show 2 ≤ 20; decide), (by show 2 ≤ 60; decide), vt, vp, fun b3' e3' H26 _ _ _ hb26 hdk26 bu26 => ⟨rfl, ?_⟩⟩
      have hd26 := (hd25.mono m4').kj (fun c o h _ m => bu26 c o (fun z => by
        rw [z, upd_same] at h
        cases h
        exact m _ _ _ rfl) h) (prog_tup _)
      have k26 : ∀ c o, c ≠ p → H1 c = some o → H26 c = some o := fun c o nc h => by
        have z := k25 _ _ nc h
        exact bu26 _ _ (ne_of_none z ndk) (m4' _ _ z)
      clear bu26
      obtain ⟨dxk, hdkk⟩ := id hdk26
      obtain ⟨tS, hFS⟩ := FS
      obtain ⟨tL, hFL⟩ := FL
      obtain ⟨fS, hAS, hSS⟩ := AS
      obtain ⟨fL, hAL, hSL⟩ := AL
      refine ⟨_, rfl, dk, dxk, _, rfl, hdkk, rfl, rfl, dk, b3', "show", tS, fS, _, rfl, hdk26, hFS, hAS, hSS, fun H27 s27 => ?_⟩
      refine ⟨b3', e3', r62 s t, [], rfl, hb26.same s27, vt, fun H28 s28 => ⟨_, rfl, rfl, _, rfl, ?_⟩⟩
      rw [decide_eq_true (rfl : V.str (mkS (Its.tx (r62 s t))) = V.str (mkS (Its.tx (r62 s t))))]
      refine iteF ?_
      have s2628 := s27.trans s28
      refine ⟨_, rfl, dk, dxk, _, rfl, s2628 _ _ hdkk, rfl, rfl, dk, b3', "length", tL, fL, _, rfl, ⟨dxk, s2628 _ _ hdkk⟩, hFL, hAL, hSL, fun H29 s29 => ?_⟩
      have s2629 := s2628.trans s29
      refine ⟨b3', e3', r62 s t, [], rfl, hb26.same s2629, fun H30 s30 => ?_⟩
      have s2630 := s2629.trans s30
      obtain ⟨c30, xs30, ec30, hc30, hx30⟩ := da_prog (hd26.mono s2630)
      cases ec30
      obtain ⟨x3, hx3, x4, hx4, exs⟩ : ∃ x3, Da K H30 x3 (It.d (.line "a" s)) ∧ ∃ x4, Da K H30 x4 (It.d (.line "b" t)) ∧ xs30 = [x3, x4] := by
        cases hx30 with
        | cons h1 h2 =>
          cases h2 with
          | cons h3 h4 =>
            cases h4
            exact ⟨_, h1, _, h3, rfl⟩
      subst exs
      obtain ⟨c3, rfl, hc3⟩ := da_line62 hx3
      obtain ⟨c4, rfl, hc4⟩ := da_line62 hx4
      refine ⟨_, rfl, q3, _, 0, _, rfl, rfl, hc30, rfl, c3, _, 2, _, rfl, rfl, hc3, rfl, _, rfl, q3, _, 1, _, rfl, rfl, hc30, rfl, c4, _, 2, _, rfl, rfl, hc4, rfl, _, _, rfl, rfl, _, rfl, ?_, rfl, _, rfl, ?_⟩
      · exact Nat.lt_of_lt_of_le (PySem.Flt.log2_lt_of (k := 8) (by decide) (by omega)) (by decide)
      · rw [w_r62, Int.natCast_add, decide_eq_true (rfl : V.str (Str.ofString (toString (((s : Nat) : Int) + ((t : Nat) : Int)))) = V.str (Str.ofString (toString (((s : Nat) : Int) + ((t : Nat) : Int)))))]
        refine iteF ⟨_, _, _, _, _, _, _, _, rfl, ?_⟩
        exact sq_of hS1 fun o eo => s2630 _ _ (k26 _ _ (ne_of_none eo np) eo)
    · rintro σ' H1 ⟨y1, y2, y3, y4, y5, y6, y7, y8, rfl, hS1⟩
      exact q H1
end
end Ev

/-! ## The errors' __init__ -/
namespace Ev
open PySem PySem.Spec PyProof.Rows L2
section
variable {P : Program} {w : World} {K : PySem.W.Frag} {mg : Str → Option Value} {base : Heap} {f : Addr} {fd : FuncData} {S C : Addr}
theorem scBadProgram : FnScope ["self", "value"] ["self", "value"] (defScope (inClass (topS 3) 0)) :=
  ⟨rfl, rfl, rfl, by decide +kernel, rfl, by decide +kernel, by decide +kernel⟩
theorem initBadProgram (F : Fun K "__init__" "BadProgram.__init__" (inClass (topS 3) 0) f fd) (B : BaseT K mg S) (T : ErrC K C)
    (no : PySem.W.findIn K (.ref C) "value" = some none) : FnOk P w K mg base CX0 1 f fd ["self", "value"] (spInit1 C "value") := by
  refine F.ok scBadProgram (fun vs H Q E h => ?_) (fun cdv A outer s H vs Q E hr h => ?_)
  · obtain ⟨a, v, rfl, _⟩ := h
    rfl
  · obtain ⟨a, v, rfl, ha, q⟩ := h
    refine ⟨_, pss_cons (ps_expr (pe_seInit (by rfl) B.g B.sg B.rd B.vV (pa_cons (pv 0) (pa_cons pe_str pa_nil)))) (pss_one (ps_ost (pv 0) (pv 1))), ?_⟩
    exact ⟨_, rfl, a, C, [_], rfl, (by show 1 ≤ 1000; decide), T.ox, ha, _, rfl, _, rfl, a, C, rfl, T.ox, no, .inl ⟨ha, q⟩⟩
theorem scNoLine : FnScope ["self", "value"] ["self", "value"] (defScope (inClass (topS 4) 0)) :=
  ⟨rfl, rfl, rfl, by decide +kernel, rfl, by decide +kernel, by decide +kernel⟩
theorem initNoLine (F : Fun K "__init__" "NoLine.__init__" (inClass (topS 4) 0) f fd) (B : BaseT K mg S) (T : ErrC K C)
    (no : PySem.W.findIn K (.ref C) "value" = some none) : FnOk P w K mg base CX0 1 f fd ["self", "value"] (spInit1 C "value") := by
  refine F.ok scNoLine (fun vs H Q E h => ?_) (fun cdv A outer s H vs Q E hr h => ?_)
  · obtain ⟨a, v, rfl, _⟩ := h
    rfl
  · obtain ⟨a, v, rfl, ha, q⟩ := h
    refine ⟨_, pss_cons (ps_expr (pe_seInit (by rfl) B.g B.sg B.rd B.vV (pa_cons (pv 0) (pa_cons pe_str pa_nil)))) (pss_one (ps_ost (pv 0) (pv 1))), ?_⟩
    exact ⟨_, rfl, a, C, [_], rfl, (by show 1 ≤ 1000; decide), T.ox, ha, _, rfl, _, rfl, a, C, rfl, T.ox, no, .inl ⟨ha, q⟩⟩
theorem scTooLong : FnScope ["self", "size"] ["self", "size"] (defScope (inClass (topS 5) 0)) :=
  ⟨rfl, rfl, rfl, by decide +kernel, rfl, by decide +kernel, by decide +kernel⟩
theorem initTooLong (F : Fun K "__init__" "TooLong.__init__" (inClass (topS 5) 0) f fd) (B : BaseT K mg S) (T : ErrC K C)
    (no : PySem.W.findIn K (.ref C) "size" = some none) : FnOk P w K mg base CX0 1 f fd ["self", "size"] (spInit1 C "size") := by
  refine F.ok scTooLong (fun vs H Q E h => ?_) (fun cdv A outer s H vs Q E hr h => ?_)
  · obtain ⟨a, v, rfl, _⟩ := h
    rfl
  · obtain ⟨a, v, rfl, ha, q⟩ := h
    refine ⟨_, pss_cons (ps_expr (pe_seInit (by rfl) B.g B.sg B.rd B.vV (pa_cons (pv 0) (pa_cons pe_str pa_nil)))) (pss_one (ps_ost (pv 0) (pv 1))), ?_⟩
    exact ⟨_, rfl, a, C, [_], rfl, (by show 1 ≤ 1000; decide), T.ox, ha, _, rfl, _, rfl, a, C, rfl, T.ox, no, .inl ⟨ha, q⟩⟩
theorem scTooLarge : FnScope ["self", "divisor"] ["self", "divisor"] (defScope (inClass (topS 6) 0)) :=
  ⟨rfl, rfl, rfl, by decide +kernel, rfl, by decide +kernel, by decide +kernel⟩
theorem initTooLarge (F : Fun K "__init__" "TooLarge.__init__" (inClass (topS 6) 0) f fd) (B : BaseT K mg S) (T : ErrC K C)
    (no : PySem.W.findIn K (.ref C) "divisor" = some none) : FnOk P w K mg base CX0 1 f fd ["self", "divisor"] (spInit1 C "divisor") := by
  refine F.ok scTooLarge (fun vs H Q E h => ?_) (fun cdv A outer s H vs Q E hr h => ?_)
  · obtain ⟨a, v, rfl, _⟩ := h
    rfl
  · obtain ⟨a, v, rfl, ha, q⟩ := h
    refine ⟨_, pss_cons (ps_expr (pe_seInit (by rfl) B.g B.sg B.rd B.vV (pa_cons (pv 0) (pa_cons pe_str pa_nil)))) (pss_one (ps_ost (pv 0) (pv 1))), ?_⟩
    exact ⟨_, rfl, a, C, [_], rfl, (by show 1 ≤ 1000; decide), T.ox, ha, _, rfl, _, rfl, a, C, rfl, T.ox, no, .inl ⟨ha, q⟩⟩
theorem scBadIndex : FnScope ["self", "value"] ["self", "value"] (defScope (inClass (topS 7) 0)) :=
  ⟨rfl, rfl, rfl, by decide +kernel, rfl, by decide +kernel, by decide +kernel⟩
theorem initBadIndex (F : Fun K "__init__" "BadIndex.__init__" (inClass (topS 7) 0) f fd) (B : BaseT K mg S) (T : ErrC K C)
    (no : PySem.W.findIn K (.ref C) "value" = some none) : FnOk P w K mg base CX0 1 f fd ["self", "value"] (spInit1 C "value") := by
  refine F.ok scBadIndex (fun vs H Q E h => ?_) (fun cdv A outer s H vs Q E hr h => ?_)
  · obtain ⟨a, v, rfl, _⟩ := h
    rfl
  · obtain ⟨a, v, rfl, ha, q⟩ := h
    refine ⟨_, pss_cons (ps_expr (pe_seInit (by rfl) B.g B.sg B.rd B.vV (pa_cons (pv 0) (pa_cons pe_str pa_nil)))) (pss_one (ps_ost (pv 0) (pv 1))), ?_⟩
    exact ⟨_, rfl, a, C, [_], rfl, (by show 1 ≤ 1000; decide), T.ox, ha, _, rfl, _, rfl, a, C, rfl, T.ox, no, .inl ⟨ha, q⟩⟩
theorem scBadItem : FnScope ["self", "value"] ["self", "value"] (defScope (inClass (topS 8) 0)) :=
  ⟨rfl, rfl, rfl, by decide +kernel, rfl, by decide +kernel, by decide +kernel⟩
theorem initBadItem (F : Fun K "__init__" "BadItem.__init__" (inClass (topS 8) 0) f fd) (B : BaseT K mg S) (T : ErrC K C)
    (no : PySem.W.findIn K (.ref C) "value" = some none) : FnOk P w K mg base CX0 1 f fd ["self", "value"] (spInit1 C "value") := by
  refine F.ok scBadItem (fun vs H Q E h => ?_) (fun cdv A outer s H vs Q E hr h => ?_)
  · obtain ⟨a, v, rfl, _⟩ := h
    rfl
  · obtain ⟨a, v, rfl, ha, q⟩ := h
    refine ⟨_, pss_cons (ps_expr (pe_seInit (by rfl) B.g B.sg B.rd B.vV (pa_cons (pv 0) (pa_cons pe_str pa_nil)))) (pss_one (ps_ost (pv 0) (pv 1))), ?_⟩
    exact ⟨_, rfl, a, C, [_], rfl, (by show 1 ≤ 1000; decide), T.ox, ha, _, rfl, _, rfl, a, C, rfl, T.ox, no, .inl ⟨ha, q⟩⟩
theorem scBadText : FnScope ["self", "position"] ["self", "position"] (defScope (inClass (topS 11) 0)) :=
  ⟨rfl, rfl, rfl, by decide +kernel, rfl, by decide +kernel, by decide +kernel⟩
theorem initBadText (F : Fun K "__init__" "BadText.__init__" (inClass (topS 11) 0) f fd) (B : BaseT K mg S) (T : ErrC K C)
    (no : PySem.W.findIn K (.ref C) "position" = some none) : FnOk P w K mg base CX0 1 f fd ["self", "position"] (spInit1 C "position") := by
  refine F.ok scBadText (fun vs H Q E h => ?_) (fun cdv A outer s H vs Q E hr h => ?_)
  · obtain ⟨a, v, rfl, _⟩ := h
    rfl
  · obtain ⟨a, v, rfl, ha, q⟩ := h
    refine ⟨_, pss_cons (ps_expr (pe_seInit (by rfl) B.g B.sg B.rd B.vV (pa_cons (pv 0) (pa_cons pe_str pa_nil)))) (pss_one (ps_ost (pv 0) (pv 1))), ?_⟩
    exact ⟨_, rfl, a, C, [_], rfl, (by show 1 ≤ 1000; decide), T.ox, ha, _, rfl, _, rfl, a, C, rfl, T.ox, no, .inl ⟨ha, q⟩⟩
theorem scBadCommand : FnScope ["self", "line"] ["self", "line"] (defScope (inClass (topS 12) 0)) :=
  ⟨rfl, rfl, rfl, by decide +kernel, rfl, by decide +kernel, by decide +kernel⟩
theorem initBadCommand (F : Fun K "__init__" "BadCommand.__init__" (inClass (topS 12) 0) f fd) (B : BaseT K mg S) (T : ErrC K C)
    (no : PySem.W.findIn K (.ref C) "line" = some none) : FnOk P w K mg base CX0 1 f fd ["self", "line"] (spInit1 C "line") := by
  refine F.ok scBadCommand (fun vs H Q E h => ?_) (fun cdv A outer s H vs Q E hr h => ?_)
  · obtain ⟨a, v, rfl, _⟩ := h
    rfl
  · obtain ⟨a, v, rfl, ha, q⟩ := h
    refine ⟨_, pss_cons (ps_expr (pe_seInit (by rfl) B.g B.sg B.rd B.vV (pa_cons (pv 0) (pa_cons pe_str pa_nil)))) (pss_one (ps_ost (pv 0) (pv 1))), ?_⟩
    exact ⟨_, rfl, a, C, [_], rfl, (by show 1 ≤ 1000; decide), T.ox, ha, _, rfl, _, rfl, a, C, rfl, T.ox, no, .inl ⟨ha, q⟩⟩

end
end Ev

/-! ## k62: what the end wants -/
namespace Ev
open PySem PySem.Spec PyProof.Rows L2
section
variable {P : Program} {w : World} {K : PySem.W.Frag} {mg : Str → Option Value} {base : Heap} {cB : Addr}
theorem rp_T (X : CalBX (L2.CX P w) P w K mg base 16 "read_program" (topS 79) ["text"] (spRp K cB)) : CalBX CX0 P w K mg base 16 "read_program" (topS 79) ["text"] (spRpT K) := X.tame fun vs H Q E ⟨is, e, h1, h2, h3, hg, q⟩ => by
  refine ⟨_, .str (mkS (Its.tx is)), e, .str _, fun z hz => ?_, fun no => (no _ rfl).elim⟩
  injection hz with hz
  subst hz
  have hl := Its.tx_len 5 is hg
  refine ⟨by rw [TL.len_tl, tl_mkS, sizeLine_eq]; omega, ?_⟩
  rw [tl_mkS, rdP_ok h1 h2 h3 hg]
  exact q
theorem fo_of {dF t : Addr} {es : Array DictEntry} {n m : Nat} {wd : Str} {od : Option Addr} {sl : Array (Option Value)} (D : KDict K w dF es n) (h1 : PySem.W.nsIn K dF wd = some (some (.ref t))) (h2 : K.lookup t = some ⟨.type "tuple", od, .seq #[] m, sl⟩) (h3 : Txt.split wd " " = [wd]) (h4 : wd.length ≤ 1000) : Fo0 K w dF wd t :=
  ⟨⟨es, n, _, D.at_, D.lit, h1, rfl⟩, h3, h4, fun H => .inr ⟨_, #[], m, h2, rfl, rfl, by decide, .nil⟩⟩
end
end Ev

/-! ## Defs whose code object is known; what stands while a table grows -/
namespace Ev
open PySem PySem.Spec PyProof.Rows L2
open LamX (CodeO TabS Tabs ExtN TabB)
section
variable {P : Program} {w : World} {K : PySem.W.Frag} {mg : Str → Option Value} {base : Heap} {x q : Str} {st : Stmt} {ps N : List Str} {sp : Sp} {k : Nat} {c : Addr}
/-- a def by its body, its code object at c -/
theorem okGc {f : Addr} {fd : FuncData} (F : Fun K x q st f fd) (hc : fd.code = .ref c) (S : FnScope N ps (defScope st)) (len : ∀ vs H Q E, sp vs H Q E → vs.length = ps.length)
    (walk : ∀ (A : Around) (outer : List Env) (s : Shared) (H : Hp) (vs : List V) (Q : VK) (E : XK), Room k (A.deeper (envOfC q (defScope st) s.heap.objs.size f (.ref c))) → A.guards = some [] → sp vs H Q E →
      ∃ t, PSs (cxOf CX0 P w K mg base N q (defScope st) f (.ref c) A outer s H E).nox (defBody st) t ∧ t { nx := fun _ H' => Q .non H', rt := Q } (start N vs) H) : FnG P w K mg base CX0 (k + 1) f fd ps sp := by
  obtain ⟨oc, od, kV, doc, pm, an, cdv, ct, osl, e, lk, hcd⟩ := F.ex
  cases e
  cases (show cdv = .ref c from hc)
  refine fnG_of lk hcd S len fun A outer s H vs Q E hr gd h => ?_
  obtain ⟨t, ht, hq⟩ := walk A outer s H vs Q E hr gd h
  exact ⟨t, ht.nox, hq⟩
/-- a def of the module whose code object is known -/
structure DefC (K : PySem.W.Frag) (mg : Str → Option Value) (x : Str) (st : Stmt) (ps : List Str) (c : Addr) : Prop where
  ex : ∃ (f : Addr) (fd : FuncData), Fun K x x st f fd ∧ Binds K fd ps [] ∧ mg x = some (.ref f) ∧ fd.code = .ref c
theorem DefC.ok (D : DefC K mg x st ps c) (S : FnScope N ps (defScope st)) (len : ∀ vs H Q E, sp vs H Q E → vs.length = ps.length)
    (walk : ∀ (f : Addr) (A : Around) (outer : List Env) (s : Shared) (H : Hp) (vs : List V) (Q : VK) (E : XK), Room k (A.deeper (envOfC x (defScope st) s.heap.objs.size f (.ref c))) → A.guards = some [] → sp vs H Q E →
      ∃ t, PSs (cxOf CX0 P w K mg base N x (defScope st) f (.ref c) A outer s H E).nox (defBody st) t ∧ t { nx := fun _ H' => Q .non H', rt := Q } (start N vs) H) : Cal P w K mg base (k + 1) x ps sp := by
  obtain ⟨f, fd, F, b, m, hc⟩ := D.ex
  exact ⟨f, fd, okGc F hc S len (walk f), b, m, F.kp⟩
/-- a def's table is that of what is written -/
theorem TabF.code {h : Heap} {p : Addr × Addr} {f : Addr} {fd : FuncData} (t : TabF h mg x p) (X : K.In h) (F : Fun K x q st f fd) (m : mg x = some (.ref f)) : fd.code = .ref p.1 := by
  obtain ⟨f', o, fd', h1, h2, h3, h4⟩ := t
  obtain ⟨oc, od, kV, doc, pm, an, cdv, ct, osl, e, lk, hcd⟩ := F.ex
  rw [m] at h1
  cases h1
  have z := X _ _ lk
  rw [h2] at z
  cases z
  cases h3
  exact h4
theorem paired1 {α β : Type} {R : α → β → Prop} {x : α} {cs : List β} (h : Paired R [x] cs) : ∃ p, cs = [p] ∧ R x p := by
  cases h with
  | cons h t =>
    cases t
    exact ⟨_, rfl, h⟩
theorem paired2 {α β : Type} {R : α → β → Prop} {x y : α} {cs : List β} (h : Paired R [x, y] cs) : ∃ p r, cs = [p, r] ∧ R x p ∧ R y r := by
  cases h with
  | cons h t =>
    cases t with
    | cons h2 t =>
      cases t
      exact ⟨_, _, rfl, h, h2⟩
end
/-! ### what stands -/
section
variable {K : PySem.W.Frag} {H H' : Hp} {Pt : Addr} {q : Str}
theorem TabS.kj (t : TabS H Pt q) (k : Kj H H') : TabS H' Pt q := by
  obtain ⟨ps, h1, h2, h3⟩ := t
  refine ⟨ps, k _ _ h1 nofun nofun, h2, fun pos cv hc => ?_⟩
  obtain ⟨c, e1, e2⟩ := h3 pos cv hc
  exact ⟨c, e1, k _ _ e2 nofun nofun⟩
theorem TabS.new (h : H Pt = some (.tbl #[])) : TabS H Pt q := LamX.TabS.nil h
mutual
theorem Da.ext (s : ExtN H H') : ∀ {v : V} {d : PyData}, Da K H v d → Da K H' v d
  | _, _, .non => .non
  | _, _, .bl b => .bl b
  | _, _, .int i => .int i
  | _, _, .str x => .str x
  | _, _, .lst h t => .lst (by
      rcases h with (e | ⟨o, e⟩) | e
      · exact .inl (.inl (s _ _ e nofun))
      · exact .inl (.inr ⟨o, s _ _ e nofun⟩)
      · exact .inr e) (DaAll.ext s t)
  | _, _, .tup h t => .tup (by
      rcases h with (e | ⟨o, e⟩) | e
      · exact .inl (.inl (s _ _ e nofun))
      · exact .inl (.inr ⟨o, s _ _ e nofun⟩)
      · exact .inr e) (DaAll.ext s t)
  | _, _, .dic h t => .dic (s _ _ h nofun) (DaKv.ext s t)
theorem DaAll.ext (s : ExtN H H') : ∀ {vs : List V} {ds : List PyData}, DaAll K H vs ds → DaAll K H' vs ds
  | _, _, .nil => .nil
  | _, _, .cons h t => .cons (Da.ext s h) (DaAll.ext s t)
theorem DaKv.ext (s : ExtN H H') : ∀ {vs : List (Key × V)} {ds : List (PyData × PyData)}, DaKv K H vs ds → DaKv K H' vs ds
  | _, _, .nil => .nil
  | _, _, .cons h t => .cons (Da.ext s h) (DaKv.ext s t)
end
theorem SqL.ext {a : Addr} {xs : List V} (s : ExtN H H') (h : SqL K H a xs) : SqL K H' a xs := by
  rcases h with (e | ⟨o, e⟩) | e
  · exact .inl (.inl (s _ _ e nofun))
  · exact .inl (.inr ⟨o, s _ _ e nofun⟩)
  · exact .inr e
theorem PotA.ext {p : Addr} {n : Nat} (h : PotA p n H) (s : ExtN H H') : PotA p n H' := by
  obtain ⟨xs, e, q⟩ := h
  exact ⟨xs, s _ _ e nofun, q⟩
theorem Scr.seq {a : Addr} {xs : List V} (h : Scr K H a xs) : SqL K H a xs := by
  rcases h with ⟨o, e⟩ | h
  · exact .inl (.inr ⟨o, e⟩)
  · exact h H
theorem Scr.kj {a : Addr} {xs : List V} (h : Scr K H a xs) (k : Kj H H') : Scr K H' a xs := by
  rcases h with ⟨o, e⟩ | h
  · exact .inl ⟨o, k _ _ e nofun nofun⟩
  · exact .inr h
theorem Scr.ext {a : Addr} {xs : List V} (h : Scr K H a xs) (s : ExtN H H') : Scr K H' a xs := by
  rcases h with ⟨o, e⟩ | h
  · exact .inl ⟨o, s _ _ e nofun⟩
  · exact .inr h
end
end Ev

/-! ## The end of a law over a head that is one run; what the top has left, found by names -/
namespace Ev
open PySem PySem.Spec PyProof.Rows L2
open LamX (TabB)
theorem Scr.sq {K : PySem.W.Frag} {H : Hp} {a : Addr} {xs : List V} (h : Scr K H a xs) : SqL K H a xs := by
  rcases h with e | e
  · exact .inl (.inr e)
  · exact e H
/-- the law, walked: everything that is told speaks of a written part that the head names -/
theorem walkH {l : PySem.W.OpenLaw} {n k : Nat} {q : Program} {loose : List Str} {XP : (Str → Option Value) → Heap → Prop} {YP : World → Heap → Prop} {d : DefRec} {CX : CXT} {x : Str}
    (hq : importsNone q = true) (hn : l.most = some n) (hn2 : n ≤ sizeLine) (hdf : d.params.defaults = []) (hr : Room k callerA)
    (F : ∀ (w : World) (mg : Str → Option Value) (fa : Addr) (h : Heap), YP w h → h.Ns mainGlobals mg → mg d.name = some (.ref fa) →
      ∃ (K : PySem.W.Frag) (cs : List (Addr × Addr)) (fd : FuncData) (sp : Sp), K.In h ∧ (∀ p ∈ cs, h.get? p.2 = some (PySem.W.tabObj #[]) ∧ K.lookup p.2 = none ∧ PySem.W.CodeHd h p.1 p.2) ∧
        (∀ (s : Shared) (u : Value), BindsTo s fd ⟨[u], []⟩ [(x, u)]) ∧
        (∀ (H : Hp) (a : Addr) (ns : List Int), ns.length ≤ n → (∀ p ∈ cs, H p.2 = some (.tbl #[])) → Scr K H a (ns.map V.int) → sp [.ref a] H (fun v _ => v = .bl true) fun _ _ _ => False) ∧
        ∀ base : Heap, K.In base → base.Ns mainGlobals mg → (∃ mm, base.Ns sysModules mm) → (∀ p ∈ cs, TabB base mg p.1 p.2) → FnG l.prog w K mg base CX k fa fd [x] sp)
    (hCX : ∀ (H : Hp) (s : Shared) (e : Value) (s' : Shared), CX [] H s (fun _ _ _ => False) e s' → False) : PySem.W.WalkO q loose XP YP l.row.toRowW d [] (fun f vs => PySem.call f vs) := by
  refine Att.attach_call hn hdf fun w s₀ s₁ mg mb fa o pm cd doc a vs ns G Y ho hd hcd hmg hobj hints hlen hg => ?_
  obtain ⟨mm, hmm, _⟩ := (G.T.seer hq).mods
  obtain ⟨K, cs, fd, sp, KX, tabs, hb, hsp, hF⟩ := F w mg fa _ Y G.T.g hmg
  exact law_endT KX G.T.g G.T.b G.T.builtins G.T.nolimit hg G.T.bmain (fun p hp => (tabs p hp).1) (fun p hp => (tabs p hp).2.1) (fun p hp => (tabs p hp).2.2) hobj hints (Nat.le_trans hlen hn2) hr ⟨mm, hmm⟩ hF hb (fun H hH hS => hsp H a ns hlen hH hS) fun H e s' => hCX H s₁ e s'
/-! ### facts by names -/
/-- one fact out of many -/
theorem hx_at {K : PySem.W.Frag} {es : List (PySem.W.Frag → Bool)} (c : (es.all fun e => e K) = true) (i : Nat) {e : PySem.W.Frag → Bool} (h : es[i]? = some e) : e K = true := List.all_eq_true.mp c e (List.mem_of_getElem? h)
/-- where the name x of the table at a leads -/
def nsA (K : PySem.W.Frag) (a : Addr) (x : Str) : Addr := match PySem.W.nsIn K a x with
  | some (some (.ref b)) => b
  | _ => 0
/-- a def where the head says that it stands -/
theorem at_of {K : PySem.W.Frag} {n q : Str} {ps : Arguments} {bd : List Stmt} {sc : Scope} {f : Addr} (h : ∃ fd, FunD K n q ps bd sc [] [] f fd) :
    ∃ oc od an sl kV dc pm cd ct, K.lookup f = some ⟨oc, od, .func (PySem.W.fnOf n q ps bd sc .none kV dc pm an cd ct), sl⟩ ∧ PySem.W.codeIn K cd q = true ∧ PySem.W.keepIn K (.ref f) = true := by
  obtain ⟨fd, F⟩ := h
  obtain ⟨oc, od, dV, kV, dc, pm, an, cd, ct, sl, rfl, lk, hcd, hD, _⟩ := F.ex
  rcases hD with ⟨_, rfl⟩ | ⟨z, _⟩
  · exact ⟨oc, od, an, sl, kV, dc, pm, cd, ct, lk, hcd, F.kp⟩
  · exact absurd rfl z
/-- a number of the top -/
def intB (K : PySem.W.Frag) (x : Str) (i : Int) : Bool := match PySem.W.nsIn K mainGlobals x with
  | some (some (.int j _)) => j == i
  | _ => false
theorem intB_ok {K : PySem.W.Frag} {x : Str} {i : Int} (h : intB K x i = true) : ∃ t, PySem.W.nsIn K mainGlobals x = some (some (.int i t)) := by
  unfold intB at h
  split at h
  · rename_i j t e
    rw [beq_iff_eq.mp h] at e
    exact ⟨t, e⟩
  · cases h
/-- what a class finds as it is -/
def foundB (K : PySem.W.Frag) (c mc : Value) (x : Str) (u : Value) : Bool := match PySem.W.findCls K c mc x with
  | some (.val v) => v == u
  | _ => false
theorem foundB_ok {K : PySem.W.Frag} {c mc u : Value} {x : Str} (h : foundB K c mc x u = true) : PySem.W.findCls K c mc x = some (.val u) := by
  unfold foundB at h
  split at h
  · rename_i v e
    rw [e, beq_iff_eq.mp h]
  · cases h
/-- an error class of the program -/
def excV (K : PySem.W.Frag) (C : Addr) : Bool := match K.lookup C with
  | some o => (o.cls == .type "type") && (match o.data with
    | .cls cd => (cd.mro.head? == some (.ref C)) && (PySem.HandSPX.refsVE cd.mro.tail && (cd.hasDict && (!cd.hasDel && ((o.slots.size == 6) && (o.slots.toList[4]? == some (some (.builtin "ValueError.__new__")))))))
    | _ => false)
  | none => false
theorem excV_ok {K : PySem.W.Frag} {C : Addr} (h : excV K C = true) :
    ∃ nm q N bs bm sn sub ab col dd k0 k1 k2 k3 k5, K.lookup C = some (excClassObj nm q C N bs bm true sn sub ab col dd k0 k1 k2 k3 k5 "ValueError.__new__") ∧ PySem.HandSPX.refsVE bm = true := by
  unfold excV at h
  cases e : K.lookup C with
  | none =>
    rw [e] at h
    cases h
  | some o =>
    rw [e] at h
    obtain ⟨oc, od, dt, ⟨sl⟩⟩ := o
    cases dt with
    | cls cd =>
      obtain ⟨nm, bs, mro, ns, qn, hd, sn, sub, ab, col, del⟩ := cd
      simp only [Bool.and_eq_true, beq_iff_eq, Bool.not_eq_true', List.size_toArray] at h
      obtain ⟨rfl, h1, h2, rfl, rfl, h3, h4⟩ := h
      match mro, h1, h2 with
      | _ :: bm, rfl, h2 =>
        match sl, h3, h4 with
        | [k0, k1, k2, k3, _, k5], _, rfl => exact ⟨nm, qn, ns, bs, bm, sn, sub, ab, col, od, k0, k1, k2, k3, k5, rfl, h2⟩
    | _ =>
      rw [Bool.and_eq_true] at h
      exact absurd h.2 Bool.false_ne_true
/-- the same, its other classes told -/
def excM (K : PySem.W.Frag) (C : Addr) (bm : List Value) : Bool := excV K C && ((PySem.W.clsIn K C).any fun cd => cd.mro == .ref C :: bm)
theorem excM_ok {K : PySem.W.Frag} {C : Addr} {bm : List Value} (h : excM K C bm = true) :
    ∃ nm q N bs sn sub ab col dd k0 k1 k2 k3 k5, K.lookup C = some (excClassObj nm q C N bs bm true sn sub ab col dd k0 k1 k2 k3 k5 "ValueError.__new__") := by
  unfold excM at h
  obtain ⟨h1, h2⟩ := Bool.and_eq_true_iff.mp h
  obtain ⟨nm, q, N, bs, bm', sn, sub, ab, col, dd, k0, k1, k2, k3, k5, e, _⟩ := excV_ok h1
  unfold PySem.W.clsIn at h2
  rw [e] at h2
  have h3 : (Value.ref C :: bm' == Value.ref C :: bm) = true := h2
  cases beq_iff_eq.mp h3
  exact ⟨nm, q, N, bs, sn, sub, ab, col, dd, k0, k1, k2, k3, k5, e⟩
/-- a table's keys -/
theorem tab_at {K : PySem.W.Frag} {w : World} {fa : List He.Fa} {fn : List He.DefD} {ts : List He.Tab} (c : He.SaysT fa fn ts w K) (i : Nat) {t : He.Tab} (h : ts[i]? = some t) : He.dicW K (t.1 K) = some (He.keysIn w.params t.2) := by
  have e := congrArg (fun l => l[i]?) (congrArg Prod.snd c)
  have e2 : (ts.map fun t => He.dicW K (t.1 K))[i]? = (ts.map fun t => some (He.keysIn w.params t.2))[i]? := e
  rw [List.getElem?_map, List.getElem?_map, h] at e2
  exact Option.some.inj e2
/-- an empty tuple -/
def noneB (K : PySem.W.Frag) (a : Addr) : Bool := match K.lookup a with
  | some o => (o.cls == .type "tuple") && (match o.data with
    | .seq xs _ => xs.size == 0
    | _ => false)
  | none => false
theorem noneB_ok {K : PySem.W.Frag} {a : Addr} (h : noneB K a = true) : ∃ od n sl, K.lookup a = some ⟨.type "tuple", od, .seq #[] n, sl⟩ := by
  unfold noneB at h
  cases e : K.lookup a with
  | none =>
    rw [e] at h
    cases h
  | some o =>
    rw [e] at h
    obtain ⟨oc, od, dt, sl⟩ := o
    cases dt with
    | seq xs n =>
      simp only [Bool.and_eq_true, beq_iff_eq] at h
      obtain ⟨rfl, h2⟩ := h
      obtain rfl := Array.eq_empty_of_size_eq_zero h2
      exact ⟨od, n, sl, rfl⟩
    | _ =>
      rw [Bool.and_eq_true] at h
      exact absurd h.2 Bool.false_ne_true
/-- the table of a def that makes lambdas -/
theorem tabF_of {K : PySem.W.Frag} {h : Heap} {mg : Str → Option Value} {x n q : Str} {ps : Arguments} {bd : List Stmt} {sc : Scope} (KX : K.In h) (m : mg x = some (.ref (He.ga K x))) (F : ∃ fd, FunD K n q ps bd sc [] [] (He.ga K x) fd) : TabF h mg x (He.cT K (x, none)) := by
  obtain ⟨oc, od, an, sl, kV, dc, pm, cd, ct, lk, hcd, _⟩ := at_of F
  obtain ⟨c, e⟩ := He.codeIn_ref hcd
  exact ⟨He.ga K x, _, _, m, KX _ _ lk, rfl, e.trans (congrArg Value.ref (He.codeOf_eq (p := (x, none)) lk e).symm)⟩
/-! ### the Hook: the written part is what these names lead to -/
def entG (g : Addr → Option Obj) (a : Addr) (x : Str) : Addr := match g a with
  | some o => (match o.data with
    | .dict es _ => (match es.toList.find? fun e => e.key.isStr x with
      | some e => (match e.val with
        | .ref b => b
        | _ => 0)
      | none => 0)
    | _ => 0)
  | none => 0
def codG (g : Addr → Option Obj) (a : Addr) : List Addr := match g a with
  | some o => (match o.data with
    | .func fd => He.refV fd.code
    | _ => [])
  | none => []
def nsG (g : Addr → Option Obj) (a : Addr) : Addr := match g a with
  | some o => (match o.data with
    | .cls cd => cd.ns
    | _ => 0)
  | none => 0
def valG (g : Addr → Option Obj) (a : Addr) : List Addr := match g a with
  | some o => (match o.data with
    | .dict es _ => es.toList.flatMap fun e => He.refV e.val
    | _ => [])
  | none => []
def defG (g : Addr → Option Obj) (p : He.Defn) : Addr := match p.2 with
  | none => entG g mainGlobals p.1
  | some m => entG g (nsG g (entG g mainGlobals p.1)) m
/-- the module's names, these classes with what they hold, these defs with their code, these tables with their values -/
def asN (cs : List Str) (ts : List Str) (fn : List He.DefD) (g : Addr → Option Obj) : List Addr :=
  mainGlobals :: cStatics :: ((cs.flatMap fun c => [entG g mainGlobals c, nsG g (entG g mainGlobals c)]) ++ ((fn.flatMap fun d => defG g d.at_ :: codG g (defG g d.at_)) ++ ts.flatMap fun t => entG g mainGlobals t :: valG g (entG g mainGlobals t)))
def obsY (as : (Addr → Option Obj) → List Addr) (fn : List He.DefD) (ts : List He.Tab) (tf : List He.Defn) (ex : PySem.W.Frag → Bool) (g : Addr → Option Obj) : He.AlX :=
  (He.obsT [] fn ts (He.frT g (as g)), ex (He.frT g (as g)) && He.tabsB g tf (He.frT g (as g)))
theorem saysY {fn : List He.DefD} {ts : List He.Tab} {tf : List He.Defn} {ex : PySem.W.Frag → Bool} {w : World} {h : Heap} {as : List Addr}
    (e : (He.obsT [] fn ts (He.frT h.get? as), ex (He.frT h.get? as) && He.tabsB h.get? tf (He.frT h.get? as)) = He.valX fn ts w) : He.SaysX [] fn ts tf ex w h (He.frT h.get? as) := by
  have k1 : He.obsT [] fn ts (He.frT h.get? as) = He.valT fn ts w := (Prod.mk.inj e).1
  have k2 : (ex (He.frT h.get? as) && He.tabsB h.get? tf (He.frT h.get? as)) = true := (Prod.mk.inj e).2
  generalize hK : He.frT h.get? as = K at k1 k2
  rw [Bool.and_eq_true] at k2
  have at_ : ∀ p ∈ tf, PySem.W.codeHdIn K (He.cT K p).1 (He.cT K p).2 = true ∧ ∃ o, h.get? (He.cT K p).2 = some o ∧ He.emptyTab o = true := fun p hp => by
    have z := List.all_eq_true.mp k2.2 p hp
    rw [Bool.and_eq_true] at z
    refine ⟨z.1, ?_⟩
    have z2 := z.2
    split at z2
    · exact ⟨_, by assumption, z2⟩
    · cases z2
  refine ⟨k1, k2.1, fun p hp => (at_ p hp).1, fun p hp => ?_, fun p hp => ?_⟩
  · obtain ⟨o, e1, e2⟩ := (at_ p hp).2
    have z := He.frT_none (as := as) e1 e2
    rw [hK] at z
    exact z
  · obtain ⟨o, e1, e2⟩ := (at_ p hp).2
    rw [e1, He.emptyTab_eq e2]
def hookY (as : (Addr → Option Obj) → List Addr) (fn : List He.DefD) (ts : List He.Tab) (tf : List He.Defn) (ex : PySem.W.Frag → Bool) : PySem.W.Hook where
  α := He.AlX
  obs := fun s => obsY as fn ts tf ex s.heap.get?
  val := fun w => He.valX fn ts w
  says := fun w h => ∃ K : PySem.W.Frag, K.In h ∧ He.SaysX [] fn ts tf ex w h K
  of := fun _ _ e => ⟨_, He.frT_in, saysY e⟩
  keeps := fun _ _ _ ⟨K, X, c⟩ k => ⟨K, X.keeps k, c.t, c.more, c.hd, c.out, fun p hp => k _ _ (c.empty p hp)⟩
theorem obsY_eq {as : (Addr → Option Obj) → List Addr} {fn : List He.DefD} {ts : List He.Tab} {tf : List He.Defn} {ex : PySem.W.Frag → Bool} {g : Addr → Option Obj} {s : Shared} (h : ∀ a, g a = s.heap.get? a) : obsY as fn ts tf ex g = (hookY as fn ts tf ex).obs s := by
  have e : g = s.heap.get? := funext h
  subst e
  rfl
/-- two looks at what the run has left -/
theorem two_looks {α β γ δ : Type} {o : Option α} {A : α → β} {B : α → γ} {D : α → δ} {a : β} {b : γ} {d : δ} (h1 : (o.map fun s => (A s, B s)) = some (a, b)) (h2 : o.map D = some d) : (o.map fun s => (A s, B s, D s)) = some (a, b, d) := by
  cases o with
  | none => cases h1
  | some s =>
    cases h1
    cases h2
    rfl
end Ev

/-! ## What the top has written -/
namespace Ev
open PySem PySem.Spec PyProof.Rows L2
open PySem.W (typeIn keepIn codeIn nsIn)
def initB (K : PySem.W.Frag) (fI : Addr) (cd : Value) (q : Str) : Bool := (typeIn K (.ref fI) == some (.type "function")) && (codeIn K cd q && keepIn K (.ref fI))
theorem initB_ok {K : PySem.W.Frag} {fI : Addr} {cd : Value} {q : Str} (h : initB K fI cd q = true) : typeIn K (.ref fI) = some (.type "function") ∧ codeIn K cd q = true ∧ keepIn K (.ref fI) = true := by
  unfold initB at h
  simpa only [Bool.and_eq_true, beq_iff_eq] using h
theorem initB_mk {K : PySem.W.Frag} {fI : Addr} {cd : Value} {q : Str} (h1 : typeIn K (.ref fI) = some (.type "function")) (h2 : codeIn K cd q = true) (h3 : keepIn K (.ref fI) = true) : initB K fI cd q = true := by
  unfold initB
  rw [h1, h2, h3]
  rfl
def methB (K : PySem.W.Frag) (f : Addr) (cd : Value) (q : Str) : Bool := PySem.W.isFn K (.ref f) && (codeIn K cd q && keepIn K (.ref f))
theorem methB_ok {K : PySem.W.Frag} {f : Addr} {cd : Value} {q : Str} (h : methB K f cd q = true) : PySem.W.isFn K (.ref f) = true ∧ codeIn K cd q = true ∧ keepIn K (.ref f) = true := by
  unfold methB at h
  simpa only [Bool.and_eq_true] using h
theorem methB_mk {K : PySem.W.Frag} {f : Addr} {cd : Value} {q : Str} (h1 : PySem.W.isFn K (.ref f) = true) (h2 : codeIn K cd q = true) (h3 : keepIn K (.ref f) = true) : methB K f cd q = true := by
  unfold methB
  rw [h1, h2, h3]
  rfl
def clsB (K : PySem.W.Frag) (C : Addr) : Bool := PySem.W.plainGet K C Str.empty && (PySem.W.hasDictIn K C && (PySem.W.plainOver K C && (PySem.W.makesIn K C && keepIn K (.ref C))))
theorem clsB_ok {K : PySem.W.Frag} {C : Addr} (h : clsB K C = true) : PySem.W.plainGet K C Str.empty = true ∧ PySem.W.hasDictIn K C = true ∧ PySem.W.plainOver K C = true ∧ PySem.W.makesIn K C = true ∧ keepIn K (.ref C) = true := by
  unfold clsB at h
  simpa only [Bool.and_eq_true] using h
open PySem.W (findIn subIn specialIn takesIn mroIn clsIn hasDictIn readsIn findCls)
def errB (K : PySem.W.Frag) (C : Addr) : Bool :=
  (findIn K (.ref C) "__setattr__" == some (some (.builtin "object.__setattr__"))) && ((subIn K (.ref C) (.type "BaseException") == some true) &&
  ((typeIn K (.ref C) == some (.type "type")) && (keepIn K (.ref C) && ((findIn K (.ref C) "__getattribute__" == some (some (.builtin "BaseException.__getattribute__"))) &&
  ((findIn K (.ref C) "__getattr__" == some none) && ((findIn K (.ref C) "__class__" == some (some (.builtin "object.__class__"))) &&
  ((specialIn K (.builtin "object.__class__") "__get__" == some (some (.builtin "getset_descriptor.__get__"))) && ((takesIn K (.builtin "object.__class__") == some true) &&
  ((mroIn K C (.type "object") == some true) && ((clsIn K C).isSome && hasDictIn K C))))))))))
theorem errB_ok {K : PySem.W.Frag} {C : Addr} (h : errB K C = true)
    (x : ∃ nm q N bs bm sn sub ab col dd k0 k1 k2 k3 k5, K.lookup C = some (excClassObj nm q C N bs bm true sn sub ab col dd k0 k1 k2 k3 k5 "ValueError.__new__") ∧ PySem.HandSPX.refsVE bm = true) : ErrC K C := by
  unfold errB at h
  simp only [Bool.and_eq_true, beq_iff_eq] at h
  obtain ⟨h1, h2, h3, h4, h5, h6, h7, h8, h9, h10, h11, h12⟩ := h
  exact ⟨⟨x, h1, h2, h3, h4⟩, h5, h6, h7, h8, h9, h10, h11, h12⟩
def baseB (K : PySem.W.Frag) (S : Addr) : Bool := (specialIn K (.ref S) "__getattribute__" == some (some (.builtin "type.__getattribute__"))) && readsIn K S (.type "type")
theorem all_mk {P : Program} {w : World} {K : PySem.W.Frag} {h : Heap} {mg : Str → Option Value} {fa : Addr} (X : K.In h) (G : h.Ns mainGlobals mg) (hfa : mg "law" = some (.ref fa))
    {g15 : Addr} {ode15 ane15 : Option Addr} {sle15 : Array (Option Value)} {oce15 kVe15 dce15 pme15 cde15 cte15 : Value}
    {g16 : Addr} {ode16 ane16 : Option Addr} {sle16 : Array (Option Value)} {oce16 kVe16 dce16 pme16 cde16 cte16 : Value}
    {g17 : Addr} {ode17 ane17 : Option Addr} {sle17 : Array (Option Value)} {oce17 kVe17 dce17 pme17 cde17 cte17 : Value}
    {g19 : Addr} {ode19 ane19 : Option Addr} {sle19 : Array (Option Value)} {oce19 kVe19 dce19 pme19 cde19 cte19 : Value}
    {g28 : Addr} {ode28 ane28 : Option Addr} {sle28 : Array (Option Value)} {oce28 kVe28 dce28 pme28 cde28 cte28 : Value}
    {g29 : Addr} {ode29 ane29 : Option Addr} {sle29 : Array (Option Value)} {oce29 kVe29 dce29 pme29 cde29 cte29 : Value}
    {g30 : Addr} {ode30 ane30 : Option Addr} {sle30 : Array (Option Value)} {oce30 kVe30 dce30 pme30 cde30 cte30 : Value}
    {g31 : Addr} {ode31 ane31 : Option Addr} {sle31 : Array (Option Value)} {oce31 kVe31 dce31 pme31 cde31 cte31 : Value}
    {g32 : Addr} {ode32 ane32 : Option Addr} {sle32 : Array (Option Value)} {oce32 kVe32 dce32 pme32 cde32 cte32 : Value}
    {g34 : Addr} {ode34 ane34 : Option Addr} {sle34 : Array (Option Value)} {oce34 kVe34 dce34 pme34 cde34 cte34 : Value}
    {g39 : Addr} {ode39 ane39 : Option Addr} {sle39 : Array (Option Value)} {oce39 kVe39 dce39 pme39 cde39 cte39 : Value}
    {g40 : Addr} {ode40 ane40 : Option Addr} {sle40 : Array (Option Value)} {oce40 kVe40 dce40 pme40 cde40 cte40 : Value}
    {g43 : Addr} {ode43 ane43 : Option Addr} {sle43 : Array (Option Value)} {oce43 kVe43 dce43 pme43 cde43 cte43 : Value}
    {g44 : Addr} {ode44 ane44 : Option Addr} {sle44 : Array (Option Value)} {oce44 kVe44 dce44 pme44 cde44 cte44 : Value}
    {g45 : Addr} {ode45 ane45 : Option Addr} {sle45 : Array (Option Value)} {oce45 kVe45 dce45 pme45 cde45 cte45 : Value}
    {g46 : Addr} {ode46 ane46 : Option Addr} {sle46 : Array (Option Value)} {oce46 kVe46 dce46 pme46 cde46 cte46 : Value}
    {g47 : Addr} {ode47 ane47 : Option Addr} {sle47 : Array (Option Value)} {oce47 kVe47 dce47 pme47 cde47 cte47 : Value}
    {g48 : Addr} {ode48 ane48 : Option Addr} {sle48 : Array (Option Value)} {oce48 kVe48 dce48 pme48 cde48 cte48 : Value}
    {g49 : Addr} {ode49 ane49 : Option Addr} {sle49 : Array (Option Value)} {oce49 kVe49 dce49 pme49 cde49 cte49 : Value}
    {g51 : Addr} {ode51 ane51 : Option Addr} {sle51 : Array (Option Value)} {oce51 kVe51 dce51 pme51 cde51 cte51 : Value}
    {g54 : Addr} {ode54 ane54 : Option Addr} {sle54 : Array (Option Value)} {oce54 kVe54 dce54 pme54 cde54 cte54 : Value}
    {g55 : Addr} {ode55 ane55 : Option Addr} {sle55 : Array (Option Value)} {oce55 kVe55 dce55 pme55 cde55 cte55 : Value}
    {g58 : Addr} {ode58 ane58 : Option Addr} {sle58 : Array (Option Value)} {oce58 kVe58 dce58 pme58 cde58 cte58 : Value}
    {g63 : Addr} {ode63 ane63 : Option Addr} {sle63 : Array (Option Value)} {oce63 kVe63 dce63 pme63 cde63 cte63 : Value}
    {g69 : Addr} {ode69 ane69 : Option Addr} {sle69 : Array (Option Value)} {oce69 kVe69 dce69 pme69 cde69 cte69 : Value}
    {g75 : Addr} {ode75 ane75 : Option Addr} {sle75 : Array (Option Value)} {oce75 kVe75 dce75 pme75 cde75 cte75 : Value}
    {g76 : Addr} {ode76 ane76 : Option Addr} {sle76 : Array (Option Value)} {oce76 kVe76 dce76 pme76 cde76 cte76 : Value}
    {g78 : Addr} {ode78 ane78 : Option Addr} {sle78 : Array (Option Value)} {oce78 kVe78 dce78 pme78 cde78 cte78 : Value}
    {g79 : Addr} {ode79 ane79 : Option Addr} {sle79 : Array (Option Value)} {oce79 kVe79 dce79 pme79 cde79 cte79 : Value}
    {g80 : Addr} {ode80 ane80 : Option Addr} {sle80 : Array (Option Value)} {oce80 kVe80 dce80 pme80 cde80 cte80 : Value}
    {g81 : Addr} {ode81 ane81 : Option Addr} {sle81 : Array (Option Value)} {oce81 kVe81 dce81 pme81 cde81 cte81 : Value}
    {g82 : Addr} {ode82 ane82 : Option Addr} {sle82 : Array (Option Value)} {oce82 kVe82 dce82 pme82 cde82 cte82 : Value}
    {g83 : Addr} {ode83 ane83 : Option Addr} {sle83 : Array (Option Value)} {oce83 kVe83 dce83 pme83 cde83 cte83 : Value}
    {g84 : Addr} {ode84 ane84 : Option Addr} {sle84 : Array (Option Value)} {oce84 kVe84 dce84 pme84 cde84 cte84 : Value}
    {g85 : Addr} {ode85 ane85 : Option Addr} {sle85 : Array (Option Value)} {oce85 kVe85 dce85 pme85 cde85 cte85 : Value}
    {g86 : Addr} {ode86 ane86 : Option Addr} {sle86 : Array (Option Value)} {oce86 kVe86 dce86 pme86 cde86 cte86 : Value}
    {g95 : Addr} {ode95 ane95 : Option Addr} {sle95 : Array (Option Value)} {oce95 kVe95 dce95 pme95 cde95 cte95 : Value}
    {g96 : Addr} {ode96 ane96 : Option Addr} {sle96 : Array (Option Value)} {oce96 kVe96 dce96 pme96 cde96 cte96 : Value}
    {g112 : Addr} {ode112 ane112 : Option Addr} {sle112 : Array (Option Value)} {oce112 kVe112 dce112 pme112 cde112 cte112 : Value}
    {g113 : Addr} {ode113 ane113 : Option Addr} {sle113 : Array (Option Value)} {oce113 kVe113 dce113 pme113 cde113 cte113 : Value}
    {g117 : Addr} {ode117 ane117 : Option Addr} {sle117 : Array (Option Value)} {oce117 kVe117 dce117 pme117 cde117 cte117 : Value}
    {g118 : Addr} {ode118 ane118 : Option Addr} {sle118 : Array (Option Value)} {oce118 kVe118 dce118 pme118 cde118 cte118 : Value}
    {g119 : Addr} {ode119 ane119 : Option Addr} {sle119 : Array (Option Value)} {oce119 kVe119 dce119 pme119 cde119 cte119 : Value}
    {t_MOST_LETTERS : Tok}
    {t_MOST_TICKS : Tok}
    {t_MOST_ROUNDS : Tok}
    {t_MOST_BESIDE : Tok}
    {t_MOST_ITEMS : Tok}
    {t_MOST_DEEP : Tok}
    {t_GREATEST_DIVISOR : Tok}
    {t_LONGEST : Tok}
    {t_PIECE : Tok}
    {C68 : Addr}
    {g68_0 : Addr} {ode68_0 ane68_0 : Option Addr} {sle68_0 : Array (Option Value)} {oce68_0 kVe68_0 dce68_0 pme68_0 cde68_0 cte68_0 : Value}
    {g68_2 : Addr} {ode68_2 ane68_2 : Option Addr} {sle68_2 : Array (Option Value)} {oce68_2 kVe68_2 dce68_2 pme68_2 cde68_2 cte68_2 : Value}
    {g68_3 : Addr} {ode68_3 ane68_3 : Option Addr} {sle68_3 : Array (Option Value)} {oce68_3 kVe68_3 dce68_3 pme68_3 cde68_3 cte68_3 : Value}
    {g68_7 : Addr} {ode68_7 ane68_7 : Option Addr} {sle68_7 : Array (Option Value)} {oce68_7 kVe68_7 dce68_7 pme68_7 cde68_7 cte68_7 : Value}
    {g68_8 : Addr} {ode68_8 ane68_8 : Option Addr} {sle68_8 : Array (Option Value)} {oce68_8 kVe68_8 dce68_8 pme68_8 cde68_8 cte68_8 : Value}
    {g68_11 : Addr} {ode68_11 ane68_11 : Option Addr} {sle68_11 : Array (Option Value)} {oce68_11 kVe68_11 dce68_11 pme68_11 cde68_11 cte68_11 : Value}
    {g68_12 : Addr} {ode68_12 ane68_12 : Option Addr} {sle68_12 : Array (Option Value)} {oce68_12 kVe68_12 dce68_12 pme68_12 cde68_12 cte68_12 : Value}
    {g68_14 : Addr} {ode68_14 ane68_14 : Option Addr} {sle68_14 : Array (Option Value)} {oce68_14 kVe68_14 dce68_14 pme68_14 cde68_14 cte68_14 : Value}
    {g68_15 : Addr} {ode68_15 ane68_15 : Option Addr} {sle68_15 : Array (Option Value)} {oce68_15 kVe68_15 dce68_15 pme68_15 cde68_15 cte68_15 : Value}
    {C109 : Addr}
    {g109_0 : Addr} {ode109_0 ane109_0 : Option Addr} {sle109_0 : Array (Option Value)} {oce109_0 kVe109_0 dce109_0 pme109_0 cde109_0 cte109_0 : Value}
    {g109_1 : Addr} {ode109_1 ane109_1 : Option Addr} {sle109_1 : Array (Option Value)} {oce109_1 kVe109_1 dce109_1 pme109_1 cde109_1 cte109_1 : Value}
    {cS : Addr} {nmS qnS : Str} {NS : Addr} {bsS : List Value} {snS : List Str} {subS : List Value} {abS : Bool} {colS : Option Bool} {ddS : Option Addr} {pS rS sS tS_ wS : Option Value}
    {c11 : Addr} {nm11 qn11 : Str} {N11 : Addr} {bs11 : List Value} {sn11 : List Str} {sub11 : List Value} {ab11 : Bool} {col11 : Option Bool} {dd11 : Option Addr} {p11 r11 s11 t11_ w11 : Option Value}
    {j11 : Addr} {od11 an11 : Option Addr} {sl11 : Array (Option Value)} {oc11 kV11 dc11 pm11 cd11 ct11 : Value}
    {dF dA tS tL : Addr} {nS nL : Nat} {odS odL : Option Addr} {slS slL : Array (Option Value)}
    (A15 : nsIn K mainGlobals "is_whole" = some (some (.ref g15)))
    (L15 : K.lookup g15 = some ⟨oce15, ode15, .func (PySem.W.fnOf "is_whole" "is_whole" (defArgs (topS 15)) (defBody (topS 15)) (defScope (topS 15)) .none kVe15 dce15 pme15 ane15 cde15 cte15), sle15⟩)
    (H15 : initB K g15 cde15 "is_whole" = true)
    (A16 : nsIn K mainGlobals "is_integer_within" = some (some (.ref g16)))
    (L16 : K.lookup g16 = some ⟨oce16, ode16, .func (PySem.W.fnOf "is_integer_within" "is_integer_within" (defArgs (topS 16)) (defBody (topS 16)) (defScope (topS 16)) .none kVe16 dce16 pme16 ane16 cde16 cte16), sle16⟩)
    (H16 : initB K g16 cde16 "is_integer_within" = true)
    (A17 : nsIn K mainGlobals "common_divisor" = some (some (.ref g17)))
    (L17 : K.lookup g17 = some ⟨oce17, ode17, .func (PySem.W.fnOf "common_divisor" "common_divisor" (defArgs (topS 17)) (defBody (topS 17)) (defScope (topS 17)) .none kVe17 dce17 pme17 ane17 cde17 cte17), sle17⟩)
    (H17 : initB K g17 cde17 "common_divisor" = true)
    (A19 : nsIn K mainGlobals "decimal" = some (some (.ref g19)))
    (L19 : K.lookup g19 = some ⟨oce19, ode19, .func (PySem.W.fnOf "decimal" "decimal" (defArgs (topS 19)) (defBody (topS 19)) (defScope (topS 19)) .none kVe19 dce19 pme19 ane19 cde19 cte19), sle19⟩)
    (H19 : initB K g19 cde19 "decimal" = true)
    (A28 : nsIn K mainGlobals "is_program" = some (some (.ref g28)))
    (L28 : K.lookup g28 = some ⟨oce28, ode28, .func (PySem.W.fnOf "is_program" "is_program" (defArgs (topS 28)) (defBody (topS 28)) (defScope (topS 28)) .none kVe28 dce28 pme28 ane28 cde28 cte28), sle28⟩)
    (H28 : initB K g28 cde28 "is_program" = true)
    (A29 : nsIn K mainGlobals "room_behind_items" = some (some (.ref g29)))
    (L29 : K.lookup g29 = some ⟨oce29, ode29, .func (PySem.W.fnOf "room_behind_items" "room_behind_items" (defArgs (topS 29)) (defBody (topS 29)) (defScope (topS 29)) .none kVe29 dce29 pme29 ane29 cde29 cte29), sle29⟩)
    (H29 : initB K g29 cde29 "room_behind_items" = true)
    (A30 : nsIn K mainGlobals "room_behind" = some (some (.ref g30)))
    (L30 : K.lookup g30 = some ⟨oce30, ode30, .func (PySem.W.fnOf "room_behind" "room_behind" (defArgs (topS 30)) (defBody (topS 30)) (defScope (topS 30)) .none kVe30 dce30 pme30 ane30 cde30 cte30), sle30⟩)
    (H30 : initB K g30 cde30 "room_behind" = true)
    (A31 : nsIn K mainGlobals "is_name" = some (some (.ref g31)))
    (L31 : K.lookup g31 = some ⟨oce31, ode31, .func (PySem.W.fnOf "is_name" "is_name" (defArgs (topS 31)) (defBody (topS 31)) (defScope (topS 31)) .none kVe31 dce31 pme31 ane31 cde31 cte31), sle31⟩)
    (H31 : initB K g31 cde31 "is_name" = true)
    (A32 : nsIn K mainGlobals "length" = some (some (.ref g32)))
    (L32 : K.lookup g32 = some ⟨oce32, ode32, .func (PySem.W.fnOf "length" "length" (defArgs (topS 32)) (defBody (topS 32)) (defScope (topS 32)) .none kVe32 dce32 pme32 ane32 cde32 cte32), sle32⟩)
    (H32 : initB K g32 cde32 "length" = true)
    (A34 : nsIn K mainGlobals "lines_of" = some (some (.ref g34)))
    (L34 : K.lookup g34 = some ⟨oce34, ode34, .func (PySem.W.fnOf "lines_of" "lines_of" (defArgs (topS 34)) (defBody (topS 34)) (defScope (topS 34)) .none kVe34 dce34 pme34 ane34 cde34 cte34), sle34⟩)
    (H34 : initB K g34 cde34 "lines_of" = true)
    (A39 : nsIn K mainGlobals "spent" = some (some (.ref g39)))
    (L39 : K.lookup g39 = some ⟨oce39, ode39, .func (PySem.W.fnOf "spent" "spent" (defArgs (topS 39)) (defBody (topS 39)) (defScope (topS 39)) .none kVe39 dce39 pme39 ane39 cde39 cte39), sle39⟩)
    (H39 : initB K g39 cde39 "spent" = true)
    (A40 : nsIn K mainGlobals "added_up" = some (some (.ref g40)))
    (L40 : K.lookup g40 = some ⟨oce40, ode40, .func (PySem.W.fnOf "added_up" "added_up" (defArgs (topS 40)) (defBody (topS 40)) (defScope (topS 40)) .none kVe40 dce40 pme40 ane40 cde40 cte40), sle40⟩)
    (H40 : initB K g40 cde40 "added_up" = true)
    (A43 : nsIn K mainGlobals "is_even" = some (some (.ref g43)))
    (L43 : K.lookup g43 = some ⟨oce43, ode43, .func (PySem.W.fnOf "is_even" "is_even" (defArgs (topS 43)) (defBody (topS 43)) (defScope (topS 43)) .none kVe43 dce43 pme43 ane43 cde43 cte43), sle43⟩)
    (H43 : initB K g43 cde43 "is_even" = true)
    (A44 : nsIn K mainGlobals "uneven_pair" = some (some (.ref g44)))
    (L44 : K.lookup g44 = some ⟨oce44, ode44, .func (PySem.W.fnOf "uneven_pair" "uneven_pair" (defArgs (topS 44)) (defBody (topS 44)) (defScope (topS 44)) .none kVe44 dce44 pme44 ane44 cde44 cte44), sle44⟩)
    (H44 : initB K g44 cde44 "uneven_pair" = true)
    (A45 : nsIn K mainGlobals "class_counts" = some (some (.ref g45)))
    (L45 : K.lookup g45 = some ⟨oce45, ode45, .func (PySem.W.fnOf "class_counts" "class_counts" (defArgs (topS 45)) (defBody (topS 45)) (defScope (topS 45)) .none kVe45 dce45 pme45 ane45 cde45 cte45), sle45⟩)
    (H45 : initB K g45 cde45 "class_counts" = true)
    (A46 : nsIn K mainGlobals "line_columns" = some (some (.ref g46)))
    (L46 : K.lookup g46 = some ⟨oce46, ode46, .func (PySem.W.fnOf "line_columns" "line_columns" (defArgs (topS 46)) (defBody (topS 46)) (defScope (topS 46)) .none kVe46 dce46 pme46 ane46 cde46 cte46), sle46⟩)
    (H46 : initB K g46 cde46 "line_columns" = true)
    (A47 : nsIn K mainGlobals "moved" = some (some (.ref g47)))
    (L47 : K.lookup g47 = some ⟨oce47, ode47, .func (PySem.W.fnOf "moved" "moved" (defArgs (topS 47)) (defBody (topS 47)) (defScope (topS 47)) .none kVe47 dce47 pme47 ane47 cde47 cte47), sle47⟩)
    (H47 : initB K g47 cde47 "moved" = true)
    (A48 : nsIn K mainGlobals "repeated" = some (some (.ref g48)))
    (L48 : K.lookup g48 = some ⟨oce48, ode48, .func (PySem.W.fnOf "repeated" "repeated" (defArgs (topS 48)) (defBody (topS 48)) (defScope (topS 48)) .none kVe48 dce48 pme48 ane48 cde48 cte48), sle48⟩)
    (H48 : initB K g48 cde48 "repeated" = true)
    (A49 : nsIn K mainGlobals "window_sums" = some (some (.ref g49)))
    (L49 : K.lookup g49 = some ⟨oce49, ode49, .func (PySem.W.fnOf "window_sums" "window_sums" (defArgs (topS 49)) (defBody (topS 49)) (defScope (topS 49)) .none kVe49 dce49 pme49 ane49 cde49 cte49), sle49⟩)
    (H49 : initB K g49 cde49 "window_sums" = true)
    (A51 : nsIn K mainGlobals "looks" = some (some (.ref g51)))
    (L51 : K.lookup g51 = some ⟨oce51, ode51, .func (PySem.W.fnOf "looks" "looks" (defArgs (topS 51)) (defBody (topS 51)) (defScope (topS 51)) .none kVe51 dce51 pme51 ane51 cde51 cte51), sle51⟩)
    (H51 : initB K g51 cde51 "looks" = true)
    (A54 : nsIn K mainGlobals "items_from" = some (some (.ref g54)))
    (L54 : K.lookup g54 = some ⟨oce54, ode54, .func (PySem.W.fnOf "items_from" "items_from" (defArgs (topS 54)) (defBody (topS 54)) (defScope (topS 54)) .none kVe54 dce54 pme54 ane54 cde54 cte54), sle54⟩)
    (H54 : initB K g54 cde54 "items_from" = true)
    (A55 : nsIn K mainGlobals "item_from" = some (some (.ref g55)))
    (L55 : K.lookup g55 = some ⟨oce55, ode55, .func (PySem.W.fnOf "item_from" "item_from" (defArgs (topS 55)) (defBody (topS 55)) (defScope (topS 55)) .none kVe55 dce55 pme55 ane55 cde55 cte55), sle55⟩)
    (H55 : initB K g55 cde55 "item_from" = true)
    (A58 : nsIn K mainGlobals "is_safe" = some (some (.ref g58)))
    (L58 : K.lookup g58 = some ⟨oce58, ode58, .func (PySem.W.fnOf "is_safe" "is_safe" (defArgs (topS 58)) (defBody (topS 58)) (defScope (topS 58)) .none kVe58 dce58 pme58 ane58 cde58 cte58), sle58⟩)
    (H58 : initB K g58 cde58 "is_safe" = true)
    (A63 : nsIn K mainGlobals "shared_divisor" = some (some (.ref g63)))
    (L63 : K.lookup g63 = some ⟨oce63, ode63, .func (PySem.W.fnOf "shared_divisor" "shared_divisor" (defArgs (topS 63)) (defBody (topS 63)) (defScope (topS 63)) .none kVe63 dce63 pme63 ane63 cde63 cte63), sle63⟩)
    (H63 : initB K g63 cde63 "shared_divisor" = true)
    (A69 : nsIn K mainGlobals "check_index" = some (some (.ref g69)))
    (L69 : K.lookup g69 = some ⟨oce69, ode69, .func (PySem.W.fnOf "check_index" "check_index" (defArgs (topS 69)) (defBody (topS 69)) (defScope (topS 69)) .none kVe69 dce69 pme69 ane69 cde69 cte69), sle69⟩)
    (H69 : initB K g69 cde69 "check_index" = true)
    (A75 : nsIn K mainGlobals "padded" = some (some (.ref g75)))
    (L75 : K.lookup g75 = some ⟨oce75, ode75, .func (PySem.W.fnOf "padded" "padded" (defArgs (topS 75)) (defBody (topS 75)) (defScope (topS 75)) .none kVe75 dce75 pme75 ane75 cde75 cte75), sle75⟩)
    (H75 : initB K g75 cde75 "padded" = true)
    (A76 : nsIn K mainGlobals "least_padding" = some (some (.ref g76)))
    (L76 : K.lookup g76 = some ⟨oce76, ode76, .func (PySem.W.fnOf "least_padding" "least_padding" (defArgs (topS 76)) (defBody (topS 76)) (defScope (topS 76)) .none kVe76 dce76 pme76 ane76 cde76 cte76), sle76⟩)
    (H76 : initB K g76 cde76 "least_padding" = true)
    (A78 : nsIn K mainGlobals "show_program" = some (some (.ref g78)))
    (L78 : K.lookup g78 = some ⟨oce78, ode78, .func (PySem.W.fnOf "show_program" "show_program" (defArgs (topS 78)) (defBody (topS 78)) (defScope (topS 78)) .none kVe78 dce78 pme78 ane78 cde78 cte78), sle78⟩)
    (H78 : initB K g78 cde78 "show_program" = true)
    (A79 : nsIn K mainGlobals "read_program" = some (some (.ref g79)))
    (L79 : K.lookup g79 = some ⟨oce79, ode79, .func (PySem.W.fnOf "read_program" "read_program" (defArgs (topS 79)) (defBody (topS 79)) (defScope (topS 79)) .none kVe79 dce79 pme79 ane79 cde79 cte79), sle79⟩)
    (H79 : initB K g79 cde79 "read_program" = true)
    (A80 : nsIn K mainGlobals "item_text" = some (some (.ref g80)))
    (L80 : K.lookup g80 = some ⟨oce80, ode80, .func (PySem.W.fnOf "item_text" "item_text" (defArgs (topS 80)) (defBody (topS 80)) (defScope (topS 80)) .none kVe80 dce80 pme80 ane80 cde80 cte80), sle80⟩)
    (H80 : initB K g80 cde80 "item_text" = true)
    (A81 : nsIn K mainGlobals "read_items" = some (some (.ref g81)))
    (L81 : K.lookup g81 = some ⟨oce81, ode81, .func (PySem.W.fnOf "read_items" "read_items" (defArgs (topS 81)) (defBody (topS 81)) (defScope (topS 81)) .none kVe81 dce81 pme81 ane81 cde81 cte81), sle81⟩)
    (H81 : initB K g81 cde81 "read_items" = true)
    (A82 : nsIn K mainGlobals "read_item" = some (some (.ref g82)))
    (L82 : K.lookup g82 = some ⟨oce82, ode82, .func (PySem.W.fnOf "read_item" "read_item" (defArgs (topS 82)) (defBody (topS 82)) (defScope (topS 82)) .none kVe82 dce82 pme82 ane82 cde82 cte82), sle82⟩)
    (H82 : initB K g82 cde82 "read_item" = true)
    (A83 : nsIn K mainGlobals "read_name" = some (some (.ref g83)))
    (L83 : K.lookup g83 = some ⟨oce83, ode83, .func (PySem.W.fnOf "read_name" "read_name" (defArgs (topS 83)) (defBody (topS 83)) (defScope (topS 83)) .none kVe83 dce83 pme83 ane83 cde83 cte83), sle83⟩)
    (H83 : initB K g83 cde83 "read_name" = true)
    (A84 : nsIn K mainGlobals "read_number" = some (some (.ref g84)))
    (L84 : K.lookup g84 = some ⟨oce84, ode84, .func (PySem.W.fnOf "read_number" "read_number" (defArgs (topS 84)) (defBody (topS 84)) (defScope (topS 84)) .none kVe84 dce84 pme84 ane84 cde84 cte84), sle84⟩)
    (H84 : initB K g84 cde84 "read_number" = true)
    (A85 : nsIn K mainGlobals "is_letter" = some (some (.ref g85)))
    (L85 : K.lookup g85 = some ⟨oce85, ode85, .func (PySem.W.fnOf "is_letter" "is_letter" (defArgs (topS 85)) (defBody (topS 85)) (defScope (topS 85)) .none kVe85 dce85 pme85 ane85 cde85 cte85), sle85⟩)
    (H85 : initB K g85 cde85 "is_letter" = true)
    (A86 : nsIn K mainGlobals "behind" = some (some (.ref g86)))
    (L86 : K.lookup g86 = some ⟨oce86, ode86, .func (PySem.W.fnOf "behind" "behind" (defArgs (topS 86)) (defBody (topS 86)) (defScope (topS 86)) .none kVe86 dce86 pme86 ane86 cde86 cte86), sle86⟩)
    (H86 : initB K g86 cde86 "behind" = true)
    (A95 : nsIn K mainGlobals "tell_program" = some (some (.ref g95)))
    (L95 : K.lookup g95 = some ⟨oce95, ode95, .func (PySem.W.fnOf "tell_program" "tell_program" (defArgs (topS 95)) (defBody (topS 95)) (defScope (topS 95)) .none kVe95 dce95 pme95 ane95 cde95 cte95), sle95⟩)
    (H95 : initB K g95 cde95 "tell_program" = true)
    (A96 : nsIn K mainGlobals "tell_length" = some (some (.ref g96)))
    (L96 : K.lookup g96 = some ⟨oce96, ode96, .func (PySem.W.fnOf "tell_length" "tell_length" (defArgs (topS 96)) (defBody (topS 96)) (defScope (topS 96)) .none kVe96 dce96 pme96 ane96 cde96 cte96), sle96⟩)
    (H96 : initB K g96 cde96 "tell_length" = true)
    (A112 : nsIn K mainGlobals "parts_of" = some (some (.ref g112)))
    (L112 : K.lookup g112 = some ⟨oce112, ode112, .func (PySem.W.fnOf "parts_of" "parts_of" (defArgs (topS 112)) (defBody (topS 112)) (defScope (topS 112)) .none kVe112 dce112 pme112 ane112 cde112 cte112), sle112⟩)
    (H112 : initB K g112 cde112 "parts_of" = true)
    (A113 : nsIn K mainGlobals "argument_of" = some (some (.ref g113)))
    (L113 : K.lookup g113 = some ⟨oce113, ode113, .func (PySem.W.fnOf "argument_of" "argument_of" (defArgs (topS 113)) (defBody (topS 113)) (defScope (topS 113)) .none kVe113 dce113 pme113 ane113 cde113 cte113), sle113⟩)
    (H113 : initB K g113 cde113 "argument_of" = true)
    (A117 : nsIn K mainGlobals "_law_stream" = some (some (.ref g117)))
    (L117 : K.lookup g117 = some ⟨oce117, ode117, .func (PySem.W.fnOf "_law_stream" "_law_stream" (defArgs (topS 117)) (defBody (topS 117)) (defScope (topS 117)) .none kVe117 dce117 pme117 ane117 cde117 cte117), sle117⟩)
    (H117 : initB K g117 cde117 "_law_stream" = true)
    (A118 : nsIn K mainGlobals "_law_draw" = some (some (.ref g118)))
    (L118 : K.lookup g118 = some ⟨oce118, ode118, .func (PySem.W.fnOf "_law_draw" "_law_draw" (defArgs (topS 118)) (defBody (topS 118)) (defScope (topS 118)) .none kVe118 dce118 pme118 ane118 cde118 cte118), sle118⟩)
    (H118 : initB K g118 cde118 "_law_draw" = true)
    (A119 : nsIn K mainGlobals "law" = some (some (.ref g119)))
    (L119 : K.lookup g119 = some ⟨oce119, ode119, .func (PySem.W.fnOf "law" "law" (defArgs (topS 119)) (defBody (topS 119)) (defScope (topS 119)) .none kVe119 dce119 pme119 ane119 cde119 cte119), sle119⟩)
    (H119 : initB K g119 cde119 "law" = true)
    (c_MOST_LETTERS : nsIn K mainGlobals "MOST_LETTERS" = some (some (.int 8 t_MOST_LETTERS)))
    (c_MOST_TICKS : nsIn K mainGlobals "MOST_TICKS" = some (some (.int 1000000000000 t_MOST_TICKS)))
    (c_MOST_ROUNDS : nsIn K mainGlobals "MOST_ROUNDS" = some (some (.int 1000000000000000000 t_MOST_ROUNDS)))
    (c_MOST_BESIDE : nsIn K mainGlobals "MOST_BESIDE" = some (some (.int 20 t_MOST_BESIDE)))
    (c_MOST_ITEMS : nsIn K mainGlobals "MOST_ITEMS" = some (some (.int 60 t_MOST_ITEMS)))
    (c_MOST_DEEP : nsIn K mainGlobals "MOST_DEEP" = some (some (.int 5 t_MOST_DEEP)))
    (c_GREATEST_DIVISOR : nsIn K mainGlobals "GREATEST_DIVISOR" = some (some (.int 2000 t_GREATEST_DIVISOR)))
    (c_LONGEST : nsIn K mainGlobals "LONGEST" = some (some (.int 2000 t_LONGEST)))
    (c_PIECE : nsIn K mainGlobals "PIECE" = some (some (.int 10000000000000000000000000000000000000000000000000000000000000000 t_PIECE)))
    (AL_length_programs : nsIn K mainGlobals "length_programs" = some (some (.ref g32)))
    (AL_looks_looks : nsIn K mainGlobals "looks_looks" = some (some (.ref g51)))
    (aC68 : nsIn K mainGlobals "Bench" = some (some (.ref C68)))
    (A68_0 : PySem.W.findIn K (.ref C68) "__init__" = some (some (.ref g68_0)))
    (L68_0 : K.lookup g68_0 = some ⟨oce68_0, ode68_0, .func (PySem.W.fnOf "__init__" "Bench.__init__" (defArgs (inClass (topS 68) 0)) (defBody (inClass (topS 68) 0)) (defScope (inClass (topS 68) 0)) .none kVe68_0 dce68_0 pme68_0 ane68_0 cde68_0 cte68_0), sle68_0⟩)
    (H68_0 : methB K g68_0 cde68_0 "Bench.__init__" = true)
    (A68_2 : PySem.W.findIn K (.ref C68) "program" = some (some (.ref g68_2)))
    (L68_2 : K.lookup g68_2 = some ⟨oce68_2, ode68_2, .func (PySem.W.fnOf "program" "Bench.program" (defArgs (inClass (topS 68) 2)) (defBody (inClass (topS 68) 2)) (defScope (inClass (topS 68) 2)) .none kVe68_2 dce68_2 pme68_2 ane68_2 cde68_2 cte68_2), sle68_2⟩)
    (H68_2 : methB K g68_2 cde68_2 "Bench.program" = true)
    (A68_3 : PySem.W.findIn K (.ref C68) "length" = some (some (.ref g68_3)))
    (L68_3 : K.lookup g68_3 = some ⟨oce68_3, ode68_3, .func (PySem.W.fnOf "length" "Bench.length" (defArgs (inClass (topS 68) 3)) (defBody (inClass (topS 68) 3)) (defScope (inClass (topS 68) 3)) .none kVe68_3 dce68_3 pme68_3 ane68_3 cde68_3 cte68_3), sle68_3⟩)
    (H68_3 : methB K g68_3 cde68_3 "Bench.length" = true)
    (A68_7 : PySem.W.findIn K (.ref C68) "delete" = some (some (.ref g68_7)))
    (L68_7 : K.lookup g68_7 = some ⟨oce68_7, ode68_7, .func (PySem.W.fnOf "delete" "Bench.delete" (defArgs (inClass (topS 68) 7)) (defBody (inClass (topS 68) 7)) (defScope (inClass (topS 68) 7)) .none kVe68_7 dce68_7 pme68_7 ane68_7 cde68_7 cte68_7), sle68_7⟩)
    (H68_7 : methB K g68_7 cde68_7 "Bench.delete" = true)
    (A68_8 : PySem.W.findIn K (.ref C68) "wrap" = some (some (.ref g68_8)))
    (L68_8 : K.lookup g68_8 = some ⟨oce68_8, ode68_8, .func (PySem.W.fnOf "wrap" "Bench.wrap" (defArgs (inClass (topS 68) 8)) (defBody (inClass (topS 68) 8)) (defScope (inClass (topS 68) 8)) .none kVe68_8 dce68_8 pme68_8 ane68_8 cde68_8 cte68_8), sle68_8⟩)
    (H68_8 : methB K g68_8 cde68_8 "Bench.wrap" = true)
    (A68_11 : PySem.W.findIn K (.ref C68) "safe" = some (some (.ref g68_11)))
    (L68_11 : K.lookup g68_11 = some ⟨oce68_11, ode68_11, .func (PySem.W.fnOf "safe" "Bench.safe" (defArgs (inClass (topS 68) 11)) (defBody (inClass (topS 68) 11)) (defScope (inClass (topS 68) 11)) .none kVe68_11 dce68_11 pme68_11 ane68_11 cde68_11 cte68_11), sle68_11⟩)
    (H68_11 : methB K g68_11 cde68_11 "Bench.safe" = true)
    (A68_12 : PySem.W.findIn K (.ref C68) "looks" = some (some (.ref g68_12)))
    (L68_12 : K.lookup g68_12 = some ⟨oce68_12, ode68_12, .func (PySem.W.fnOf "looks" "Bench.looks" (defArgs (inClass (topS 68) 12)) (defBody (inClass (topS 68) 12)) (defScope (inClass (topS 68) 12)) .none kVe68_12 dce68_12 pme68_12 ane68_12 cde68_12 cte68_12), sle68_12⟩)
    (H68_12 : methB K g68_12 cde68_12 "Bench.looks" = true)
    (A68_14 : PySem.W.findIn K (.ref C68) "put" = some (some (.ref g68_14)))
    (L68_14 : K.lookup g68_14 = some ⟨oce68_14, ode68_14, .func (PySem.W.fnOf "put" "Bench.put" (defArgs (inClass (topS 68) 14)) (defBody (inClass (topS 68) 14)) (defScope (inClass (topS 68) 14)) .none kVe68_14 dce68_14 pme68_14 ane68_14 cde68_14 cte68_14), sle68_14⟩)
    (H68_14 : methB K g68_14 cde68_14 "Bench.put" = true)
    (A68_15 : PySem.W.findIn K (.ref C68) "change" = some (some (.ref g68_15)))
    (L68_15 : K.lookup g68_15 = some ⟨oce68_15, ode68_15, .func (PySem.W.fnOf "change" "Bench.change" (defArgs (inClass (topS 68) 15)) (defBody (inClass (topS 68) 15)) (defScope (inClass (topS 68) 15)) .none kVe68_15 dce68_15 pme68_15 ane68_15 cde68_15 cte68_15), sle68_15⟩)
    (H68_15 : methB K g68_15 cde68_15 "Bench.change" = true)
    (HC68 : clsB K C68 = true)
    (sa68 : PySem.W.findIn K (.ref C68) "__setattr__" = some (some (.builtin "object.__setattr__")))
    (no68_current : PySem.W.findIn K (.ref C68) "current" = some none)
    (no68_earlier : PySem.W.findIn K (.ref C68) "earlier" = some none)
    (aC109 : nsIn K mainGlobals "Desk" = some (some (.ref C109)))
    (A109_0 : PySem.W.findIn K (.ref C109) "__init__" = some (some (.ref g109_0)))
    (L109_0 : K.lookup g109_0 = some ⟨oce109_0, ode109_0, .func (PySem.W.fnOf "__init__" "Desk.__init__" (defArgs (inClass (topS 109) 0)) (defBody (inClass (topS 109) 0)) (defScope (inClass (topS 109) 0)) .none kVe109_0 dce109_0 pme109_0 ane109_0 cde109_0 cte109_0), sle109_0⟩)
    (H109_0 : methB K g109_0 cde109_0 "Desk.__init__" = true)
    (A109_1 : PySem.W.findIn K (.ref C109) "run" = some (some (.ref g109_1)))
    (L109_1 : K.lookup g109_1 = some ⟨oce109_1, ode109_1, .func (PySem.W.fnOf "run" "Desk.run" (defArgs (inClass (topS 109) 1)) (defBody (inClass (topS 109) 1)) (defScope (inClass (topS 109) 1)) .none kVe109_1 dce109_1 pme109_1 ane109_1 cde109_1 cte109_1), sle109_1⟩)
    (H109_1 : methB K g109_1 cde109_1 "Desk.run" = true)
    (HC109 : clsB K C109 = true)
    (sa109 : PySem.W.findIn K (.ref C109) "__setattr__" = some (some (.builtin "object.__setattr__")))
    (no109_bench : PySem.W.findIn K (.ref C109) "bench" = some none)
    (eaS : nsIn K mainGlobals "SampleError" = some (some (.ref cS)))
    (exS : K.lookup cS = some (excClassObj nmS qnS cS NS bsS [.type "ValueError", .type "Exception", .type "BaseException", .type "object"] true snS subS abS colS ddS pS rS sS tS_ wS "ValueError.__new__"))
    (HbS : baseB K cS = true)
    (vS : findCls K (.ref cS) (.type "type") "__init__" = some (.val (.builtin "ValueError.__init__")))
    (ea11 : nsIn K mainGlobals "BadText" = some (some (.ref c11)))
    (ex11 : K.lookup c11 = some (excClassObj nm11 qn11 c11 N11 bs11 [.ref cS, .type "ValueError", .type "Exception", .type "BaseException", .type "object"] true sn11 sub11 ab11 col11 dd11 p11 r11 s11 t11_ w11 "ValueError.__new__"))
    (He11 : errB K c11 = true)
    (ei11 : findIn K (.ref c11) "__init__" = some (some (.ref j11)))
    (el11 : K.lookup j11 = some ⟨oc11, od11, .func (PySem.W.fnOf "__init__" "BadText.__init__" (defArgs (inClass (topS 11) 0)) (defBody (inClass (topS 11) 0)) (defScope (inClass (topS 11) 0)) .none kV11 dc11 pm11 an11 cd11 ct11), sl11⟩)
    (Hi11 : initB K j11 cd11 "BadText.__init__" = true)
    (en11 : findIn K (.ref c11) "position" = some none)
    (z_ValueError : nsIn K mainGlobals "ValueError" = some none)
    (z_len : nsIn K mainGlobals "len" = some none)
    (z_abs : nsIn K mainGlobals "abs" = some none)
    (z_int : nsIn K mainGlobals "int" = some none)
    (z_bool : nsIn K mainGlobals "bool" = some none)
    (z_isinstance : nsIn K mainGlobals "isinstance" = some none)
    (z_range : nsIn K mainGlobals "range" = some none)
    (z_max : nsIn K mainGlobals "max" = some none)
    (z_min : nsIn K mainGlobals "min" = some none)
    (z_sum : nsIn K mainGlobals "sum" = some none)
    (z_repr : nsIn K mainGlobals "repr" = some none)
    (z_divmod : nsIn K mainGlobals "divmod" = some none)
    (z_tuple : nsIn K mainGlobals "tuple" = some none)
    (z_sorted : nsIn K mainGlobals "sorted" = some none)
    (z_set : nsIn K mainGlobals "set" = some none)
    (z_enumerate : nsIn K mainGlobals "enumerate" = some none)
    (z_zip : nsIn K mainGlobals "zip" = some none)
    (z_list : nsIn K mainGlobals "list" = some none)
    (z_dict : nsIn K mainGlobals "dict" = some none)
    (z_any : nsIn K mainGlobals "any" = some none)
    (z_all : nsIn K mainGlobals "all" = some none)
    (z_str : nsIn K mainGlobals "str" = some none)
    (z_reversed : nsIn K mainGlobals "reversed" = some none)
    (gF : nsIn K mainGlobals "FORMS" = some (some (.ref dF)))
    (gA : nsIn K mainGlobals "ACTIONS" = some (some (.ref dA)))
    (HdF : He.dicW K dF = some (He.keysIn w.params ["insert", "replace", "delete", "undo", "show", "length", "totals", "looks", "seen", "safe", "blockers", "next", "count", "density", "share", "bias", "pad"]))
    (HdA : He.dicW K dA = some (He.keysIn w.params ["insert", "replace", "delete", "undo", "show", "length", "totals", "looks", "seen", "safe", "blockers", "next", "count", "density", "share", "bias", "pad"]))
    (vFS : nsIn K dF "show" = some (some (.ref tS)))
    (vFL : nsIn K dF "length" = some (some (.ref tL)))
    (oFS : K.lookup tS = some ⟨.type "tuple", odS, .seq #[] nS, slS⟩)
    (oFL : K.lookup tL = some ⟨.type "tuple", odL, .seq #[] nL, slL⟩)
    (vAS : nsIn K dA "show" = some (some (.ref g95)))
    (vAL : nsIn K dA "length" = some (some (.ref g96)))
    : ∃ fd : FuncData, (∀ (s : Shared) (u : Value), BindsTo s fd ⟨[u], []⟩ [("_law_script", u)]) ∧
      ∀ base : Heap, K.In base → base.Ns mainGlobals mg → (∃ mm, base.Ns sysModules mm) → FnG P w K mg base CX0 22 fa fd ["_law_script"] (spLaw K) := by
  have e := hfa.symm.trans (PySem.W.mg_of X G A119)
  cases e
  obtain ⟨t15, u15, v15⟩ := initB_ok H15
  have F15 := fun_mk (st := topS 15) L15 u15 v15
  have m15 := PySem.W.mg_of X G A15
  have b15 := F15.binds (ps := ["value"]) fun _ _ _ _ _ _ us hl => match us, hl with | [_], _ => rfl
  obtain ⟨t16, u16, v16⟩ := initB_ok H16
  have F16 := fun_mk (st := topS 16) L16 u16 v16
  have m16 := PySem.W.mg_of X G A16
  have b16 := F16.binds (ps := ["value", "least", "most"]) fun _ _ _ _ _ _ us hl => match us, hl with | [_, _, _], _ => rfl
  obtain ⟨t17, u17, v17⟩ := initB_ok H17
  have F17 := fun_mk (st := topS 17) L17 u17 v17
  have m17 := PySem.W.mg_of X G A17
  have b17 := F17.binds (ps := ["one", "other"]) fun _ _ _ _ _ _ us hl => match us, hl with | [_, _], _ => rfl
  obtain ⟨t19, u19, v19⟩ := initB_ok H19
  have F19 := fun_mk (st := topS 19) L19 u19 v19
  have m19 := PySem.W.mg_of X G A19
  have b19 := F19.binds (ps := ["number"]) fun _ _ _ _ _ _ us hl => match us, hl with | [_], _ => rfl
  obtain ⟨t28, u28, v28⟩ := initB_ok H28
  have F28 := fun_mk (st := topS 28) L28 u28 v28
  have m28 := PySem.W.mg_of X G A28
  have b28 := F28.binds (ps := ["value"]) fun _ _ _ _ _ _ us hl => match us, hl with | [_], _ => rfl
  obtain ⟨t29, u29, v29⟩ := initB_ok H29
  have F29 := fun_mk (st := topS 29) L29 u29 v29
  have m29 := PySem.W.mg_of X G A29
  have b29 := F29.binds (ps := ["items", "depth", "room"]) fun _ _ _ _ _ _ us hl => match us, hl with | [_, _, _], _ => rfl
  obtain ⟨t30, u30, v30⟩ := initB_ok H30
  have F30 := fun_mk (st := topS 30) L30 u30 v30
  have m30 := PySem.W.mg_of X G A30
  have b30 := F30.binds (ps := ["item", "depth", "room"]) fun _ _ _ _ _ _ us hl => match us, hl with | [_, _, _], _ => rfl
  obtain ⟨t31, u31, v31⟩ := initB_ok H31
  have F31 := fun_mk (st := topS 31) L31 u31 v31
  have m31 := PySem.W.mg_of X G A31
  have b31 := F31.binds (ps := ["value"]) fun _ _ _ _ _ _ us hl => match us, hl with | [_], _ => rfl
  obtain ⟨t32, u32, v32⟩ := initB_ok H32
  have F32 := fun_mk (st := topS 32) L32 u32 v32
  have m32 := PySem.W.mg_of X G A32
  have b32 := F32.binds (ps := ["program"]) fun _ _ _ _ _ _ us hl => match us, hl with | [_], _ => rfl
  obtain ⟨t34, u34, v34⟩ := initB_ok H34
  have F34 := fun_mk (st := topS 34) L34 u34 v34
  have m34 := PySem.W.mg_of X G A34
  have b34 := F34.binds (ps := ["program"]) fun _ _ _ _ _ _ us hl => match us, hl with | [_], _ => rfl
  obtain ⟨t39, u39, v39⟩ := initB_ok H39
  have F39 := fun_mk (st := topS 39) L39 u39 v39
  have m39 := PySem.W.mg_of X G A39
  have b39 := F39.binds (ps := ["items", "rounds"]) fun _ _ _ _ _ _ us hl => match us, hl with | [_, _], _ => rfl
  obtain ⟨t40, u40, v40⟩ := initB_ok H40
  have F40 := fun_mk (st := topS 40) L40 u40 v40
  have m40 := PySem.W.mg_of X G A40
  have b40 := F40.binds (ps := ["program", "pairs"]) fun _ _ _ _ _ _ us hl => match us, hl with | [_, _], _ => rfl
  obtain ⟨t43, u43, v43⟩ := initB_ok H43
  have F43 := fun_mk (st := topS 43) L43 u43 v43
  have m43 := PySem.W.mg_of X G A43
  have b43 := F43.binds (ps := ["program", "modulus"]) fun _ _ _ _ _ _ us hl => match us, hl with | [_, _], _ => rfl
  obtain ⟨t44, u44, v44⟩ := initB_ok H44
  have F44 := fun_mk (st := topS 44) L44 u44 v44
  have m44 := PySem.W.mg_of X G A44
  have b44 := F44.binds (ps := ["program", "modulus"]) fun _ _ _ _ _ _ us hl => match us, hl with | [_, _], _ => rfl
  obtain ⟨t45, u45, v45⟩ := initB_ok H45
  have F45 := fun_mk (st := topS 45) L45 u45 v45
  have m45 := PySem.W.mg_of X G A45
  have b45 := F45.binds (ps := ["program", "modulus"]) fun _ _ _ _ _ _ us hl => match us, hl with | [_, _], _ => rfl
  obtain ⟨t46, u46, v46⟩ := initB_ok H46
  have F46 := fun_mk (st := topS 46) L46 u46 v46
  have m46 := PySem.W.mg_of X G A46
  have b46 := F46.binds (ps := ["items", "starts"]) fun _ _ _ _ _ _ us hl => match us, hl with | [_, _], _ => rfl
  obtain ⟨t47, u47, v47⟩ := initB_ok H47
  have F47 := fun_mk (st := topS 47) L47 u47 v47
  have m47 := PySem.W.mg_of X G A47
  have b47 := F47.binds (ps := ["starts", "ticks"]) fun _ _ _ _ _ _ us hl => match us, hl with | [_, _], _ => rfl
  obtain ⟨t48, u48, v48⟩ := initB_ok H48
  have F48 := fun_mk (st := topS 48) L48 u48 v48
  have m48 := PySem.W.mg_of X G A48
  have b48 := F48.binds (ps := ["starts", "step", "times"]) fun _ _ _ _ _ _ us hl => match us, hl with | [_, _, _], _ => rfl
  obtain ⟨t49, u49, v49⟩ := initB_ok H49
  have F49 := fun_mk (st := topS 49) L49 u49 v49
  have m49 := PySem.W.mg_of X G A49
  have b49 := F49.binds (ps := ["ring", "times"]) fun _ _ _ _ _ _ us hl => match us, hl with | [_, _], _ => rfl
  obtain ⟨t51, u51, v51⟩ := initB_ok H51
  have F51 := fun_mk (st := topS 51) L51 u51 v51
  have m51 := PySem.W.mg_of X G A51
  have b51 := F51.binds (ps := ["program", "period", "start"]) fun _ _ _ _ _ _ us hl => match us, hl with | [_, _, _], _ => rfl
  obtain ⟨t54, u54, v54⟩ := initB_ok H54
  have F54 := fun_mk (st := topS 54) L54 u54 v54
  have m54 := PySem.W.mg_of X G A54
  have b54 := F54.binds (ps := ["items", "start"]) fun _ _ _ _ _ _ us hl => match us, hl with | [_, _], _ => rfl
  obtain ⟨t55, u55, v55⟩ := initB_ok H55
  have F55 := fun_mk (st := topS 55) L55 u55 v55
  have m55 := PySem.W.mg_of X G A55
  have b55 := F55.binds (ps := ["item", "start"]) fun _ _ _ _ _ _ us hl => match us, hl with | [_, _], _ => rfl
  obtain ⟨t58, u58, v58⟩ := initB_ok H58
  have F58 := fun_mk (st := topS 58) L58 u58 v58
  have m58 := PySem.W.mg_of X G A58
  have b58 := F58.binds (ps := ["program", "period"]) fun _ _ _ _ _ _ us hl => match us, hl with | [_, _], _ => rfl
  obtain ⟨t63, u63, v63⟩ := initB_ok H63
  have F63 := fun_mk (st := topS 63) L63 u63 v63
  have m63 := PySem.W.mg_of X G A63
  have b63 := F63.binds (ps := ["program", "period"]) fun _ _ _ _ _ _ us hl => match us, hl with | [_, _], _ => rfl
  obtain ⟨t69, u69, v69⟩ := initB_ok H69
  have F69 := fun_mk (st := topS 69) L69 u69 v69
  have m69 := PySem.W.mg_of X G A69
  have b69 := F69.binds (ps := ["value", "least", "most"]) fun _ _ _ _ _ _ us hl => match us, hl with | [_, _, _], _ => rfl
  obtain ⟨t75, u75, v75⟩ := initB_ok H75
  have F75 := fun_mk (st := topS 75) L75 u75 v75
  have m75 := PySem.W.mg_of X G A75
  have b75 := F75.binds (ps := ["program", "ticks"]) fun _ _ _ _ _ _ us hl => match us, hl with | [_, _], _ => rfl
  obtain ⟨t76, u76, v76⟩ := initB_ok H76
  have F76 := fun_mk (st := topS 76) L76 u76 v76
  have m76 := PySem.W.mg_of X G A76
  have b76 := F76.binds (ps := ["program", "period"]) fun _ _ _ _ _ _ us hl => match us, hl with | [_, _], _ => rfl
  obtain ⟨t78, u78, v78⟩ := initB_ok H78
  have F78 := fun_mk (st := topS 78) L78 u78 v78
  have m78 := PySem.W.mg_of X G A78
  have b78 := F78.binds (ps := ["program"]) fun _ _ _ _ _ _ us hl => match us, hl with | [_], _ => rfl
  obtain ⟨t79, u79, v79⟩ := initB_ok H79
  have F79 := fun_mk (st := topS 79) L79 u79 v79
  have m79 := PySem.W.mg_of X G A79
  have b79 := F79.binds (ps := ["text"]) fun _ _ _ _ _ _ us hl => match us, hl with | [_], _ => rfl
  obtain ⟨t80, u80, v80⟩ := initB_ok H80
  have F80 := fun_mk (st := topS 80) L80 u80 v80
  have m80 := PySem.W.mg_of X G A80
  have b80 := F80.binds (ps := ["item"]) fun _ _ _ _ _ _ us hl => match us, hl with | [_], _ => rfl
  obtain ⟨t81, u81, v81⟩ := initB_ok H81
  have F81 := fun_mk (st := topS 81) L81 u81 v81
  have m81 := PySem.W.mg_of X G A81
  have b81 := F81.binds (ps := ["text", "at", "depth", "room"]) fun _ _ _ _ _ _ us hl => match us, hl with | [_, _, _, _], _ => rfl
  obtain ⟨t82, u82, v82⟩ := initB_ok H82
  have F82 := fun_mk (st := topS 82) L82 u82 v82
  have m82 := PySem.W.mg_of X G A82
  have b82 := F82.binds (ps := ["text", "at", "depth", "room"]) fun _ _ _ _ _ _ us hl => match us, hl with | [_, _, _, _], _ => rfl
  obtain ⟨t83, u83, v83⟩ := initB_ok H83
  have F83 := fun_mk (st := topS 83) L83 u83 v83
  have m83 := PySem.W.mg_of X G A83
  have b83 := F83.binds (ps := ["text", "at"]) fun _ _ _ _ _ _ us hl => match us, hl with | [_, _], _ => rfl
  obtain ⟨t84, u84, v84⟩ := initB_ok H84
  have F84 := fun_mk (st := topS 84) L84 u84 v84
  have m84 := PySem.W.mg_of X G A84
  have b84 := F84.binds (ps := ["text", "at", "most"]) fun _ _ _ _ _ _ us hl => match us, hl with | [_, _, _], _ => rfl
  obtain ⟨t85, u85, v85⟩ := initB_ok H85
  have F85 := fun_mk (st := topS 85) L85 u85 v85
  have m85 := PySem.W.mg_of X G A85
  have b85 := F85.binds (ps := ["text"]) fun _ _ _ _ _ _ us hl => match us, hl with | [_], _ => rfl
  obtain ⟨t86, u86, v86⟩ := initB_ok H86
  have F86 := fun_mk (st := topS 86) L86 u86 v86
  have m86 := PySem.W.mg_of X G A86
  have b86 := F86.binds (ps := ["text", "at", "signs"]) fun _ _ _ _ _ _ us hl => match us, hl with | [_, _, _], _ => rfl
  obtain ⟨t95, u95, v95⟩ := initB_ok H95
  have F95 := fun_mk (st := topS 95) L95 u95 v95
  have m95 := PySem.W.mg_of X G A95
  have b95 := F95.binds (ps := ["bench"]) fun _ _ _ _ _ _ us hl => match us, hl with | [_], _ => rfl
  obtain ⟨t96, u96, v96⟩ := initB_ok H96
  have F96 := fun_mk (st := topS 96) L96 u96 v96
  have m96 := PySem.W.mg_of X G A96
  have b96 := F96.binds (ps := ["bench"]) fun _ _ _ _ _ _ us hl => match us, hl with | [_], _ => rfl
  obtain ⟨t112, u112, v112⟩ := initB_ok H112
  have F112 := fun_mk (st := topS 112) L112 u112 v112
  have m112 := PySem.W.mg_of X G A112
  have b112 := F112.binds (ps := ["line"]) fun _ _ _ _ _ _ us hl => match us, hl with | [_], _ => rfl
  obtain ⟨t113, u113, v113⟩ := initB_ok H113
  have F113 := fun_mk (st := topS 113) L113 u113 v113
  have m113 := PySem.W.mg_of X G A113
  have b113 := F113.binds (ps := ["kind", "text"]) fun _ _ _ _ _ _ us hl => match us, hl with | [_, _], _ => rfl
  obtain ⟨t117, u117, v117⟩ := initB_ok H117
  have F117 := fun_mk (st := topS 117) L117 u117 v117
  have m117 := PySem.W.mg_of X G A117
  have b117 := F117.binds (ps := ["_law_script", "_law_k"]) fun _ _ _ _ _ _ us hl => match us, hl with | [_, _], _ => rfl
  obtain ⟨t118, u118, v118⟩ := initB_ok H118
  have F118 := fun_mk (st := topS 118) L118 u118 v118
  have m118 := PySem.W.mg_of X G A118
  have b118 := F118.binds (ps := ["_law_stream_here", "_law_many"]) fun _ _ _ _ _ _ us hl => match us, hl with | [_, _], _ => rfl
  obtain ⟨t119, u119, v119⟩ := initB_ok H119
  have F119 := fun_mk (st := topS 119) L119 u119 v119
  have m119 := PySem.W.mg_of X G A119
  have m_length_programs := PySem.W.mg_of X G AL_length_programs
  have m_looks_looks := PySem.W.mg_of X G AL_looks_looks
  obtain ⟨pg68, hd68, po68, mk68, kc68⟩ := clsB_ok HC68
  have cl68 : Cls K C68 := ⟨pg68, hd68, po68, sa68⟩
  have mC68 := PySem.W.mg_of X G aC68
  obtain ⟨i68_0, u68_0, v68_0⟩ := methB_ok H68_0
  have F68_0 := fun_mk (st := inClass (topS 68) 0) L68_0 u68_0 v68_0
  have b68_0 := F68_0.binds (ps := ["self", "program"]) fun _ _ _ _ _ _ us hl => match us, hl with | [_, _], _ => rfl
  obtain ⟨i68_2, u68_2, v68_2⟩ := methB_ok H68_2
  have F68_2 := fun_mk (st := inClass (topS 68) 2) L68_2 u68_2 v68_2
  have b68_2 := F68_2.binds (ps := ["self"]) fun _ _ _ _ _ _ us hl => match us, hl with | [_], _ => rfl
  have D_Bench_program : MDef K C68 "program" "Bench.program" (inClass (topS 68) 2) ["self"] := ⟨_, _, F68_2, b68_2, ⟨A68_2, i68_2, v68_2⟩⟩
  obtain ⟨i68_3, u68_3, v68_3⟩ := methB_ok H68_3
  have F68_3 := fun_mk (st := inClass (topS 68) 3) L68_3 u68_3 v68_3
  have b68_3 := F68_3.binds (ps := ["self"]) fun _ _ _ _ _ _ us hl => match us, hl with | [_], _ => rfl
  have D_Bench_length : MDef K C68 "length" "Bench.length" (inClass (topS 68) 3) ["self"] := ⟨_, _, F68_3, b68_3, ⟨A68_3, i68_3, v68_3⟩⟩
  obtain ⟨i68_7, u68_7, v68_7⟩ := methB_ok H68_7
  have F68_7 := fun_mk (st := inClass (topS 68) 7) L68_7 u68_7 v68_7
  have b68_7 := F68_7.binds (ps := ["self", "index"]) fun _ _ _ _ _ _ us hl => match us, hl with | [_, _], _ => rfl
  have D_Bench_delete : MDef K C68 "delete" "Bench.delete" (inClass (topS 68) 7) ["self", "index"] := ⟨_, _, F68_7, b68_7, ⟨A68_7, i68_7, v68_7⟩⟩
  obtain ⟨i68_8, u68_8, v68_8⟩ := methB_ok H68_8
  have F68_8 := fun_mk (st := inClass (topS 68) 8) L68_8 u68_8 v68_8
  have b68_8 := F68_8.binds (ps := ["self", "first", "stop", "rounds"]) fun _ _ _ _ _ _ us hl => match us, hl with | [_, _, _, _], _ => rfl
  have D_Bench_wrap : MDef K C68 "wrap" "Bench.wrap" (inClass (topS 68) 8) ["self", "first", "stop", "rounds"] := ⟨_, _, F68_8, b68_8, ⟨A68_8, i68_8, v68_8⟩⟩
  obtain ⟨i68_11, u68_11, v68_11⟩ := methB_ok H68_11
  have F68_11 := fun_mk (st := inClass (topS 68) 11) L68_11 u68_11 v68_11
  have b68_11 := F68_11.binds (ps := ["self", "period"]) fun _ _ _ _ _ _ us hl => match us, hl with | [_, _], _ => rfl
  have D_Bench_safe : MDef K C68 "safe" "Bench.safe" (inClass (topS 68) 11) ["self", "period"] := ⟨_, _, F68_11, b68_11, ⟨A68_11, i68_11, v68_11⟩⟩
  obtain ⟨i68_12, u68_12, v68_12⟩ := methB_ok H68_12
  have F68_12 := fun_mk (st := inClass (topS 68) 12) L68_12 u68_12 v68_12
  have b68_12 := F68_12.binds (ps := ["self", "period", "start"]) fun _ _ _ _ _ _ us hl => match us, hl with | [_, _, _], _ => rfl
  have D_Bench_looks : MDef K C68 "looks" "Bench.looks" (inClass (topS 68) 12) ["self", "period", "start"] := ⟨_, _, F68_12, b68_12, ⟨A68_12, i68_12, v68_12⟩⟩
  obtain ⟨i68_14, u68_14, v68_14⟩ := methB_ok H68_14
  have F68_14 := fun_mk (st := inClass (topS 68) 14) L68_14 u68_14 v68_14
  have b68_14 := F68_14.binds (ps := ["self", "first", "stop", "item"]) fun _ _ _ _ _ _ us hl => match us, hl with | [_, _, _, _], _ => rfl
  have D_Bench_put : MDef K C68 "put" "Bench.put" (inClass (topS 68) 14) ["self", "first", "stop", "item"] := ⟨_, _, F68_14, b68_14, ⟨A68_14, i68_14, v68_14⟩⟩
  obtain ⟨i68_15, u68_15, v68_15⟩ := methB_ok H68_15
  have F68_15 := fun_mk (st := inClass (topS 68) 15) L68_15 u68_15 v68_15
  have b68_15 := F68_15.binds (ps := ["self", "program"]) fun _ _ _ _ _ _ us hl => match us, hl with | [_, _], _ => rfl
  have D_Bench_change : MDef K C68 "change" "Bench.change" (inClass (topS 68) 15) ["self", "program"] := ⟨_, _, F68_15, b68_15, ⟨A68_15, i68_15, v68_15⟩⟩
  obtain ⟨pg109, hd109, po109, mk109, kc109⟩ := clsB_ok HC109
  have cl109 : Cls K C109 := ⟨pg109, hd109, po109, sa109⟩
  have mC109 := PySem.W.mg_of X G aC109
  obtain ⟨i109_0, u109_0, v109_0⟩ := methB_ok H109_0
  have F109_0 := fun_mk (st := inClass (topS 109) 0) L109_0 u109_0 v109_0
  have b109_0 := F109_0.binds (ps := ["self", "text"]) fun _ _ _ _ _ _ us hl => match us, hl with | [_, _], _ => rfl
  obtain ⟨i109_1, u109_1, v109_1⟩ := methB_ok H109_1
  have F109_1 := fun_mk (st := inClass (topS 109) 1) L109_1 u109_1 v109_1
  have b109_1 := F109_1.binds (ps := ["self", "line"]) fun _ _ _ _ _ _ us hl => match us, hl with | [_, _], _ => rfl
  have D_Desk_run : MDef K C109 "run" "Desk.run" (inClass (topS 109) 1) ["self", "line"] := ⟨_, _, F109_1, b109_1, ⟨A109_1, i109_1, v109_1⟩⟩
  obtain ⟨sgS, rdS⟩ := by
    have h := HbS
    unfold baseB at h
    simpa only [Bool.and_eq_true, beq_iff_eq] using h
  have g_SampleError := PySem.W.mg_of X G eaS
  have n_ValueError := PySem.W.mg_none_of X G z_ValueError
  have BT : BaseT K mg cS := ⟨g_SampleError, sgS, rdS, vS⟩
  have g_BadText := PySem.W.mg_of X G ea11
  have T_BadText : ErrC K c11 := errB_ok He11 ⟨_, _, _, _, _, _, _, _, _, _, _, _, _, _, _, ex11, rfl⟩
  obtain ⟨ti11, ui11, vi11⟩ := initB_ok Hi11
  have Fi11 := fun_mk (st := inClass (topS 11) 0) el11 ui11 vi11
  have bi11 := Fi11.binds (ps := ["self", "position"]) fun _ _ _ _ _ _ us hl => match us, hl with | [_, _], _ => rfl
  have R_BadText : ∀ base : Heap, Err1 P w K mg base "BadText" c11 "position" := fun base => ⟨g_BadText, T_BadText, en11, j11, _, ei11, ti11, initBadText (P := P) (w := w) (base := base) Fi11 BT T_BadText en11, bi11⟩
  have k_MOST_LETTERS := PySem.W.mg_of X G c_MOST_LETTERS
  have k_MOST_TICKS := PySem.W.mg_of X G c_MOST_TICKS
  have k_MOST_ROUNDS := PySem.W.mg_of X G c_MOST_ROUNDS
  have k_MOST_BESIDE := PySem.W.mg_of X G c_MOST_BESIDE
  have k_MOST_ITEMS := PySem.W.mg_of X G c_MOST_ITEMS
  have k_MOST_DEEP := PySem.W.mg_of X G c_MOST_DEEP
  have k_GREATEST_DIVISOR := PySem.W.mg_of X G c_GREATEST_DIVISOR
  have k_LONGEST := PySem.W.mg_of X G c_LONGEST
  have k_PIECE := PySem.W.mg_of X G c_PIECE
  have n_len := PySem.W.mg_none_of X G z_len
  have n_abs := PySem.W.mg_none_of X G z_abs
  have n_int := PySem.W.mg_none_of X G z_int
  have n_bool := PySem.W.mg_none_of X G z_bool
  have n_isinstance := PySem.W.mg_none_of X G z_isinstance
  have n_range := PySem.W.mg_none_of X G z_range
  have n_max := PySem.W.mg_none_of X G z_max
  have n_min := PySem.W.mg_none_of X G z_min
  have n_sum := PySem.W.mg_none_of X G z_sum
  have n_repr := PySem.W.mg_none_of X G z_repr
  have n_divmod := PySem.W.mg_none_of X G z_divmod
  have n_tuple := PySem.W.mg_none_of X G z_tuple
  have n_sorted := PySem.W.mg_none_of X G z_sorted
  have n_set := PySem.W.mg_none_of X G z_set
  have n_enumerate := PySem.W.mg_none_of X G z_enumerate
  have n_zip := PySem.W.mg_none_of X G z_zip
  have n_list := PySem.W.mg_none_of X G z_list
  have n_dict := PySem.W.mg_none_of X G z_dict
  have n_any := PySem.W.mg_none_of X G z_any
  have n_all := PySem.W.mg_none_of X G z_all
  have n_str := PySem.W.mg_none_of X G z_str
  have n_reversed := PySem.W.mg_none_of X G z_reversed
  have nb : NB mg := fun x hx => by
    rw [nbs] at hx
    rcases List.mem_cons.mp hx with rfl | hx
    · exact n_len
    rcases List.mem_cons.mp hx with rfl | hx
    · exact n_abs
    rcases List.mem_cons.mp hx with rfl | hx
    · exact n_int
    rcases List.mem_cons.mp hx with rfl | hx
    · exact n_bool
    rcases List.mem_cons.mp hx with rfl | hx
    · exact n_isinstance
    rcases List.mem_cons.mp hx with rfl | hx
    · exact n_range
    rcases List.mem_cons.mp hx with rfl | hx
    · exact n_max
    rcases List.mem_cons.mp hx with rfl | hx
    · exact n_min
    rcases List.mem_cons.mp hx with rfl | hx
    · exact n_sum
    rcases List.mem_cons.mp hx with rfl | hx
    · exact n_repr
    rcases List.mem_cons.mp hx with rfl | hx
    · exact n_divmod
    rcases List.mem_cons.mp hx with rfl | hx
    · exact n_tuple
    rcases List.mem_cons.mp hx with rfl | hx
    · exact n_sorted
    rcases List.mem_cons.mp hx with rfl | hx
    · exact n_set
    rcases List.mem_cons.mp hx with rfl | hx
    · exact n_enumerate
    rcases List.mem_cons.mp hx with rfl | hx
    · exact n_zip
    rcases List.mem_cons.mp hx with rfl | hx
    · exact n_list
    rcases List.mem_cons.mp hx with rfl | hx
    · exact n_dict
    rcases List.mem_cons.mp hx with rfl | hx
    · exact n_any
    rcases List.mem_cons.mp hx with rfl | hx
    · exact n_all
    rcases List.mem_cons.mp hx with rfl | hx
    · exact n_str
    rcases List.mem_cons.mp hx with rfl | hx
    · exact n_reversed
    cases hx
  refine ⟨PySem.W.fnOf "law" "law" (defArgs (topS 119)) (defBody (topS 119)) (defScope (topS 119)) .none kVe119 dce119 pme119 ane119 cde119 cte119, fun s u => .of_eq rfl, fun base XB _ hm => ?_⟩
  have D_is_whole : Def K mg "is_whole" (topS 15) ["value"] := ⟨_, _, F15, b15, m15⟩
  have D_is_integer_within : Def K mg "is_integer_within" (topS 16) ["value", "least", "most"] := ⟨_, _, F16, b16, m16⟩
  have D_common_divisor : Def K mg "common_divisor" (topS 17) ["one", "other"] := ⟨_, _, F17, b17, m17⟩
  have D_decimal : Def K mg "decimal" (topS 19) ["number"] := ⟨_, _, F19, b19, m19⟩
  have D_is_program : Def K mg "is_program" (topS 28) ["value"] := ⟨_, _, F28, b28, m28⟩
  have D_room_behind_items : Def K mg "room_behind_items" (topS 29) ["items", "depth", "room"] := ⟨_, _, F29, b29, m29⟩
  have D_room_behind : Def K mg "room_behind" (topS 30) ["item", "depth", "room"] := ⟨_, _, F30, b30, m30⟩
  have D_is_name : Def K mg "is_name" (topS 31) ["value"] := ⟨_, _, F31, b31, m31⟩
  have D_length : Def K mg "length" (topS 32) ["program"] := ⟨_, _, F32, b32, m32⟩
  have D_lines_of : Def K mg "lines_of" (topS 34) ["program"] := ⟨_, _, F34, b34, m34⟩
  have D_spent : Def K mg "spent" (topS 39) ["items", "rounds"] := ⟨_, _, F39, b39, m39⟩
  have D_added_up : Def K mg "added_up" (topS 40) ["program", "pairs"] := ⟨_, _, F40, b40, m40⟩
  have D_is_even : Def K mg "is_even" (topS 43) ["program", "modulus"] := ⟨_, _, F43, b43, m43⟩
  have D_uneven_pair : Def K mg "uneven_pair" (topS 44) ["program", "modulus"] := ⟨_, _, F44, b44, m44⟩
  have D_class_counts : Def K mg "class_counts" (topS 45) ["program", "modulus"] := ⟨_, _, F45, b45, m45⟩
  have D_line_columns : Def K mg "line_columns" (topS 46) ["items", "starts"] := ⟨_, _, F46, b46, m46⟩
  have D_moved : Def K mg "moved" (topS 47) ["starts", "ticks"] := ⟨_, _, F47, b47, m47⟩
  have D_repeated : Def K mg "repeated" (topS 48) ["starts", "step", "times"] := ⟨_, _, F48, b48, m48⟩
  have D_window_sums : Def K mg "window_sums" (topS 49) ["ring", "times"] := ⟨_, _, F49, b49, m49⟩
  have D_looks : Def K mg "looks" (topS 51) ["program", "period", "start"] := ⟨_, _, F51, b51, m51⟩
  have D_items_from : Def K mg "items_from" (topS 54) ["items", "start"] := ⟨_, _, F54, b54, m54⟩
  have D_item_from : Def K mg "item_from" (topS 55) ["item", "start"] := ⟨_, _, F55, b55, m55⟩
  have D_is_safe : Def K mg "is_safe" (topS 58) ["program", "period"] := ⟨_, _, F58, b58, m58⟩
  have D_shared_divisor : Def K mg "shared_divisor" (topS 63) ["program", "period"] := ⟨_, _, F63, b63, m63⟩
  have D_check_index : Def K mg "check_index" (topS 69) ["value", "least", "most"] := ⟨_, _, F69, b69, m69⟩
  have D_padded : Def K mg "padded" (topS 75) ["program", "ticks"] := ⟨_, _, F75, b75, m75⟩
  have D_least_padding : Def K mg "least_padding" (topS 76) ["program", "period"] := ⟨_, _, F76, b76, m76⟩
  have D_show_program : Def K mg "show_program" (topS 78) ["program"] := ⟨_, _, F78, b78, m78⟩
  have D_read_program : Def K mg "read_program" (topS 79) ["text"] := ⟨_, _, F79, b79, m79⟩
  have D_item_text : Def K mg "item_text" (topS 80) ["item"] := ⟨_, _, F80, b80, m80⟩
  have D_read_items : Def K mg "read_items" (topS 81) ["text", "at", "depth", "room"] := ⟨_, _, F81, b81, m81⟩
  have D_read_item : Def K mg "read_item" (topS 82) ["text", "at", "depth", "room"] := ⟨_, _, F82, b82, m82⟩
  have D_read_name : Def K mg "read_name" (topS 83) ["text", "at"] := ⟨_, _, F83, b83, m83⟩
  have D_read_number : Def K mg "read_number" (topS 84) ["text", "at", "most"] := ⟨_, _, F84, b84, m84⟩
  have D_is_letter : Def K mg "is_letter" (topS 85) ["text"] := ⟨_, _, F85, b85, m85⟩
  have D_behind : Def K mg "behind" (topS 86) ["text", "at", "signs"] := ⟨_, _, F86, b86, m86⟩
  have D_tell_program : Def K mg "tell_program" (topS 95) ["bench"] := ⟨_, _, F95, b95, m95⟩
  have D_tell_length : Def K mg "tell_length" (topS 96) ["bench"] := ⟨_, _, F96, b96, m96⟩
  have D_parts_of : Def K mg "parts_of" (topS 112) ["line"] := ⟨_, _, F112, b112, m112⟩
  have D_argument_of : Def K mg "argument_of" (topS 113) ["kind", "text"] := ⟨_, _, F113, b113, m113⟩
  have D__law_stream : Def K mg "_law_stream" (topS 117) ["_law_script", "_law_k"] := ⟨_, _, F117, b117, m117⟩
  have D__law_draw : Def K mg "_law_draw" (topS 118) ["_law_stream_here", "_law_many"] := ⟨_, _, F118, b118, m118⟩
  have Flaw := F119
  have toC : ∀ {k : Nat} {x : Str} {ps : List Str} {sp : Sp}, CalN CX0 P w K mg base k x ps sp → Cal P w K mg base k x ps sp := fun C => by
    obtain ⟨f, fd, F, b, m, v⟩ := C.ex
    exact .of F b m v
  have GS := fun dep => ok_spent (P := P) (w := w) (base := base) (B := 70) F39 b39 m39 dep
  have hB : Room2 70 6 := ⟨by decide, by decide⟩
  have GLe := fun dep (h : dep ≤ 6) => ok_len (room_dn hB h) F32 (GS dep) b39 m39 v39 n_sum
  have CLe : ∀ dep, dep ≤ 6 → Cal P w K mg base (dep + 2) "length_programs" ["program"] (spLen K 70 dep) := fun dep h => .of (GLe dep h) b32 m_length_programs v32
  have NLe : ∀ dep, dep ≤ 6 → CalN CX0 P w K mg base (dep + 2) "length_programs" ["program"] (spLen K 70 dep) := fun dep h => .of0 (GLe dep h) b32 m_length_programs v32
  have GLi := fun dep (h : dep ≤ 6) => ok_lines (room_dn hB h) F34 (GS dep) b39 m39 v39 n_tuple n_sorted
  have GLiG := fun dep (h : dep ≤ 6) => ok_linesG (room_dn hB h) F34 (GS dep) b39 m39 v39 n_tuple n_sorted
  have NLi5 : CalN CX0 P w K mg base 7 "lines_of" ["program"] (spLines K 70 5) := .of0 (GLi 5 (by decide)) b34 m34 v34
  have NLiG : ∀ dep, dep ≤ 6 → CalN CX0 P w K mg base (dep + 2) "lines_of" ["program"] (spLinesG K 70 dep) := fun dep h => .of0 (GLiG dep h) b34 m34 v34
  have NAu : ∀ dep, dep ≤ 6 → CalN CX0 P w K mg base (dep + 3) "added_up" ["program", "pairs"] (spAdd K 70 dep) := fun dep h => .of0 (ok_added F40 (GLi dep h) b34 m34 v34 n_tuple) b40 m40 v40
  have NGc := ok_gcd (P := P) (w := w) (base := base) D_common_divisor nb
  have NMv := ok_mov (P := P) (w := w) (base := base) D_moved nb
  have NWn := ok_win (P := P) (w := w) (base := base) D_window_sums nb
  have NRp := ok_rep D_repeated NGc NWn nb
  have NCo := fun dep (h : dep ≤ 6) => ok_cols 6 D_line_columns NRp NLe NMv nb hB dep h
  have NCn := fun dep (h : dep ≤ 6) => ok_ccn D_class_counts (NLiG dep h) (NCo dep h) nb ⟨by omega, by decide, by decide⟩
  have NCc := ok_cc D_class_counts (NLiG 5 (by decide)) (NCo 5 (by decide)) nb ⟨by decide, by decide, by decide⟩
  have NIf := ok_ifm 6 (by decide) D_item_from D_items_from NLe nb
  have NLk := ok_lk (by decide) D_looks (NIf 5 (by decide)) (NCn 5 (by decide)) (NAu 5 (by decide)) nb
  have NUp := ok_up D_uneven_pair NLi5 NCc nb
  have NEv := ok_ev D_is_even NUp
  have NSd := ok_sd D_shared_divisor (NLe 5 (by decide)) NGc k_GREATEST_DIVISOR
  have NSf := ok_isf D_is_safe NSd NEv
  have BPd := ok_padded (P := P) (w := w) (base := base) D_padded nb
  have RPd := BPd.kw (fun _ _ _ _ _ _ us hl => match us, hl with | [_, _], _ => rfl)
  have BLp := ok_lp (by decide) D_least_padding (CLe 5 (by decide)) BPd.cal (toC NGc) (toC NEv)
  have RLp := BLp.kw (fun _ _ _ _ _ _ us hl => match us, hl with | [_, _], _ => rfl)
  have NDe := ok_dec (P := P) (w := w) (base := base) D_decimal k_PIECE nb
  have BSh := shw_stepB D_show_program (itx_step (k := 11) D_item_text NDe (ok_shwd D_item_text D_show_program NDe nb 4) (by omega) nb (.inr ⟨4, rfl, rfl⟩)) nb
  have RSh := BSh.kw (fun _ _ _ _ _ _ us hl => match us, hl with | [_], _ => rfl)
  have XIl := ok_il (P := P) (w := w) (base := base) D_is_letter nb
  have XRn := ok_rn D_read_name XIl k_MOST_LETTERS nb
  have XBh := ok_bh D_behind (R_BadText base) nb
  have XRm := ok_rm (K := K) D_read_number (R_BadText base) nb
  have XRis := ok_ris D_read_item D_read_items XIl XRn XBh XRm (R_BadText base) k_MOST_TICKS k_MOST_ROUNDS k_MOST_BESIDE nb
  have XRp := ok_rpB D_read_program (XRis 5) (R_BadText base) k_MOST_DEEP k_MOST_ITEMS nb
  have BRp := rp_T XRp
  have RRp := BRp.kw (fun _ _ _ _ _ _ us hl => match us, hl with | [_], _ => rfl)
  have GWh := ok_wh (P := P) (w := w) (base := base) F15 n_isinstance n_int n_bool
  have GIn := ok_in F16 GWh b15 m15 v15
  have GNm := ok_name (P := P) (w := w) (base := base) F31 n_isinstance n_str n_len n_all k_MOST_LETTERS
  have GRI := ok_ri F29 F30 GNm b31 m31 v31 GIn b16 m16 v16 b29 m29 b30 m30 n_isinstance n_tuple n_len k_MOST_TICKS k_MOST_ROUNDS k_MOST_BESIDE 5
  have GP := ok_prog F28 GRI b29 m29 v29 k_MOST_DEEP k_MOST_ITEMS
  have T : BTx K mg C68 := ⟨cl68, no68_current, no68_earlier⟩
  have GC := ok_ci F69 GIn b16 m16 v16
  have GI := ok_bI (P := P) (w := w) (base := base) T F68_0 GP b28 m28 v28
  have KB : KCal P w K mg base 16 C68 "Bench" ["self", "program"] (spBI K C68) := ⟨_, _, GI, b68_0, ⟨mk68, A68_0, i68_0, kc68⟩, mC68⟩
  have KRB : KCalR P w K mg base 16 C68 "Bench" ["program"] (spBI K C68) := .of F68_0 GI ⟨mk68, A68_0, i68_0, kc68⟩ mC68 (fun _ _ _ _ _ _ _ us hl => match us, hl with | [_], _ => rfl)
  have MP := ok_bP (P := P) (w := w) (base := base) T D_Bench_program
  have MC := ok_bC (P := P) (w := w) (base := base) T D_Bench_change
  have MU := ok_bU T MC GP b28 m28 v28 D_Bench_put
  have MD := ok_bD T nb MC GC b69 m69 v69 D_Bench_delete
  have MW := ok_bW T nb MU GC b69 m69 v69 D_Bench_wrap
  obtain ⟨fSf, fdSf, FSf, bSf, mSf, vSf⟩ := NSf.ex
  have MS := ok_bS T FSf bSf mSf vSf D_Bench_safe
  obtain ⟨fLk, fdLk, FLk, bLk, mLk, vLk⟩ := NLk.ex
  have eLk := Value.ref.inj (Option.some.inj (mLk.symm.trans m51))
  have ML := ok_bLk T FLk bLk (by rw [eLk]; exact m_looks_looks) vLk D_Bench_looks
  have GS64 := ok_spent (P := P) (w := w) (base := base) (B := 64) F39 b39 m39 5
  have GLe64 := ok_len (⟨by decide, by decide⟩ : Room2 64 5) F32 GS64 b39 m39 v39 n_sum
  have MLe := ok_bL T GLe64 b32 m_length_programs v32 D_Bench_length
  obtain ⟨esF, nF, KDF⟩ := He.dicW_ok HdF
  obtain ⟨esA, nA, KDA⟩ := He.dicW_ok HdA
  have TD : DTx K C109 := ⟨cl109, no109_bench⟩
  have NPo := ok_po (P := P) (w := w) (base := base) D_parts_of KDF (PySem.W.mg_of X G gF) (no_calO D_argument_of) nb
  have NTp := ok_tp T D_tell_program MP BSh.cal (by decide) nb
  have NTl := ok_tle T D_tell_length MLe nb
  have MR := ok_dr (k := 14) TD D_Desk_run KDA (PySem.W.mg_of X G gA) NPo nb (by decide)
  have GD := ok_dsk (kR := 0) TD F109_0 KB BRp.cal
  have KRD : KCalR P w K mg base 18 C109 "Desk" ["text"] (spDI K C68 C109) := .of F109_0 GD ⟨mk109, A109_0, i109_0, kc109⟩ mC109 (fun _ _ _ _ _ _ _ us hl => match us, hl with | [_], _ => rfl)
  have C1 := ok_stream (P := P) (w := w) (base := base) D__law_stream nb
  have C2 := ok_draw (P := P) (w := w) (base := base) D__law_draw nb
  have FS : ∃ t, Fo0 K w dF "show" t := ⟨_, fo_of KDF vFS oFS (by decide +kernel) (by decide +kernel)⟩
  have FL : ∃ t, Fo0 K w dF "length" t := ⟨_, fo_of KDF vFL oFL (by decide +kernel) (by decide +kernel)⟩
  have AS : ∃ f, KDct K w dA "show" (.ref f) ∧ StarF P w K mg base 14 f (spTp K C68) := ⟨_, ⟨esA, nA, _, KDA.at_, KDA.lit, vAS, rfl⟩, NTp.star (by decide) m95⟩
  have AL : ∃ f, KDct K w dA "length" (.ref f) ∧ StarF P w K mg base 14 f (spTl K C68) := ⟨_, ⟨esA, nA, _, KDA.at_, KDA.lit, vAL, rfl⟩, NTl.star (by decide) m96⟩
  exact ok_law T TD hm Flaw C1 C2 BPd.cal RPd BLp.cal RLp (toC BSh.cal) RSh RRp KRB KRD MP (MW.kw (fun _ _ _ _ _ _ _ us hl => match us, hl with | [_, _, _], _ => rfl)) (MS.up (by decide)).cal ((MS.up (by decide)).kw (fun _ _ _ _ _ _ _ us hl => match us, hl with | [_], _ => rfl)) (ML.up (by decide)).cal ((ML.up (by decide)).kw (fun _ _ _ _ _ _ _ us hl => match us, hl with | [_, _], _ => rfl)) (MD.kw (fun _ _ _ _ _ _ _ us hl => match us, hl with | [_], _ => rfl)) (MR.kw (fun _ _ _ _ _ _ _ us hl => match us, hl with | [_], _ => rfl)) (by decide) FS FL AS AL nb
end Ev

namespace EvH
open PySem PySem.Spec PyProof.Rows L2 Ev
open PySem.W (typeIn keepIn codeIn nsIn findIn subIn specialIn takesIn mroIn clsIn hasDictIn readsIn findCls Frag)
set_option maxRecDepth 100000
set_option maxHeartbeats 0
abbrev R : PySem.W.OpenRow := PySem.W.OpenLaw.row PySem.Challenge.rw_evensamples_k62_arguments_by_name
abbrev qv : Program := PySem.W.view R.prog [119]
def names_0 : List Str := [
  "_wall",
  "SampleError",
  "BadProgram",
  "NoLine",
  "TooLong",
  "TooLarge",
  "BadIndex",
  "BadItem",
  "LastItem",
  "NothingToUndo",
  "BadText",
  "BadCommand",
  "PIECE",
  "is_whole",
  "is_integer_within",
  "common_divisor",
  "reduced",
  "decimal",
  "MOST_LETTERS",
  "MOST_TICKS",
  "MOST_ROUNDS",
  "MOST_BESIDE",
  "MOST_ITEMS",
  "MOST_DEEP",
  "LONGEST",
  "is_program",
  "room_behind_items",
  "room_behind",
  "is_name",
  "length"]
def names_1 : List Str := [
  "length_programs",
  "lines_of",
  "totals",
  "totals_programs",
  "check_line",
  "check_length",
  "spent",
  "added_up",
  "ticks_of",
  "is_even",
  "uneven_pair",
  "class_counts",
  "line_columns",
  "moved",
  "repeated",
  "window_sums",
  "looks",
  "looks_looks",
  "seen",
  "items_from",
  "item_from",
  "GREATEST_DIVISOR",
  "is_safe",
  "blockers",
  "next_safe",
  "count_safe",
  "density",
  "shared_divisor",
  "divisors",
  "none_divides"]
def names_2 : List Str := [
  "first_safe",
  "Bench",
  "check_index",
  "share",
  "most_biased",
  "seen_column",
  "padded",
  "least_padding",
  "show_program",
  "read_program",
  "item_text",
  "read_items",
  "read_item",
  "read_name",
  "read_number",
  "is_letter",
  "behind",
  "MOST_DIGITS",
  "FORMS",
  "BOUNDS",
  "insert_item",
  "replace_item",
  "delete_item",
  "undo_change",
  "tell_program",
  "tell_length",
  "tell_totals",
  "tell_looks",
  "tell_seen",
  "tell_safe"]
def names_3 : List Str := [
  "tell_blockers",
  "tell_next",
  "tell_count",
  "tell_density",
  "tell_share",
  "tell_bias",
  "tell_padding",
  "ACTIONS",
  "Desk",
  "counts_text",
  "fraction_text",
  "parts_of",
  "argument_of",
  "item_of",
  "number_of",
  "_law_stream",
  "_law_draw"]
def names : List Str := names_0 ++ names_1 ++ names_2 ++ names_3
def fn_0 : List He.DefD := [
  ⟨("is_whole", none), "is_whole", "is_whole", defArgs (topS 15), defBody (topS 15), defScope (topS 15), [], []⟩,
  ⟨("is_integer_within", none), "is_integer_within", "is_integer_within", defArgs (topS 16), defBody (topS 16), defScope (topS 16), [], []⟩,
  ⟨("common_divisor", none), "common_divisor", "common_divisor", defArgs (topS 17), defBody (topS 17), defScope (topS 17), [], []⟩,
  ⟨("decimal", none), "decimal", "decimal", defArgs (topS 19), defBody (topS 19), defScope (topS 19), [], []⟩,
  ⟨("is_program", none), "is_program", "is_program", defArgs (topS 28), defBody (topS 28), defScope (topS 28), [], []⟩,
  ⟨("room_behind_items", none), "room_behind_items", "room_behind_items", defArgs (topS 29), defBody (topS 29), defScope (topS 29), [], []⟩,
  ⟨("room_behind", none), "room_behind", "room_behind", defArgs (topS 30), defBody (topS 30), defScope (topS 30), [], []⟩,
  ⟨("is_name", none), "is_name", "is_name", defArgs (topS 31), defBody (topS 31), defScope (topS 31), [], []⟩,
  ⟨("length", none), "length", "length", defArgs (topS 32), defBody (topS 32), defScope (topS 32), [], []⟩,
  ⟨("lines_of", none), "lines_of", "lines_of", defArgs (topS 34), defBody (topS 34), defScope (topS 34), [], []⟩,
  ⟨("spent", none), "spent", "spent", defArgs (topS 39), defBody (topS 39), defScope (topS 39), [], []⟩,
  ⟨("added_up", none), "added_up", "added_up", defArgs (topS 40), defBody (topS 40), defScope (topS 40), [], []⟩,
  ⟨("is_even", none), "is_even", "is_even", defArgs (topS 43), defBody (topS 43), defScope (topS 43), [], []⟩,
  ⟨("uneven_pair", none), "uneven_pair", "uneven_pair", defArgs (topS 44), defBody (topS 44), defScope (topS 44), [], []⟩,
  ⟨("class_counts", none), "class_counts", "class_counts", defArgs (topS 45), defBody (topS 45), defScope (topS 45), [], []⟩,
  ⟨("line_columns", none), "line_columns", "line_columns", defArgs (topS 46), defBody (topS 46), defScope (topS 46), [], []⟩,
  ⟨("moved", none), "moved", "moved", defArgs (topS 47), defBody (topS 47), defScope (topS 47), [], []⟩,
  ⟨("repeated", none), "repeated", "repeated", defArgs (topS 48), defBody (topS 48), defScope (topS 48), [], []⟩,
  ⟨("window_sums", none), "window_sums", "window_sums", defArgs (topS 49), defBody (topS 49), defScope (topS 49), [], []⟩,
  ⟨("looks", none), "looks", "looks", defArgs (topS 51), defBody (topS 51), defScope (topS 51), [], []⟩,
  ⟨("items_from", none), "items_from", "items_from", defArgs (topS 54), defBody (topS 54), defScope (topS 54), [], []⟩,
  ⟨("item_from", none), "item_from", "item_from", defArgs (topS 55), defBody (topS 55), defScope (topS 55), [], []⟩,
  ⟨("is_safe", none), "is_safe", "is_safe", defArgs (topS 58), defBody (topS 58), defScope (topS 58), [], []⟩,
  ⟨("shared_divisor", none), "shared_divisor", "shared_divisor", defArgs (topS 63), defBody (topS 63), defScope (topS 63), [], []⟩,
  ⟨("check_index", none), "check_index", "check_index", defArgs (topS 69), defBody (topS 69), defScope (topS 69), [], []⟩,
  ⟨("padded", none), "padded", "padded", defArgs (topS 75), defBody (topS 75), defScope (topS 75), [], []⟩,
  ⟨("least_padding", none), "least_padding", "least_padding", defArgs (topS 76), defBody (topS 76), defScope (topS 76), [], []⟩,
  ⟨("show_program", none), "show_program", "show_program", defArgs (topS 78), defBody (topS 78), defScope (topS 78), [], []⟩,
  ⟨("read_program", none), "read_program", "read_program", defArgs (topS 79), defBody (topS 79), defScope (topS 79), [], []⟩,
  ⟨("item_text", none), "item_text", "item_text", defArgs (topS 80), defBody (topS 80), defScope (topS 80), [], []⟩]
def fn_1 : List He.DefD := [
  ⟨("read_items", none), "read_items", "read_items", defArgs (topS 81), defBody (topS 81), defScope (topS 81), [], []⟩,
  ⟨("read_item", none), "read_item", "read_item", defArgs (topS 82), defBody (topS 82), defScope (topS 82), [], []⟩,
  ⟨("read_name", none), "read_name", "read_name", defArgs (topS 83), defBody (topS 83), defScope (topS 83), [], []⟩,
  ⟨("read_number", none), "read_number", "read_number", defArgs (topS 84), defBody (topS 84), defScope (topS 84), [], []⟩,
  ⟨("is_letter", none), "is_letter", "is_letter", defArgs (topS 85), defBody (topS 85), defScope (topS 85), [], []⟩,
  ⟨("behind", none), "behind", "behind", defArgs (topS 86), defBody (topS 86), defScope (topS 86), [], []⟩,
  ⟨("tell_program", none), "tell_program", "tell_program", defArgs (topS 95), defBody (topS 95), defScope (topS 95), [], []⟩,
  ⟨("tell_length", none), "tell_length", "tell_length", defArgs (topS 96), defBody (topS 96), defScope (topS 96), [], []⟩,
  ⟨("parts_of", none), "parts_of", "parts_of", defArgs (topS 112), defBody (topS 112), defScope (topS 112), [], []⟩,
  ⟨("argument_of", none), "argument_of", "argument_of", defArgs (topS 113), defBody (topS 113), defScope (topS 113), [], []⟩,
  ⟨("_law_stream", none), "_law_stream", "_law_stream", defArgs (topS 117), defBody (topS 117), defScope (topS 117), [], []⟩,
  ⟨("_law_draw", none), "_law_draw", "_law_draw", defArgs (topS 118), defBody (topS 118), defScope (topS 118), [], []⟩,
  ⟨("law", none), "law", "law", defArgs (topS 119), defBody (topS 119), defScope (topS 119), [], []⟩,
  ⟨("Bench", some "__init__"), "__init__", "Bench.__init__", defArgs (inClass (topS 68) 0), defBody (inClass (topS 68) 0), defScope (inClass (topS 68) 0), [], []⟩,
  ⟨("Bench", some "program"), "program", "Bench.program", defArgs (inClass (topS 68) 2), defBody (inClass (topS 68) 2), defScope (inClass (topS 68) 2), [], []⟩,
  ⟨("Bench", some "length"), "length", "Bench.length", defArgs (inClass (topS 68) 3), defBody (inClass (topS 68) 3), defScope (inClass (topS 68) 3), [], []⟩,
  ⟨("Bench", some "delete"), "delete", "Bench.delete", defArgs (inClass (topS 68) 7), defBody (inClass (topS 68) 7), defScope (inClass (topS 68) 7), [], []⟩,
  ⟨("Bench", some "wrap"), "wrap", "Bench.wrap", defArgs (inClass (topS 68) 8), defBody (inClass (topS 68) 8), defScope (inClass (topS 68) 8), [], []⟩,
  ⟨("Bench", some "safe"), "safe", "Bench.safe", defArgs (inClass (topS 68) 11), defBody (inClass (topS 68) 11), defScope (inClass (topS 68) 11), [], []⟩,
  ⟨("Bench", some "looks"), "looks", "Bench.looks", defArgs (inClass (topS 68) 12), defBody (inClass (topS 68) 12), defScope (inClass (topS 68) 12), [], []⟩,
  ⟨("Bench", some "put"), "put", "Bench.put", defArgs (inClass (topS 68) 14), defBody (inClass (topS 68) 14), defScope (inClass (topS 68) 14), [], []⟩,
  ⟨("Bench", some "change"), "change", "Bench.change", defArgs (inClass (topS 68) 15), defBody (inClass (topS 68) 15), defScope (inClass (topS 68) 15), [], []⟩,
  ⟨("Desk", some "__init__"), "__init__", "Desk.__init__", defArgs (inClass (topS 109) 0), defBody (inClass (topS 109) 0), defScope (inClass (topS 109) 0), [], []⟩,
  ⟨("Desk", some "run"), "run", "Desk.run", defArgs (inClass (topS 109) 1), defBody (inClass (topS 109) 1), defScope (inClass (topS 109) 1), [], []⟩,
  ⟨("BadText", some "__init__"), "__init__", "BadText.__init__", defArgs (inClass (topS 11) 0), defBody (inClass (topS 11) 0), defScope (inClass (topS 11) 0), [], []⟩]
def fn : List He.DefD := fn_0 ++ fn_1
def ts_0 : List He.Tab := [
  (fun K => He.ga K "FORMS", ["insert", "replace", "delete", "undo", "show", "length", "totals", "looks", "seen", "safe", "blockers", "next", "count", "density", "share", "bias", "pad"]),
  (fun K => He.ga K "ACTIONS", ["insert", "replace", "delete", "undo", "show", "length", "totals", "looks", "seen", "safe", "blockers", "next", "count", "density", "share", "bias", "pad"])]
def ts : List He.Tab := ts_0
def tf : List He.Defn := []
def exs_0 : List (Frag → Bool) := [
  fun K => (nsIn K mainGlobals "is_whole") == (some (some (.ref (He.ga K "is_whole")))),
  fun K => (PySem.W.typeIn K (.ref (He.ga K "is_whole"))) == (some (.type "function")),
  fun K => (nsIn K mainGlobals "is_integer_within") == (some (some (.ref (He.ga K "is_integer_within")))),
  fun K => (PySem.W.typeIn K (.ref (He.ga K "is_integer_within"))) == (some (.type "function")),
  fun K => (nsIn K mainGlobals "common_divisor") == (some (some (.ref (He.ga K "common_divisor")))),
  fun K => (PySem.W.typeIn K (.ref (He.ga K "common_divisor"))) == (some (.type "function")),
  fun K => (nsIn K mainGlobals "decimal") == (some (some (.ref (He.ga K "decimal")))),
  fun K => (PySem.W.typeIn K (.ref (He.ga K "decimal"))) == (some (.type "function")),
  fun K => (nsIn K mainGlobals "is_program") == (some (some (.ref (He.ga K "is_program")))),
  fun K => (PySem.W.typeIn K (.ref (He.ga K "is_program"))) == (some (.type "function")),
  fun K => (nsIn K mainGlobals "room_behind_items") == (some (some (.ref (He.ga K "room_behind_items")))),
  fun K => (PySem.W.typeIn K (.ref (He.ga K "room_behind_items"))) == (some (.type "function")),
  fun K => (nsIn K mainGlobals "room_behind") == (some (some (.ref (He.ga K "room_behind")))),
  fun K => (PySem.W.typeIn K (.ref (He.ga K "room_behind"))) == (some (.type "function")),
  fun K => (nsIn K mainGlobals "is_name") == (some (some (.ref (He.ga K "is_name")))),
  fun K => (PySem.W.typeIn K (.ref (He.ga K "is_name"))) == (some (.type "function")),
  fun K => (nsIn K mainGlobals "length") == (some (some (.ref (He.ga K "length")))),
  fun K => (PySem.W.typeIn K (.ref (He.ga K "length"))) == (some (.type "function")),
  fun K => (nsIn K mainGlobals "lines_of") == (some (some (.ref (He.ga K "lines_of")))),
  fun K => (PySem.W.typeIn K (.ref (He.ga K "lines_of"))) == (some (.type "function")),
  fun K => (nsIn K mainGlobals "spent") == (some (some (.ref (He.ga K "spent")))),
  fun K => (PySem.W.typeIn K (.ref (He.ga K "spent"))) == (some (.type "function")),
  fun K => (nsIn K mainGlobals "added_up") == (some (some (.ref (He.ga K "added_up")))),
  fun K => (PySem.W.typeIn K (.ref (He.ga K "added_up"))) == (some (.type "function")),
  fun K => (nsIn K mainGlobals "is_even") == (some (some (.ref (He.ga K "is_even")))),
  fun K => (PySem.W.typeIn K (.ref (He.ga K "is_even"))) == (some (.type "function")),
  fun K => (nsIn K mainGlobals "uneven_pair") == (some (some (.ref (He.ga K "uneven_pair")))),
  fun K => (PySem.W.typeIn K (.ref (He.ga K "uneven_pair"))) == (some (.type "function")),
  fun K => (nsIn K mainGlobals "class_counts") == (some (some (.ref (He.ga K "class_counts")))),
  fun K => (PySem.W.typeIn K (.ref (He.ga K "class_counts"))) == (some (.type "function"))]
def exs_1 : List (Frag → Bool) := [
  fun K => (nsIn K mainGlobals "line_columns") == (some (some (.ref (He.ga K "line_columns")))),
  fun K => (PySem.W.typeIn K (.ref (He.ga K "line_columns"))) == (some (.type "function")),
  fun K => (nsIn K mainGlobals "moved") == (some (some (.ref (He.ga K "moved")))),
  fun K => (PySem.W.typeIn K (.ref (He.ga K "moved"))) == (some (.type "function")),
  fun K => (nsIn K mainGlobals "repeated") == (some (some (.ref (He.ga K "repeated")))),
  fun K => (PySem.W.typeIn K (.ref (He.ga K "repeated"))) == (some (.type "function")),
  fun K => (nsIn K mainGlobals "window_sums") == (some (some (.ref (He.ga K "window_sums")))),
  fun K => (PySem.W.typeIn K (.ref (He.ga K "window_sums"))) == (some (.type "function")),
  fun K => (nsIn K mainGlobals "looks") == (some (some (.ref (He.ga K "looks")))),
  fun K => (PySem.W.typeIn K (.ref (He.ga K "looks"))) == (some (.type "function")),
  fun K => (nsIn K mainGlobals "items_from") == (some (some (.ref (He.ga K "items_from")))),
  fun K => (PySem.W.typeIn K (.ref (He.ga K "items_from"))) == (some (.type "function")),
  fun K => (nsIn K mainGlobals "item_from") == (some (some (.ref (He.ga K "item_from")))),
  fun K => (PySem.W.typeIn K (.ref (He.ga K "item_from"))) == (some (.type "function")),
  fun K => (nsIn K mainGlobals "is_safe") == (some (some (.ref (He.ga K "is_safe")))),
  fun K => (PySem.W.typeIn K (.ref (He.ga K "is_safe"))) == (some (.type "function")),
  fun K => (nsIn K mainGlobals "shared_divisor") == (some (some (.ref (He.ga K "shared_divisor")))),
  fun K => (PySem.W.typeIn K (.ref (He.ga K "shared_divisor"))) == (some (.type "function")),
  fun K => (nsIn K mainGlobals "check_index") == (some (some (.ref (He.ga K "check_index")))),
  fun K => (PySem.W.typeIn K (.ref (He.ga K "check_index"))) == (some (.type "function")),
  fun K => (nsIn K mainGlobals "padded") == (some (some (.ref (He.ga K "padded")))),
  fun K => (PySem.W.typeIn K (.ref (He.ga K "padded"))) == (some (.type "function")),
  fun K => (nsIn K mainGlobals "least_padding") == (some (some (.ref (He.ga K "least_padding")))),
  fun K => (PySem.W.typeIn K (.ref (He.ga K "least_padding"))) == (some (.type "function")),
  fun K => (nsIn K mainGlobals "show_program") == (some (some (.ref (He.ga K "show_program")))),
  fun K => (PySem.W.typeIn K (.ref (He.ga K "show_program"))) == (some (.type "function")),
  fun K => (nsIn K mainGlobals "read_program") == (some (some (.ref (He.ga K "read_program")))),
  fun K => (PySem.W.typeIn K (.ref (He.ga K "read_program"))) == (some (.type "function")),
  fun K => (nsIn K mainGlobals "item_text") == (some (some (.ref (He.ga K "item_text")))),
  fun K => (PySem.W.typeIn K (.ref (He.ga K "item_text"))) == (some (.type "function"))]
def exs_2 : List (Frag → Bool) := [
  fun K => (nsIn K mainGlobals "read_items") == (some (some (.ref (He.ga K "read_items")))),
  fun K => (PySem.W.typeIn K (.ref (He.ga K "read_items"))) == (some (.type "function")),
  fun K => (nsIn K mainGlobals "read_item") == (some (some (.ref (He.ga K "read_item")))),
  fun K => (PySem.W.typeIn K (.ref (He.ga K "read_item"))) == (some (.type "function")),
  fun K => (nsIn K mainGlobals "read_name") == (some (some (.ref (He.ga K "read_name")))),
  fun K => (PySem.W.typeIn K (.ref (He.ga K "read_name"))) == (some (.type "function")),
  fun K => (nsIn K mainGlobals "read_number") == (some (some (.ref (He.ga K "read_number")))),
  fun K => (PySem.W.typeIn K (.ref (He.ga K "read_number"))) == (some (.type "function")),
  fun K => (nsIn K mainGlobals "is_letter") == (some (some (.ref (He.ga K "is_letter")))),
  fun K => (PySem.W.typeIn K (.ref (He.ga K "is_letter"))) == (some (.type "function")),
  fun K => (nsIn K mainGlobals "behind") == (some (some (.ref (He.ga K "behind")))),
  fun K => (PySem.W.typeIn K (.ref (He.ga K "behind"))) == (some (.type "function")),
  fun K => (nsIn K mainGlobals "tell_program") == (some (some (.ref (He.ga K "tell_program")))),
  fun K => (PySem.W.typeIn K (.ref (He.ga K "tell_program"))) == (some (.type "function")),
  fun K => (nsIn K mainGlobals "tell_length") == (some (some (.ref (He.ga K "tell_length")))),
  fun K => (PySem.W.typeIn K (.ref (He.ga K "tell_length"))) == (some (.type "function")),
  fun K => (nsIn K mainGlobals "parts_of") == (some (some (.ref (He.ga K "parts_of")))),
  fun K => (PySem.W.typeIn K (.ref (He.ga K "parts_of"))) == (some (.type "function")),
  fun K => (nsIn K mainGlobals "argument_of") == (some (some (.ref (He.ga K "argument_of")))),
  fun K => (PySem.W.typeIn K (.ref (He.ga K "argument_of"))) == (some (.type "function")),
  fun K => (nsIn K mainGlobals "_law_stream") == (some (some (.ref (He.ga K "_law_stream")))),
  fun K => (PySem.W.typeIn K (.ref (He.ga K "_law_stream"))) == (some (.type "function")),
  fun K => (nsIn K mainGlobals "_law_draw") == (some (some (.ref (He.ga K "_law_draw")))),
  fun K => (PySem.W.typeIn K (.ref (He.ga K "_law_draw"))) == (some (.type "function")),
  fun K => (nsIn K mainGlobals "law") == (some (some (.ref (He.ga K "law")))),
  fun K => (PySem.W.typeIn K (.ref (He.ga K "law"))) == (some (.type "function")),
  fun K => (PySem.W.findIn K (.ref (He.ga K "Bench")) "__init__") == (some (some (.ref (He.ma K (He.ga K "Bench") "__init__")))),
  fun K => PySem.W.isFn K (.ref (He.ma K (He.ga K "Bench") "__init__")),
  fun K => (PySem.W.findIn K (.ref (He.ga K "Bench")) "program") == (some (some (.ref (He.ma K (He.ga K "Bench") "program")))),
  fun K => PySem.W.isFn K (.ref (He.ma K (He.ga K "Bench") "program"))]
def exs_3 : List (Frag → Bool) := [
  fun K => (PySem.W.findIn K (.ref (He.ga K "Bench")) "length") == (some (some (.ref (He.ma K (He.ga K "Bench") "length")))),
  fun K => PySem.W.isFn K (.ref (He.ma K (He.ga K "Bench") "length")),
  fun K => (PySem.W.findIn K (.ref (He.ga K "Bench")) "delete") == (some (some (.ref (He.ma K (He.ga K "Bench") "delete")))),
  fun K => PySem.W.isFn K (.ref (He.ma K (He.ga K "Bench") "delete")),
  fun K => (PySem.W.findIn K (.ref (He.ga K "Bench")) "wrap") == (some (some (.ref (He.ma K (He.ga K "Bench") "wrap")))),
  fun K => PySem.W.isFn K (.ref (He.ma K (He.ga K "Bench") "wrap")),
  fun K => (PySem.W.findIn K (.ref (He.ga K "Bench")) "safe") == (some (some (.ref (He.ma K (He.ga K "Bench") "safe")))),
  fun K => PySem.W.isFn K (.ref (He.ma K (He.ga K "Bench") "safe")),
  fun K => (PySem.W.findIn K (.ref (He.ga K "Bench")) "looks") == (some (some (.ref (He.ma K (He.ga K "Bench") "looks")))),
  fun K => PySem.W.isFn K (.ref (He.ma K (He.ga K "Bench") "looks")),
  fun K => (PySem.W.findIn K (.ref (He.ga K "Bench")) "put") == (some (some (.ref (He.ma K (He.ga K "Bench") "put")))),
  fun K => PySem.W.isFn K (.ref (He.ma K (He.ga K "Bench") "put")),
  fun K => (PySem.W.findIn K (.ref (He.ga K "Bench")) "change") == (some (some (.ref (He.ma K (He.ga K "Bench") "change")))),
  fun K => PySem.W.isFn K (.ref (He.ma K (He.ga K "Bench") "change")),
  fun K => (PySem.W.findIn K (.ref (He.ga K "Desk")) "__init__") == (some (some (.ref (He.ma K (He.ga K "Desk") "__init__")))),
  fun K => PySem.W.isFn K (.ref (He.ma K (He.ga K "Desk") "__init__")),
  fun K => (PySem.W.findIn K (.ref (He.ga K "Desk")) "run") == (some (some (.ref (He.ma K (He.ga K "Desk") "run")))),
  fun K => PySem.W.isFn K (.ref (He.ma K (He.ga K "Desk") "run")),
  fun K => (PySem.W.typeIn K (.ref (He.ma K (He.ga K "BadText") "__init__"))) == (some (.type "function")),
  fun K => intB K "MOST_LETTERS" 8,
  fun K => intB K "MOST_TICKS" 1000000000000,
  fun K => intB K "MOST_ROUNDS" 1000000000000000000,
  fun K => intB K "MOST_BESIDE" 20,
  fun K => intB K "MOST_ITEMS" 60,
  fun K => intB K "MOST_DEEP" 5,
  fun K => intB K "GREATEST_DIVISOR" 2000,
  fun K => intB K "LONGEST" 2000,
  fun K => intB K "PIECE" 10000000000000000000000000000000000000000000000000000000000000000,
  fun K => (nsIn K mainGlobals "length_programs") == (some (some (.ref (He.ga K "length")))),
  fun K => (nsIn K mainGlobals "looks_looks") == (some (some (.ref (He.ga K "looks"))))]
def exs_4 : List (Frag → Bool) := [
  fun K => (nsIn K mainGlobals "Bench") == (some (some (.ref (He.ga K "Bench")))),
  fun K => clsB K (He.ga K "Bench"),
  fun K => (PySem.W.findIn K (.ref (He.ga K "Bench")) "__setattr__") == (some (some (.builtin "object.__setattr__"))),
  fun K => (PySem.W.findIn K (.ref (He.ga K "Bench")) "current") == (some none),
  fun K => (PySem.W.findIn K (.ref (He.ga K "Bench")) "earlier") == (some none),
  fun K => (nsIn K mainGlobals "Desk") == (some (some (.ref (He.ga K "Desk")))),
  fun K => clsB K (He.ga K "Desk"),
  fun K => (PySem.W.findIn K (.ref (He.ga K "Desk")) "__setattr__") == (some (some (.builtin "object.__setattr__"))),
  fun K => (PySem.W.findIn K (.ref (He.ga K "Desk")) "bench") == (some none),
  fun K => (nsIn K mainGlobals "SampleError") == (some (some (.ref (He.ga K "SampleError")))),
  fun K => baseB K (He.ga K "SampleError"),
  fun K => foundB K (.ref (He.ga K "SampleError")) (.type "type") "__init__" (.builtin "ValueError.__init__"),
  fun K => (nsIn K mainGlobals "BadText") == (some (some (.ref (He.ga K "BadText")))),
  fun K => errB K (He.ga K "BadText"),
  fun K => (findIn K (.ref (He.ga K "BadText")) "__init__") == (some (some (.ref (He.ma K (He.ga K "BadText") "__init__")))),
  fun K => (findIn K (.ref (He.ga K "BadText")) "position") == (some none),
  fun K => (nsIn K mainGlobals "ValueError") == (some none),
  fun K => (nsIn K mainGlobals "len") == (some none),
  fun K => (nsIn K mainGlobals "abs") == (some none),
  fun K => (nsIn K mainGlobals "int") == (some none),
  fun K => (nsIn K mainGlobals "bool") == (some none),
  fun K => (nsIn K mainGlobals "isinstance") == (some none),
  fun K => (nsIn K mainGlobals "range") == (some none),
  fun K => (nsIn K mainGlobals "max") == (some none),
  fun K => (nsIn K mainGlobals "min") == (some none),
  fun K => (nsIn K mainGlobals "sum") == (some none),
  fun K => (nsIn K mainGlobals "repr") == (some none),
  fun K => (nsIn K mainGlobals "divmod") == (some none),
  fun K => (nsIn K mainGlobals "tuple") == (some none),
  fun K => (nsIn K mainGlobals "sorted") == (some none)]
def exs_5 : List (Frag → Bool) := [
  fun K => (nsIn K mainGlobals "set") == (some none),
  fun K => (nsIn K mainGlobals "enumerate") == (some none),
  fun K => (nsIn K mainGlobals "zip") == (some none),
  fun K => (nsIn K mainGlobals "list") == (some none),
  fun K => (nsIn K mainGlobals "dict") == (some none),
  fun K => (nsIn K mainGlobals "any") == (some none),
  fun K => (nsIn K mainGlobals "all") == (some none),
  fun K => (nsIn K mainGlobals "str") == (some none),
  fun K => (nsIn K mainGlobals "reversed") == (some none),
  fun K => (nsIn K mainGlobals "FORMS") == (some (some (.ref (He.ga K "FORMS")))),
  fun K => (nsIn K mainGlobals "ACTIONS") == (some (some (.ref (He.ga K "ACTIONS")))),
  fun K => (nsIn K (He.ga K "FORMS") "show") == (some (some (.ref (nsA K (He.ga K "FORMS") "show")))),
  fun K => (nsIn K (He.ga K "FORMS") "length") == (some (some (.ref (nsA K (He.ga K "FORMS") "length")))),
  fun K => noneB K (nsA K (He.ga K "FORMS") "show"),
  fun K => noneB K (nsA K (He.ga K "FORMS") "length"),
  fun K => (nsIn K (He.ga K "ACTIONS") "show") == (some (some (.ref (He.ga K "tell_program")))),
  fun K => (nsIn K (He.ga K "ACTIONS") "length") == (some (some (.ref (He.ga K "tell_length")))),
  fun K => excM K (He.ga K "SampleError") [.type "ValueError", .type "Exception", .type "BaseException", .type "object"],
  fun K => excM K (He.ga K "BadText") [.ref (He.ga K "SampleError"), .type "ValueError", .type "Exception", .type "BaseException", .type "object"]]
def exs : List (Frag → Bool) := exs_0 ++ exs_1 ++ exs_2 ++ exs_3 ++ exs_4 ++ exs_5
def ex (K : Frag) : Bool := exs.all fun e => e K
def as : (Addr → Option Obj) → List Addr := asN ["Bench", "Desk", "SampleError", "BadText"] ["FORMS", "ACTIONS"] fn
abbrev hk : PySem.W.Hook := Ev.hookY as fn ts tf ex
def ob (s : PySem.W.SharedT) : He.AlX := Ev.obsY as fn ts tf ex (HandSHeadRun.getT s)
theorem ob_eq (s : PySem.W.SharedT) : ob s = hk.obs s.abs := Ev.obsY_eq (HandSHeadRun.getT_eq s)
noncomputable abbrev ends (w : World) (os : OsState) := HandSHeadRun.endF (HandSHeadRun.stepQ (HandSHeadRun.denQ HandSHeadRun.tabQ) R.prog w) 20000 R.prog w os
abbrev Seen (w : World) : Prop := ∀ os, ((ends w os).map fun s => (HandSHeadRun.looksF R.prog (PySem.W.boot_heap w.params) s.abs, HandSHeadRun.seenQ qv names (importedModules R.prog.main.body) (fun s => PySem.W.xlAt qv [] s && PySem.W.recOk R.toRowW.records s) s.abs)) = some (true, PySem.W.openGood qv names)
abbrev Held (w : World) : Prop := ∀ os, (ends w os).map ob = some (hk.val w)
theorem seen_f (w : World) : Seen (w.withFollow "special-get-raises" false) := fun os => by kernel_rfl
theorem seen_t (w : World) : Seen (w.withFollow "special-get-raises" true) := fun os => by kernel_rfl
theorem held_f (w : World) : Held (w.withFollow "special-get-raises" false) := fun os => by kernel_rfl
theorem held_t (w : World) : Held (w.withFollow "special-get-raises" true) := fun os => by kernel_rfl
theorem run (w : World) : HandSHeadRun.RunEq R qv hk ob 20000 names w := fun os => two_looks (PySem.W.byRow2 "special-get-raises" (P := Seen) seen_f seen_t w os) (PySem.W.byRow2 "special-get-raises" (P := Held) held_f held_t w os)
theorem told {w : World} {K : Frag} {h : Heap} {mg : Str → Option Value} {fa : Addr} (X : K.In h) (G : h.Ns mainGlobals mg) (hfa : mg "law" = some (.ref fa)) (c : He.SaysX [] fn ts tf ex w h K) :
    ∃ fd : FuncData, (∀ (s : Shared) (u : Value), BindsTo s fd ⟨[u], []⟩ [("_law_script", u)]) ∧
      ∀ base : Heap, K.In base → base.Ns mainGlobals mg → (∃ mm, base.Ns sysModules mm) → FnG (PySem.Challenge.rw_evensamples_k62_arguments_by_name).prog w K mg base CX0 22 fa fd ["_law_script"] (spLaw K) := by
  obtain ⟨oc_15, od_15, an_15, sl_15, kV_15, dc_15, pm_15, cd_15, ct_15, l_15, u_15, v_15⟩ := at_of (c.t.d.def_ 0 rfl)
  obtain ⟨oc_16, od_16, an_16, sl_16, kV_16, dc_16, pm_16, cd_16, ct_16, l_16, u_16, v_16⟩ := at_of (c.t.d.def_ 1 rfl)
  obtain ⟨oc_17, od_17, an_17, sl_17, kV_17, dc_17, pm_17, cd_17, ct_17, l_17, u_17, v_17⟩ := at_of (c.t.d.def_ 2 rfl)
  obtain ⟨oc_19, od_19, an_19, sl_19, kV_19, dc_19, pm_19, cd_19, ct_19, l_19, u_19, v_19⟩ := at_of (c.t.d.def_ 3 rfl)
  obtain ⟨oc_28, od_28, an_28, sl_28, kV_28, dc_28, pm_28, cd_28, ct_28, l_28, u_28, v_28⟩ := at_of (c.t.d.def_ 4 rfl)
  obtain ⟨oc_29, od_29, an_29, sl_29, kV_29, dc_29, pm_29, cd_29, ct_29, l_29, u_29, v_29⟩ := at_of (c.t.d.def_ 5 rfl)
  obtain ⟨oc_30, od_30, an_30, sl_30, kV_30, dc_30, pm_30, cd_30, ct_30, l_30, u_30, v_30⟩ := at_of (c.t.d.def_ 6 rfl)
  obtain ⟨oc_31, od_31, an_31, sl_31, kV_31, dc_31, pm_31, cd_31, ct_31, l_31, u_31, v_31⟩ := at_of (c.t.d.def_ 7 rfl)
  obtain ⟨oc_32, od_32, an_32, sl_32, kV_32, dc_32, pm_32, cd_32, ct_32, l_32, u_32, v_32⟩ := at_of (c.t.d.def_ 8 rfl)
  obtain ⟨oc_34, od_34, an_34, sl_34, kV_34, dc_34, pm_34, cd_34, ct_34, l_34, u_34, v_34⟩ := at_of (c.t.d.def_ 9 rfl)
  obtain ⟨oc_39, od_39, an_39, sl_39, kV_39, dc_39, pm_39, cd_39, ct_39, l_39, u_39, v_39⟩ := at_of (c.t.d.def_ 10 rfl)
  obtain ⟨oc_40, od_40, an_40, sl_40, kV_40, dc_40, pm_40, cd_40, ct_40, l_40, u_40, v_40⟩ := at_of (c.t.d.def_ 11 rfl)
  obtain ⟨oc_43, od_43, an_43, sl_43, kV_43, dc_43, pm_43, cd_43, ct_43, l_43, u_43, v_43⟩ := at_of (c.t.d.def_ 12 rfl)
  obtain ⟨oc_44, od_44, an_44, sl_44, kV_44, dc_44, pm_44, cd_44, ct_44, l_44, u_44, v_44⟩ := at_of (c.t.d.def_ 13 rfl)
  obtain ⟨oc_45, od_45, an_45, sl_45, kV_45, dc_45, pm_45, cd_45, ct_45, l_45, u_45, v_45⟩ := at_of (c.t.d.def_ 14 rfl)
  obtain ⟨oc_46, od_46, an_46, sl_46, kV_46, dc_46, pm_46, cd_46, ct_46, l_46, u_46, v_46⟩ := at_of (c.t.d.def_ 15 rfl)
  obtain ⟨oc_47, od_47, an_47, sl_47, kV_47, dc_47, pm_47, cd_47, ct_47, l_47, u_47, v_47⟩ := at_of (c.t.d.def_ 16 rfl)
  obtain ⟨oc_48, od_48, an_48, sl_48, kV_48, dc_48, pm_48, cd_48, ct_48, l_48, u_48, v_48⟩ := at_of (c.t.d.def_ 17 rfl)
  obtain ⟨oc_49, od_49, an_49, sl_49, kV_49, dc_49, pm_49, cd_49, ct_49, l_49, u_49, v_49⟩ := at_of (c.t.d.def_ 18 rfl)
  obtain ⟨oc_51, od_51, an_51, sl_51, kV_51, dc_51, pm_51, cd_51, ct_51, l_51, u_51, v_51⟩ := at_of (c.t.d.def_ 19 rfl)
  obtain ⟨oc_54, od_54, an_54, sl_54, kV_54, dc_54, pm_54, cd_54, ct_54, l_54, u_54, v_54⟩ := at_of (c.t.d.def_ 20 rfl)
  obtain ⟨oc_55, od_55, an_55, sl_55, kV_55, dc_55, pm_55, cd_55, ct_55, l_55, u_55, v_55⟩ := at_of (c.t.d.def_ 21 rfl)
  obtain ⟨oc_58, od_58, an_58, sl_58, kV_58, dc_58, pm_58, cd_58, ct_58, l_58, u_58, v_58⟩ := at_of (c.t.d.def_ 22 rfl)
  obtain ⟨oc_63, od_63, an_63, sl_63, kV_63, dc_63, pm_63, cd_63, ct_63, l_63, u_63, v_63⟩ := at_of (c.t.d.def_ 23 rfl)
  obtain ⟨oc_69, od_69, an_69, sl_69, kV_69, dc_69, pm_69, cd_69, ct_69, l_69, u_69, v_69⟩ := at_of (c.t.d.def_ 24 rfl)
  obtain ⟨oc_75, od_75, an_75, sl_75, kV_75, dc_75, pm_75, cd_75, ct_75, l_75, u_75, v_75⟩ := at_of (c.t.d.def_ 25 rfl)
  obtain ⟨oc_76, od_76, an_76, sl_76, kV_76, dc_76, pm_76, cd_76, ct_76, l_76, u_76, v_76⟩ := at_of (c.t.d.def_ 26 rfl)
  obtain ⟨oc_78, od_78, an_78, sl_78, kV_78, dc_78, pm_78, cd_78, ct_78, l_78, u_78, v_78⟩ := at_of (c.t.d.def_ 27 rfl)
  obtain ⟨oc_79, od_79, an_79, sl_79, kV_79, dc_79, pm_79, cd_79, ct_79, l_79, u_79, v_79⟩ := at_of (c.t.d.def_ 28 rfl)
  obtain ⟨oc_80, od_80, an_80, sl_80, kV_80, dc_80, pm_80, cd_80, ct_80, l_80, u_80, v_80⟩ := at_of (c.t.d.def_ 29 rfl)
  obtain ⟨oc_81, od_81, an_81, sl_81, kV_81, dc_81, pm_81, cd_81, ct_81, l_81, u_81, v_81⟩ := at_of (c.t.d.def_ 30 rfl)
  obtain ⟨oc_82, od_82, an_82, sl_82, kV_82, dc_82, pm_82, cd_82, ct_82, l_82, u_82, v_82⟩ := at_of (c.t.d.def_ 31 rfl)
  obtain ⟨oc_83, od_83, an_83, sl_83, kV_83, dc_83, pm_83, cd_83, ct_83, l_83, u_83, v_83⟩ := at_of (c.t.d.def_ 32 rfl)
  obtain ⟨oc_84, od_84, an_84, sl_84, kV_84, dc_84, pm_84, cd_84, ct_84, l_84, u_84, v_84⟩ := at_of (c.t.d.def_ 33 rfl)
  obtain ⟨oc_85, od_85, an_85, sl_85, kV_85, dc_85, pm_85, cd_85, ct_85, l_85, u_85, v_85⟩ := at_of (c.t.d.def_ 34 rfl)
  obtain ⟨oc_86, od_86, an_86, sl_86, kV_86, dc_86, pm_86, cd_86, ct_86, l_86, u_86, v_86⟩ := at_of (c.t.d.def_ 35 rfl)
  obtain ⟨oc_95, od_95, an_95, sl_95, kV_95, dc_95, pm_95, cd_95, ct_95, l_95, u_95, v_95⟩ := at_of (c.t.d.def_ 36 rfl)
  obtain ⟨oc_96, od_96, an_96, sl_96, kV_96, dc_96, pm_96, cd_96, ct_96, l_96, u_96, v_96⟩ := at_of (c.t.d.def_ 37 rfl)
  obtain ⟨oc_112, od_112, an_112, sl_112, kV_112, dc_112, pm_112, cd_112, ct_112, l_112, u_112, v_112⟩ := at_of (c.t.d.def_ 38 rfl)
  obtain ⟨oc_113, od_113, an_113, sl_113, kV_113, dc_113, pm_113, cd_113, ct_113, l_113, u_113, v_113⟩ := at_of (c.t.d.def_ 39 rfl)
  obtain ⟨oc_117, od_117, an_117, sl_117, kV_117, dc_117, pm_117, cd_117, ct_117, l_117, u_117, v_117⟩ := at_of (c.t.d.def_ 40 rfl)
  obtain ⟨oc_118, od_118, an_118, sl_118, kV_118, dc_118, pm_118, cd_118, ct_118, l_118, u_118, v_118⟩ := at_of (c.t.d.def_ 41 rfl)
  obtain ⟨oc_119, od_119, an_119, sl_119, kV_119, dc_119, pm_119, cd_119, ct_119, l_119, u_119, v_119⟩ := at_of (c.t.d.def_ 42 rfl)
  obtain ⟨oc_68_0, od_68_0, an_68_0, sl_68_0, kV_68_0, dc_68_0, pm_68_0, cd_68_0, ct_68_0, l_68_0, u_68_0, v_68_0⟩ := at_of (c.t.d.def_ 43 rfl)
  obtain ⟨oc_68_2, od_68_2, an_68_2, sl_68_2, kV_68_2, dc_68_2, pm_68_2, cd_68_2, ct_68_2, l_68_2, u_68_2, v_68_2⟩ := at_of (c.t.d.def_ 44 rfl)
  obtain ⟨oc_68_3, od_68_3, an_68_3, sl_68_3, kV_68_3, dc_68_3, pm_68_3, cd_68_3, ct_68_3, l_68_3, u_68_3, v_68_3⟩ := at_of (c.t.d.def_ 45 rfl)
  obtain ⟨oc_68_7, od_68_7, an_68_7, sl_68_7, kV_68_7, dc_68_7, pm_68_7, cd_68_7, ct_68_7, l_68_7, u_68_7, v_68_7⟩ := at_of (c.t.d.def_ 46 rfl)
  obtain ⟨oc_68_8, od_68_8, an_68_8, sl_68_8, kV_68_8, dc_68_8, pm_68_8, cd_68_8, ct_68_8, l_68_8, u_68_8, v_68_8⟩ := at_of (c.t.d.def_ 47 rfl)
  obtain ⟨oc_68_11, od_68_11, an_68_11, sl_68_11, kV_68_11, dc_68_11, pm_68_11, cd_68_11, ct_68_11, l_68_11, u_68_11, v_68_11⟩ := at_of (c.t.d.def_ 48 rfl)
  obtain ⟨oc_68_12, od_68_12, an_68_12, sl_68_12, kV_68_12, dc_68_12, pm_68_12, cd_68_12, ct_68_12, l_68_12, u_68_12, v_68_12⟩ := at_of (c.t.d.def_ 49 rfl)
  obtain ⟨oc_68_14, od_68_14, an_68_14, sl_68_14, kV_68_14, dc_68_14, pm_68_14, cd_68_14, ct_68_14, l_68_14, u_68_14, v_68_14⟩ := at_of (c.t.d.def_ 50 rfl)
  obtain ⟨oc_68_15, od_68_15, an_68_15, sl_68_15, kV_68_15, dc_68_15, pm_68_15, cd_68_15, ct_68_15, l_68_15, u_68_15, v_68_15⟩ := at_of (c.t.d.def_ 51 rfl)
  obtain ⟨oc_109_0, od_109_0, an_109_0, sl_109_0, kV_109_0, dc_109_0, pm_109_0, cd_109_0, ct_109_0, l_109_0, u_109_0, v_109_0⟩ := at_of (c.t.d.def_ 52 rfl)
  obtain ⟨oc_109_1, od_109_1, an_109_1, sl_109_1, kV_109_1, dc_109_1, pm_109_1, cd_109_1, ct_109_1, l_109_1, u_109_1, v_109_1⟩ := at_of (c.t.d.def_ 53 rfl)
  obtain ⟨oc_e11, od_e11, an_e11, sl_e11, kV_e11, dc_e11, pm_e11, cd_e11, ct_e11, l_e11, u_e11, v_e11⟩ := at_of (c.t.d.def_ 54 rfl)
  obtain ⟨tk_MOST_LETTERS, k_MOST_LETTERS⟩ := intB_ok (hx_at (es := exs) c.more 109 rfl : (intB K "MOST_LETTERS" 8) = true)
  obtain ⟨tk_MOST_TICKS, k_MOST_TICKS⟩ := intB_ok (hx_at (es := exs) c.more 110 rfl : (intB K "MOST_TICKS" 1000000000000) = true)
  obtain ⟨tk_MOST_ROUNDS, k_MOST_ROUNDS⟩ := intB_ok (hx_at (es := exs) c.more 111 rfl : (intB K "MOST_ROUNDS" 1000000000000000000) = true)
  obtain ⟨tk_MOST_BESIDE, k_MOST_BESIDE⟩ := intB_ok (hx_at (es := exs) c.more 112 rfl : (intB K "MOST_BESIDE" 20) = true)
  obtain ⟨tk_MOST_ITEMS, k_MOST_ITEMS⟩ := intB_ok (hx_at (es := exs) c.more 113 rfl : (intB K "MOST_ITEMS" 60) = true)
  obtain ⟨tk_MOST_DEEP, k_MOST_DEEP⟩ := intB_ok (hx_at (es := exs) c.more 114 rfl : (intB K "MOST_DEEP" 5) = true)
  obtain ⟨tk_GREATEST_DIVISOR, k_GREATEST_DIVISOR⟩ := intB_ok (hx_at (es := exs) c.more 115 rfl : (intB K "GREATEST_DIVISOR" 2000) = true)
  obtain ⟨tk_LONGEST, k_LONGEST⟩ := intB_ok (hx_at (es := exs) c.more 116 rfl : (intB K "LONGEST" 2000) = true)
  obtain ⟨tk_PIECE, k_PIECE⟩ := intB_ok (hx_at (es := exs) c.more 117 rfl : (intB K "PIECE" 10000000000000000000000000000000000000000000000000000000000000000) = true)
  obtain ⟨odS, nS, slS, x_oFS⟩ := noneB_ok (hx_at (es := exs) c.more 163 rfl : (noneB K (nsA K (He.ga K "FORMS") "show")) = true)
  obtain ⟨odL, nL, slL, x_oFL⟩ := noneB_ok (hx_at (es := exs) c.more 164 rfl : (noneB K (nsA K (He.ga K "FORMS") "length")) = true)
  obtain ⟨nmS, qnS, NS, bsS, snS, subS, abS, colS, ddS, pS, rS, sS, tS_, wS, x_S⟩ := excM_ok (hx_at (es := exs) c.more 167 rfl : (excM K (He.ga K "SampleError") [.type "ValueError", .type "Exception", .type "BaseException", .type "object"]) = true)
  obtain ⟨nm11, qn11, N11, bs11, sn11, sub11, ab11, col11, dd11, p11, r11, s11, t11_, w11, x_11⟩ := excM_ok (hx_at (es := exs) c.more 168 rfl : (excM K (He.ga K "BadText") [.ref (He.ga K "SampleError"), .type "ValueError", .type "Exception", .type "BaseException", .type "object"]) = true)
  refine' Ev.all_mk X G hfa ?A15 ?L15 ?H15 ?A16 ?L16 ?H16 ?A17 ?L17 ?H17 ?A19 ?L19 ?H19 ?A28 ?L28 ?H28 ?A29 ?L29 ?H29 ?A30 ?L30 ?H30 ?A31 ?L31 ?H31 ?A32 ?L32 ?H32 ?A34 ?L34 ?H34 ?A39 ?L39 ?H39 ?A40 ?L40 ?H40 ?A43 ?L43 ?H43 ?A44 ?L44 ?H44 ?A45 ?L45 ?H45 ?A46 ?L46 ?H46 ?A47 ?L47 ?H47 ?A48 ?L48 ?H48 ?A49 ?L49 ?H49 ?A51 ?L51 ?H51 ?A54 ?L54 ?H54 ?A55 ?L55 ?H55 ?A58 ?L58 ?H58 ?A63 ?L63 ?H63 ?A69 ?L69 ?H69 ?A75 ?L75 ?H75 ?A76 ?L76 ?H76 ?A78 ?L78 ?H78 ?A79 ?L79 ?H79 ?A80 ?L80 ?H80 ?A81 ?L81 ?H81 ?A82 ?L82 ?H82 ?A83 ?L83 ?H83 ?A84 ?L84 ?H84 ?A85 ?L85 ?H85 ?A86 ?L86 ?H86 ?A95 ?L95 ?H95 ?A96 ?L96 ?H96 ?A112 ?L112 ?H112 ?A113 ?L113 ?H113 ?A117 ?L117 ?H117 ?A118 ?L118 ?H118 ?A119 ?L119 ?H119 ?c_MOST_LETTERS ?c_MOST_TICKS ?c_MOST_ROUNDS ?c_MOST_BESIDE ?c_MOST_ITEMS ?c_MOST_DEEP ?c_GREATEST_DIVISOR ?c_LONGEST ?c_PIECE ?AL_length_programs ?AL_looks_looks ?aC68 ?A68_0 ?L68_0 ?H68_0 ?A68_2 ?L68_2 ?H68_2 ?A68_3 ?L68_3 ?H68_3 ?A68_7 ?L68_7 ?H68_7 ?A68_8 ?L68_8 ?H68_8 ?A68_11 ?L68_11 ?H68_11 ?A68_12 ?L68_12 ?H68_12 ?A68_14 ?L68_14 ?H68_14 ?A68_15 ?L68_15 ?H68_15 ?HC68 ?sa68 ?no68_current ?no68_earlier ?aC109 ?A109_0 ?L109_0 ?H109_0 ?A109_1 ?L109_1 ?H109_1 ?HC109 ?sa109 ?no109_bench ?eaS ?exS ?HbS ?vS ?ea11 ?ex11 ?He11 ?ei11 ?el11 ?Hi11 ?en11 ?z_ValueError ?z_len ?z_abs ?z_int ?z_bool ?z_isinstance ?z_range ?z_max ?z_min ?z_sum ?z_repr ?z_divmod ?z_tuple ?z_sorted ?z_set ?z_enumerate ?z_zip ?z_list ?z_dict ?z_any ?z_all ?z_str ?z_reversed ?gF ?gA ?HdF ?HdA ?vFS ?vFL ?oFS ?oFL ?vAS ?vAL
  case A15 => exact beq_iff_eq.mp (hx_at (es := exs) c.more 0 rfl : ((nsIn K mainGlobals "is_whole") == (some (some (.ref (He.ga K "is_whole"))))) = true)
  case L15 => exact l_15
  case H15 => exact (initB_mk (beq_iff_eq.mp (hx_at (es := exs) c.more 1 rfl : ((PySem.W.typeIn K (.ref (He.ga K "is_whole"))) == (some (.type "function"))) = true)) u_15 v_15)
  case A16 => exact beq_iff_eq.mp (hx_at (es := exs) c.more 2 rfl : ((nsIn K mainGlobals "is_integer_within") == (some (some (.ref (He.ga K "is_integer_within"))))) = true)
  case L16 => exact l_16
  case H16 => exact (initB_mk (beq_iff_eq.mp (hx_at (es := exs) c.more 3 rfl : ((PySem.W.typeIn K (.ref (He.ga K "is_integer_within"))) == (some (.type "function"))) = true)) u_16 v_16)
  case A17 => exact beq_iff_eq.mp (hx_at (es := exs) c.more 4 rfl : ((nsIn K mainGlobals "common_divisor") == (some (some (.ref (He.ga K "common_divisor"))))) = true)
  case L17 => exact l_17
  case H17 => exact (initB_mk (beq_iff_eq.mp (hx_at (es := exs) c.more 5 rfl : ((PySem.W.typeIn K (.ref (He.ga K "common_divisor"))) == (some (.type "function"))) = true)) u_17 v_17)
  case A19 => exact beq_iff_eq.mp (hx_at (es := exs) c.more 6 rfl : ((nsIn K mainGlobals "decimal") == (some (some (.ref (He.ga K "decimal"))))) = true)
  case L19 => exact l_19
  case H19 => exact (initB_mk (beq_iff_eq.mp (hx_at (es := exs) c.more 7 rfl : ((PySem.W.typeIn K (.ref (He.ga K "decimal"))) == (some (.type "function"))) = true)) u_19 v_19)
  case A28 => exact beq_iff_eq.mp (hx_at (es := exs) c.more 8 rfl : ((nsIn K mainGlobals "is_program") == (some (some (.ref (He.ga K "is_program"))))) = true)
  case L28 => exact l_28
  case H28 => exact (initB_mk (beq_iff_eq.mp (hx_at (es := exs) c.more 9 rfl : ((PySem.W.typeIn K (.ref (He.ga K "is_program"))) == (some (.type "function"))) = true)) u_28 v_28)
  case A29 => exact beq_iff_eq.mp (hx_at (es := exs) c.more 10 rfl : ((nsIn K mainGlobals "room_behind_items") == (some (some (.ref (He.ga K "room_behind_items"))))) = true)
  case L29 => exact l_29
  case H29 => exact (initB_mk (beq_iff_eq.mp (hx_at (es := exs) c.more 11 rfl : ((PySem.W.typeIn K (.ref (He.ga K "room_behind_items"))) == (some (.type "function"))) = true)) u_29 v_29)
  case A30 => exact beq_iff_eq.mp (hx_at (es := exs) c.more 12 rfl : ((nsIn K mainGlobals "room_behind") == (some (some (.ref (He.ga K "room_behind"))))) = true)
  case L30 => exact l_30
  case H30 => exact (initB_mk (beq_iff_eq.mp (hx_at (es := exs) c.more 13 rfl : ((PySem.W.typeIn K (.ref (He.ga K "room_behind"))) == (some (.type "function"))) = true)) u_30 v_30)
  case A31 => exact beq_iff_eq.mp (hx_at (es := exs) c.more 14 rfl : ((nsIn K mainGlobals "is_name") == (some (some (.ref (He.ga K "is_name"))))) = true)
  case L31 => exact l_31
  case H31 => exact (initB_mk (beq_iff_eq.mp (hx_at (es := exs) c.more 15 rfl : ((PySem.W.typeIn K (.ref (He.ga K "is_name"))) == (some (.type "function"))) = true)) u_31 v_31)
  case A32 => exact beq_iff_eq.mp (hx_at (es := exs) c.more 16 rfl : ((nsIn K mainGlobals "length") == (some (some (.ref (He.ga K "length"))))) = true)
  case L32 => exact l_32
  case H32 => exact (initB_mk (beq_iff_eq.mp (hx_at (es := exs) c.more 17 rfl : ((PySem.W.typeIn K (.ref (He.ga K "length"))) == (some (.type "function"))) = true)) u_32 v_32)
  case A34 => exact beq_iff_eq.mp (hx_at (es := exs) c.more 18 rfl : ((nsIn K mainGlobals "lines_of") == (some (some (.ref (He.ga K "lines_of"))))) = true)
  case L34 => exact l_34
  case H34 => exact (initB_mk (beq_iff_eq.mp (hx_at (es := exs) c.more 19 rfl : ((PySem.W.typeIn K (.ref (He.ga K "lines_of"))) == (some (.type "function"))) = true)) u_34 v_34)
  case A39 => exact beq_iff_eq.mp (hx_at (es := exs) c.more 20 rfl : ((nsIn K mainGlobals "spent") == (some (some (.ref (He.ga K "spent"))))) = true)
  case L39 => exact l_39
  case H39 => exact (initB_mk (beq_iff_eq.mp (hx_at (es := exs) c.more 21 rfl : ((PySem.W.typeIn K (.ref (He.ga K "spent"))) == (some (.type "function"))) = true)) u_39 v_39)
  case A40 => exact beq_iff_eq.mp (hx_at (es := exs) c.more 22 rfl : ((nsIn K mainGlobals "added_up") == (some (some (.ref (He.ga K "added_up"))))) = true)
  case L40 => exact l_40
  case H40 => exact (initB_mk (beq_iff_eq.mp (hx_at (es := exs) c.more 23 rfl : ((PySem.W.typeIn K (.ref (He.ga K "added_up"))) == (some (.type "function"))) = true)) u_40 v_40)
  case A43 => exact beq_iff_eq.mp (hx_at (es := exs) c.more 24 rfl : ((nsIn K mainGlobals "is_even") == (some (some (.ref (He.ga K "is_even"))))) = true)
  case L43 => exact l_43
  case H43 => exact (initB_mk (beq_iff_eq.mp (hx_at (es := exs) c.more 25 rfl : ((PySem.W.typeIn K (.ref (He.ga K "is_even"))) == (some (.type "function"))) = true)) u_43 v_43)
  case A44 => exact beq_iff_eq.mp (hx_at (es := exs) c.more 26 rfl : ((nsIn K mainGlobals "uneven_pair") == (some (some (.ref (He.ga K "uneven_pair"))))) = true)
  case L44 => exact l_44
  case H44 => exact (initB_mk (beq_iff_eq.mp (hx_at (es := exs) c.more 27 rfl : ((PySem.W.typeIn K (.ref (He.ga K "uneven_pair"))) == (some (.type "function"))) = true)) u_44 v_44)
  case A45 => exact beq_iff_eq.mp (hx_at (es := exs) c.more 28 rfl : ((nsIn K mainGlobals "class_counts") == (some (some (.ref (He.ga K "class_counts"))))) = true)
  case L45 => exact l_45
  case H45 => exact (initB_mk (beq_iff_eq.mp (hx_at (es := exs) c.more 29 rfl : ((PySem.W.typeIn K (.ref (He.ga K "class_counts"))) == (some (.type "function"))) = true)) u_45 v_45)
  case A46 => exact beq_iff_eq.mp (hx_at (es := exs) c.more 30 rfl : ((nsIn K mainGlobals "line_columns") == (some (some (.ref (He.ga K "line_columns"))))) = true)
  case L46 => exact l_46
  case H46 => exact (initB_mk (beq_iff_eq.mp (hx_at (es := exs) c.more 31 rfl : ((PySem.W.typeIn K (.ref (He.ga K "line_columns"))) == (some (.type "function"))) = true)) u_46 v_46)
  case A47 => exact beq_iff_eq.mp (hx_at (es := exs) c.more 32 rfl : ((nsIn K mainGlobals "moved") == (some (some (.ref (He.ga K "moved"))))) = true)
  case L47 => exact l_47
  case H47 => exact (initB_mk (beq_iff_eq.mp (hx_at (es := exs) c.more 33 rfl : ((PySem.W.typeIn K (.ref (He.ga K "moved"))) == (some (.type "function"))) = true)) u_47 v_47)
  case A48 => exact beq_iff_eq.mp (hx_at (es := exs) c.more 34 rfl : ((nsIn K mainGlobals "repeated") == (some (some (.ref (He.ga K "repeated"))))) = true)
  case L48 => exact l_48
  case H48 => exact (initB_mk (beq_iff_eq.mp (hx_at (es := exs) c.more 35 rfl : ((PySem.W.typeIn K (.ref (He.ga K "repeated"))) == (some (.type "function"))) = true)) u_48 v_48)
  case A49 => exact beq_iff_eq.mp (hx_at (es := exs) c.more 36 rfl : ((nsIn K mainGlobals "window_sums") == (some (some (.ref (He.ga K "window_sums"))))) = true)
  case L49 => exact l_49
  case H49 => exact (initB_mk (beq_iff_eq.mp (hx_at (es := exs) c.more 37 rfl : ((PySem.W.typeIn K (.ref (He.ga K "window_sums"))) == (some (.type "function"))) = true)) u_49 v_49)
  case A51 => exact beq_iff_eq.mp (hx_at (es := exs) c.more 38 rfl : ((nsIn K mainGlobals "looks") == (some (some (.ref (He.ga K "looks"))))) = true)
  case L51 => exact l_51
  case H51 => exact (initB_mk (beq_iff_eq.mp (hx_at (es := exs) c.more 39 rfl : ((PySem.W.typeIn K (.ref (He.ga K "looks"))) == (some (.type "function"))) = true)) u_51 v_51)
  case A54 => exact beq_iff_eq.mp (hx_at (es := exs) c.more 40 rfl : ((nsIn K mainGlobals "items_from") == (some (some (.ref (He.ga K "items_from"))))) = true)
  case L54 => exact l_54
  case H54 => exact (initB_mk (beq_iff_eq.mp (hx_at (es := exs) c.more 41 rfl : ((PySem.W.typeIn K (.ref (He.ga K "items_from"))) == (some (.type "function"))) = true)) u_54 v_54)
  case A55 => exact beq_iff_eq.mp (hx_at (es := exs) c.more 42 rfl : ((nsIn K mainGlobals "item_from") == (some (some (.ref (He.ga K "item_from"))))) = true)
  case L55 => exact l_55
  case H55 => exact (initB_mk (beq_iff_eq.mp (hx_at (es := exs) c.more 43 rfl : ((PySem.W.typeIn K (.ref (He.ga K "item_from"))) == (some (.type "function"))) = true)) u_55 v_55)
  case A58 => exact beq_iff_eq.mp (hx_at (es := exs) c.more 44 rfl : ((nsIn K mainGlobals "is_safe") == (some (some (.ref (He.ga K "is_safe"))))) = true)
  case L58 => exact l_58
  case H58 => exact (initB_mk (beq_iff_eq.mp (hx_at (es := exs) c.more 45 rfl : ((PySem.W.typeIn K (.ref (He.ga K "is_safe"))) == (some (.type "function"))) = true)) u_58 v_58)
  case A63 => exact beq_iff_eq.mp (hx_at (es := exs) c.more 46 rfl : ((nsIn K mainGlobals "shared_divisor") == (some (some (.ref (He.ga K "shared_divisor"))))) = true)
  case L63 => exact l_63
  case H63 => exact (initB_mk (beq_iff_eq.mp (hx_at (es := exs) c.more 47 rfl : ((PySem.W.typeIn K (.ref (He.ga K "shared_divisor"))) == (some (.type "function"))) = true)) u_63 v_63)
  case A69 => exact beq_iff_eq.mp (hx_at (es := exs) c.more 48 rfl : ((nsIn K mainGlobals "check_index") == (some (some (.ref (He.ga K "check_index"))))) = true)
  case L69 => exact l_69
  case H69 => exact (initB_mk (beq_iff_eq.mp (hx_at (es := exs) c.more 49 rfl : ((PySem.W.typeIn K (.ref (He.ga K "check_index"))) == (some (.type "function"))) = true)) u_69 v_69)
  case A75 => exact beq_iff_eq.mp (hx_at (es := exs) c.more 50 rfl : ((nsIn K mainGlobals "padded") == (some (some (.ref (He.ga K "padded"))))) = true)
  case L75 => exact l_75
  case H75 => exact (initB_mk (beq_iff_eq.mp (hx_at (es := exs) c.more 51 rfl : ((PySem.W.typeIn K (.ref (He.ga K "padded"))) == (some (.type "function"))) = true)) u_75 v_75)
  case A76 => exact beq_iff_eq.mp (hx_at (es := exs) c.more 52 rfl : ((nsIn K mainGlobals "least_padding") == (some (some (.ref (He.ga K "least_padding"))))) = true)
  case L76 => exact l_76
  case H76 => exact (initB_mk (beq_iff_eq.mp (hx_at (es := exs) c.more 53 rfl : ((PySem.W.typeIn K (.ref (He.ga K "least_padding"))) == (some (.type "function"))) = true)) u_76 v_76)
  case A78 => exact beq_iff_eq.mp (hx_at (es := exs) c.more 54 rfl : ((nsIn K mainGlobals "show_program") == (some (some (.ref (He.ga K "show_program"))))) = true)
  case L78 => exact l_78
  case H78 => exact (initB_mk (beq_iff_eq.mp (hx_at (es := exs) c.more 55 rfl : ((PySem.W.typeIn K (.ref (He.ga K "show_program"))) == (some (.type "function"))) = true)) u_78 v_78)
  case A79 => exact beq_iff_eq.mp (hx_at (es := exs) c.more 56 rfl : ((nsIn K mainGlobals "read_program") == (some (some (.ref (He.ga K "read_program"))))) = true)
  case L79 => exact l_79
  case H79 => exact (initB_mk (beq_iff_eq.mp (hx_at (es := exs) c.more 57 rfl : ((PySem.W.typeIn K (.ref (He.ga K "read_program"))) == (some (.type "function"))) = true)) u_79 v_79)
  case A80 => exact beq_iff_eq.mp (hx_at (es := exs) c.more 58 rfl : ((nsIn K mainGlobals "item_text") == (some (some (.ref (He.ga K "item_text"))))) = true)
  case L80 => exact l_80
  case H80 => exact (initB_mk (beq_iff_eq.mp (hx_at (es := exs) c.more 59 rfl : ((PySem.W.typeIn K (.ref (He.ga K "item_text"))) == (some (.type "function"))) = true)) u_80 v_80)
  case A81 => exact beq_iff_eq.mp (hx_at (es := exs) c.more 60 rfl : ((nsIn K mainGlobals "read_items") == (some (some (.ref (He.ga K "read_items"))))) = true)
  case L81 => exact l_81
  case H81 => exact (initB_mk (beq_iff_eq.mp (hx_at (es := exs) c.more 61 rfl : ((PySem.W.typeIn K (.ref (He.ga K "read_items"))) == (some (.type "function"))) = true)) u_81 v_81)
  case A82 => exact beq_iff_eq.mp (hx_at (es := exs) c.more 62 rfl : ((nsIn K mainGlobals "read_item") == (some (some (.ref (He.ga K "read_item"))))) = true)
  case L82 => exact l_82
  case H82 => exact (initB_mk (beq_iff_eq.mp (hx_at (es := exs) c.more 63 rfl : ((PySem.W.typeIn K (.ref (He.ga K "read_item"))) == (some (.type "function"))) = true)) u_82 v_82)
  case A83 => exact beq_iff_eq.mp (hx_at (es := exs) c.more 64 rfl : ((nsIn K mainGlobals "read_name") == (some (some (.ref (He.ga K "read_name"))))) = true)
  case L83 => exact l_83
  case H83 => exact (initB_mk (beq_iff_eq.mp (hx_at (es := exs) c.more 65 rfl : ((PySem.W.typeIn K (.ref (He.ga K "read_name"))) == (some (.type "function"))) = true)) u_83 v_83)
  case A84 => exact beq_iff_eq.mp (hx_at (es := exs) c.more 66 rfl : ((nsIn K mainGlobals "read_number") == (some (some (.ref (He.ga K "read_number"))))) = true)
  case L84 => exact l_84
  case H84 => exact (initB_mk (beq_iff_eq.mp (hx_at (es := exs) c.more 67 rfl : ((PySem.W.typeIn K (.ref (He.ga K "read_number"))) == (some (.type "function"))) = true)) u_84 v_84)
  case A85 => exact beq_iff_eq.mp (hx_at (es := exs) c.more 68 rfl : ((nsIn K mainGlobals "is_letter") == (some (some (.ref (He.ga K "is_letter"))))) = true)
  case L85 => exact l_85
  case H85 => exact (initB_mk (beq_iff_eq.mp (hx_at (es := exs) c.more 69 rfl : ((PySem.W.typeIn K (.ref (He.ga K "is_letter"))) == (some (.type "function"))) = true)) u_85 v_85)
  case A86 => exact beq_iff_eq.mp (hx_at (es := exs) c.more 70 rfl : ((nsIn K mainGlobals "behind") == (some (some (.ref (He.ga K "behind"))))) = true)
  case L86 => exact l_86
  case H86 => exact (initB_mk (beq_iff_eq.mp (hx_at (es := exs) c.more 71 rfl : ((PySem.W.typeIn K (.ref (He.ga K "behind"))) == (some (.type "function"))) = true)) u_86 v_86)
  case A95 => exact beq_iff_eq.mp (hx_at (es := exs) c.more 72 rfl : ((nsIn K mainGlobals "tell_program") == (some (some (.ref (He.ga K "tell_program"))))) = true)
  case L95 => exact l_95
  case H95 => exact (initB_mk (beq_iff_eq.mp (hx_at (es := exs) c.more 73 rfl : ((PySem.W.typeIn K (.ref (He.ga K "tell_program"))) == (some (.type "function"))) = true)) u_95 v_95)
  case A96 => exact beq_iff_eq.mp (hx_at (es := exs) c.more 74 rfl : ((nsIn K mainGlobals "tell_length") == (some (some (.ref (He.ga K "tell_length"))))) = true)
  case L96 => exact l_96
  case H96 => exact (initB_mk (beq_iff_eq.mp (hx_at (es := exs) c.more 75 rfl : ((PySem.W.typeIn K (.ref (He.ga K "tell_length"))) == (some (.type "function"))) = true)) u_96 v_96)
  case A112 => exact beq_iff_eq.mp (hx_at (es := exs) c.more 76 rfl : ((nsIn K mainGlobals "parts_of") == (some (some (.ref (He.ga K "parts_of"))))) = true)
  case L112 => exact l_112
  case H112 => exact (initB_mk (beq_iff_eq.mp (hx_at (es := exs) c.more 77 rfl : ((PySem.W.typeIn K (.ref (He.ga K "parts_of"))) == (some (.type "function"))) = true)) u_112 v_112)
  case A113 => exact beq_iff_eq.mp (hx_at (es := exs) c.more 78 rfl : ((nsIn K mainGlobals "argument_of") == (some (some (.ref (He.ga K "argument_of"))))) = true)
  case L113 => exact l_113
  case H113 => exact (initB_mk (beq_iff_eq.mp (hx_at (es := exs) c.more 79 rfl : ((PySem.W.typeIn K (.ref (He.ga K "argument_of"))) == (some (.type "function"))) = true)) u_113 v_113)
  case A117 => exact beq_iff_eq.mp (hx_at (es := exs) c.more 80 rfl : ((nsIn K mainGlobals "_law_stream") == (some (some (.ref (He.ga K "_law_stream"))))) = true)
  case L117 => exact l_117
  case H117 => exact (initB_mk (beq_iff_eq.mp (hx_at (es := exs) c.more 81 rfl : ((PySem.W.typeIn K (.ref (He.ga K "_law_stream"))) == (some (.type "function"))) = true)) u_117 v_117)
  case A118 => exact beq_iff_eq.mp (hx_at (es := exs) c.more 82 rfl : ((nsIn K mainGlobals "_law_draw") == (some (some (.ref (He.ga K "_law_draw"))))) = true)
  case L118 => exact l_118
  case H118 => exact (initB_mk (beq_iff_eq.mp (hx_at (es := exs) c.more 83 rfl : ((PySem.W.typeIn K (.ref (He.ga K "_law_draw"))) == (some (.type "function"))) = true)) u_118 v_118)
  case A119 => exact beq_iff_eq.mp (hx_at (es := exs) c.more 84 rfl : ((nsIn K mainGlobals "law") == (some (some (.ref (He.ga K "law"))))) = true)
  case L119 => exact l_119
  case H119 => exact (initB_mk (beq_iff_eq.mp (hx_at (es := exs) c.more 85 rfl : ((PySem.W.typeIn K (.ref (He.ga K "law"))) == (some (.type "function"))) = true)) u_119 v_119)
  case c_MOST_LETTERS => exact k_MOST_LETTERS
  case c_MOST_TICKS => exact k_MOST_TICKS
  case c_MOST_ROUNDS => exact k_MOST_ROUNDS
  case c_MOST_BESIDE => exact k_MOST_BESIDE
  case c_MOST_ITEMS => exact k_MOST_ITEMS
  case c_MOST_DEEP => exact k_MOST_DEEP
  case c_GREATEST_DIVISOR => exact k_GREATEST_DIVISOR
  case c_LONGEST => exact k_LONGEST
  case c_PIECE => exact k_PIECE
  case AL_length_programs => exact beq_iff_eq.mp (hx_at (es := exs) c.more 118 rfl : ((nsIn K mainGlobals "length_programs") == (some (some (.ref (He.ga K "length"))))) = true)
  case AL_looks_looks => exact beq_iff_eq.mp (hx_at (es := exs) c.more 119 rfl : ((nsIn K mainGlobals "looks_looks") == (some (some (.ref (He.ga K "looks"))))) = true)
  case aC68 => exact beq_iff_eq.mp (hx_at (es := exs) c.more 120 rfl : ((nsIn K mainGlobals "Bench") == (some (some (.ref (He.ga K "Bench"))))) = true)
  case A68_0 => exact beq_iff_eq.mp (hx_at (es := exs) c.more 86 rfl : ((PySem.W.findIn K (.ref (He.ga K "Bench")) "__init__") == (some (some (.ref (He.ma K (He.ga K "Bench") "__init__"))))) = true)
  case L68_0 => exact l_68_0
  case H68_0 => exact (methB_mk (hx_at (es := exs) c.more 87 rfl : (PySem.W.isFn K (.ref (He.ma K (He.ga K "Bench") "__init__"))) = true) u_68_0 v_68_0)
  case A68_2 => exact beq_iff_eq.mp (hx_at (es := exs) c.more 88 rfl : ((PySem.W.findIn K (.ref (He.ga K "Bench")) "program") == (some (some (.ref (He.ma K (He.ga K "Bench") "program"))))) = true)
  case L68_2 => exact l_68_2
  case H68_2 => exact (methB_mk (hx_at (es := exs) c.more 89 rfl : (PySem.W.isFn K (.ref (He.ma K (He.ga K "Bench") "program"))) = true) u_68_2 v_68_2)
  case A68_3 => exact beq_iff_eq.mp (hx_at (es := exs) c.more 90 rfl : ((PySem.W.findIn K (.ref (He.ga K "Bench")) "length") == (some (some (.ref (He.ma K (He.ga K "Bench") "length"))))) = true)
  case L68_3 => exact l_68_3
  case H68_3 => exact (methB_mk (hx_at (es := exs) c.more 91 rfl : (PySem.W.isFn K (.ref (He.ma K (He.ga K "Bench") "length"))) = true) u_68_3 v_68_3)
  case A68_7 => exact beq_iff_eq.mp (hx_at (es := exs) c.more 92 rfl : ((PySem.W.findIn K (.ref (He.ga K "Bench")) "delete") == (some (some (.ref (He.ma K (He.ga K "Bench") "delete"))))) = true)
  case L68_7 => exact l_68_7
  case H68_7 => exact (methB_mk (hx_at (es := exs) c.more 93 rfl : (PySem.W.isFn K (.ref (He.ma K (He.ga K "Bench") "delete"))) = true) u_68_7 v_68_7)
  case A68_8 => exact beq_iff_eq.mp (hx_at (es := exs) c.more 94 rfl : ((PySem.W.findIn K (.ref (He.ga K "Bench")) "wrap") == (some (some (.ref (He.ma K (He.ga K "Bench") "wrap"))))) = true)
  case L68_8 => exact l_68_8
  case H68_8 => exact (methB_mk (hx_at (es := exs) c.more 95 rfl : (PySem.W.isFn K (.ref (He.ma K (He.ga K "Bench") "wrap"))) = true) u_68_8 v_68_8)
  case A68_11 => exact beq_iff_eq.mp (hx_at (es := exs) c.more 96 rfl : ((PySem.W.findIn K (.ref (He.ga K "Bench")) "safe") == (some (some (.ref (He.ma K (He.ga K "Bench") "safe"))))) = true)
  case L68_11 => exact l_68_11
  case H68_11 => exact (methB_mk (hx_at (es := exs) c.more 97 rfl : (PySem.W.isFn K (.ref (He.ma K (He.ga K "Bench") "safe"))) = true) u_68_11 v_68_11)
  case A68_12 => exact beq_iff_eq.mp (hx_at (es := exs) c.more 98 rfl : ((PySem.W.findIn K (.ref (He.ga K "Bench")) "looks") == (some (some (.ref (He.ma K (He.ga K "Bench") "looks"))))) = true)
  case L68_12 => exact l_68_12
  case H68_12 => exact (methB_mk (hx_at (es := exs) c.more 99 rfl : (PySem.W.isFn K (.ref (He.ma K (He.ga K "Bench") "looks"))) = true) u_68_12 v_68_12)
  case A68_14 => exact beq_iff_eq.mp (hx_at (es := exs) c.more 100 rfl : ((PySem.W.findIn K (.ref (He.ga K "Bench")) "put") == (some (some (.ref (He.ma K (He.ga K "Bench") "put"))))) = true)
  case L68_14 => exact l_68_14
  case H68_14 => exact (methB_mk (hx_at (es := exs) c.more 101 rfl : (PySem.W.isFn K (.ref (He.ma K (He.ga K "Bench") "put"))) = true) u_68_14 v_68_14)
  case A68_15 => exact beq_iff_eq.mp (hx_at (es := exs) c.more 102 rfl : ((PySem.W.findIn K (.ref (He.ga K "Bench")) "change") == (some (some (.ref (He.ma K (He.ga K "Bench") "change"))))) = true)
  case L68_15 => exact l_68_15
  case H68_15 => exact (methB_mk (hx_at (es := exs) c.more 103 rfl : (PySem.W.isFn K (.ref (He.ma K (He.ga K "Bench") "change"))) = true) u_68_15 v_68_15)
  case HC68 => exact (hx_at (es := exs) c.more 121 rfl : (clsB K (He.ga K "Bench")) = true)
  case sa68 => exact beq_iff_eq.mp (hx_at (es := exs) c.more 122 rfl : ((PySem.W.findIn K (.ref (He.ga K "Bench")) "__setattr__") == (some (some (.builtin "object.__setattr__")))) = true)
  case no68_current => exact beq_iff_eq.mp (hx_at (es := exs) c.more 123 rfl : ((PySem.W.findIn K (.ref (He.ga K "Bench")) "current") == (some none)) = true)
  case no68_earlier => exact beq_iff_eq.mp (hx_at (es := exs) c.more 124 rfl : ((PySem.W.findIn K (.ref (He.ga K "Bench")) "earlier") == (some none)) = true)
  case aC109 => exact beq_iff_eq.mp (hx_at (es := exs) c.more 125 rfl : ((nsIn K mainGlobals "Desk") == (some (some (.ref (He.ga K "Desk"))))) = true)
  case A109_0 => exact beq_iff_eq.mp (hx_at (es := exs) c.more 104 rfl : ((PySem.W.findIn K (.ref (He.ga K "Desk")) "__init__") == (some (some (.ref (He.ma K (He.ga K "Desk") "__init__"))))) = true)
  case L109_0 => exact l_109_0
  case H109_0 => exact (methB_mk (hx_at (es := exs) c.more 105 rfl : (PySem.W.isFn K (.ref (He.ma K (He.ga K "Desk") "__init__"))) = true) u_109_0 v_109_0)
  case A109_1 => exact beq_iff_eq.mp (hx_at (es := exs) c.more 106 rfl : ((PySem.W.findIn K (.ref (He.ga K "Desk")) "run") == (some (some (.ref (He.ma K (He.ga K "Desk") "run"))))) = true)
  case L109_1 => exact l_109_1
  case H109_1 => exact (methB_mk (hx_at (es := exs) c.more 107 rfl : (PySem.W.isFn K (.ref (He.ma K (He.ga K "Desk") "run"))) = true) u_109_1 v_109_1)
  case HC109 => exact (hx_at (es := exs) c.more 126 rfl : (clsB K (He.ga K "Desk")) = true)
  case sa109 => exact beq_iff_eq.mp (hx_at (es := exs) c.more 127 rfl : ((PySem.W.findIn K (.ref (He.ga K "Desk")) "__setattr__") == (some (some (.builtin "object.__setattr__")))) = true)
  case no109_bench => exact beq_iff_eq.mp (hx_at (es := exs) c.more 128 rfl : ((PySem.W.findIn K (.ref (He.ga K "Desk")) "bench") == (some none)) = true)
  case eaS => exact beq_iff_eq.mp (hx_at (es := exs) c.more 129 rfl : ((nsIn K mainGlobals "SampleError") == (some (some (.ref (He.ga K "SampleError"))))) = true)
  case exS => exact x_S
  case HbS => exact (hx_at (es := exs) c.more 130 rfl : (baseB K (He.ga K "SampleError")) = true)
  case vS => exact foundB_ok (hx_at (es := exs) c.more 131 rfl : (foundB K (.ref (He.ga K "SampleError")) (.type "type") "__init__" (.builtin "ValueError.__init__")) = true)
  case ea11 => exact beq_iff_eq.mp (hx_at (es := exs) c.more 132 rfl : ((nsIn K mainGlobals "BadText") == (some (some (.ref (He.ga K "BadText"))))) = true)
  case ex11 => exact x_11
  case He11 => exact (hx_at (es := exs) c.more 133 rfl : (errB K (He.ga K "BadText")) = true)
  case ei11 => exact beq_iff_eq.mp (hx_at (es := exs) c.more 134 rfl : ((findIn K (.ref (He.ga K "BadText")) "__init__") == (some (some (.ref (He.ma K (He.ga K "BadText") "__init__"))))) = true)
  case el11 => exact l_e11
  case Hi11 => exact (initB_mk (beq_iff_eq.mp (hx_at (es := exs) c.more 108 rfl : ((PySem.W.typeIn K (.ref (He.ma K (He.ga K "BadText") "__init__"))) == (some (.type "function"))) = true)) u_e11 v_e11)
  case en11 => exact beq_iff_eq.mp (hx_at (es := exs) c.more 135 rfl : ((findIn K (.ref (He.ga K "BadText")) "position") == (some none)) = true)
  case z_ValueError => exact beq_iff_eq.mp (hx_at (es := exs) c.more 136 rfl : ((nsIn K mainGlobals "ValueError") == (some none)) = true)
  case z_len => exact beq_iff_eq.mp (hx_at (es := exs) c.more 137 rfl : ((nsIn K mainGlobals "len") == (some none)) = true)
  case z_abs => exact beq_iff_eq.mp (hx_at (es := exs) c.more 138 rfl : ((nsIn K mainGlobals "abs") == (some none)) = true)
  case z_int => exact beq_iff_eq.mp (hx_at (es := exs) c.more 139 rfl : ((nsIn K mainGlobals "int") == (some none)) = true)
  case z_bool => exact beq_iff_eq.mp (hx_at (es := exs) c.more 140 rfl : ((nsIn K mainGlobals "bool") == (some none)) = true)
  case z_isinstance => exact beq_iff_eq.mp (hx_at (es := exs) c.more 141 rfl : ((nsIn K mainGlobals "isinstance") == (some none)) = true)
  case z_range => exact beq_iff_eq.mp (hx_at (es := exs) c.more 142 rfl : ((nsIn K mainGlobals "range") == (some none)) = true)
  case z_max => exact beq_iff_eq.mp (hx_at (es := exs) c.more 143 rfl : ((nsIn K mainGlobals "max") == (some none)) = true)
  case z_min => exact beq_iff_eq.mp (hx_at (es := exs) c.more 144 rfl : ((nsIn K mainGlobals "min") == (some none)) = true)
  case z_sum => exact beq_iff_eq.mp (hx_at (es := exs) c.more 145 rfl : ((nsIn K mainGlobals "sum") == (some none)) = true)
  case z_repr => exact beq_iff_eq.mp (hx_at (es := exs) c.more 146 rfl : ((nsIn K mainGlobals "repr") == (some none)) = true)
  case z_divmod => exact beq_iff_eq.mp (hx_at (es := exs) c.more 147 rfl : ((nsIn K mainGlobals "divmod") == (some none)) = true)
  case z_tuple => exact beq_iff_eq.mp (hx_at (es := exs) c.more 148 rfl : ((nsIn K mainGlobals "tuple") == (some none)) = true)
  case z_sorted => exact beq_iff_eq.mp (hx_at (es := exs) c.more 149 rfl : ((nsIn K mainGlobals "sorted") == (some none)) = true)
  case z_set => exact beq_iff_eq.mp (hx_at (es := exs) c.more 150 rfl : ((nsIn K mainGlobals "set") == (some none)) = true)
  case z_enumerate => exact beq_iff_eq.mp (hx_at (es := exs) c.more 151 rfl : ((nsIn K mainGlobals "enumerate") == (some none)) = true)
  case z_zip => exact beq_iff_eq.mp (hx_at (es := exs) c.more 152 rfl : ((nsIn K mainGlobals "zip") == (some none)) = true)
  case z_list => exact beq_iff_eq.mp (hx_at (es := exs) c.more 153 rfl : ((nsIn K mainGlobals "list") == (some none)) = true)
  case z_dict => exact beq_iff_eq.mp (hx_at (es := exs) c.more 154 rfl : ((nsIn K mainGlobals "dict") == (some none)) = true)
  case z_any => exact beq_iff_eq.mp (hx_at (es := exs) c.more 155 rfl : ((nsIn K mainGlobals "any") == (some none)) = true)
  case z_all => exact beq_iff_eq.mp (hx_at (es := exs) c.more 156 rfl : ((nsIn K mainGlobals "all") == (some none)) = true)
  case z_str => exact beq_iff_eq.mp (hx_at (es := exs) c.more 157 rfl : ((nsIn K mainGlobals "str") == (some none)) = true)
  case z_reversed => exact beq_iff_eq.mp (hx_at (es := exs) c.more 158 rfl : ((nsIn K mainGlobals "reversed") == (some none)) = true)
  case gF => exact beq_iff_eq.mp (hx_at (es := exs) c.more 159 rfl : ((nsIn K mainGlobals "FORMS") == (some (some (.ref (He.ga K "FORMS"))))) = true)
  case gA => exact beq_iff_eq.mp (hx_at (es := exs) c.more 160 rfl : ((nsIn K mainGlobals "ACTIONS") == (some (some (.ref (He.ga K "ACTIONS"))))) = true)
  case HdF => exact tab_at c.t 0 rfl
  case HdA => exact tab_at c.t 1 rfl
  case vFS => exact beq_iff_eq.mp (hx_at (es := exs) c.more 161 rfl : ((nsIn K (He.ga K "FORMS") "show") == (some (some (.ref (nsA K (He.ga K "FORMS") "show"))))) = true)
  case vFL => exact beq_iff_eq.mp (hx_at (es := exs) c.more 162 rfl : ((nsIn K (He.ga K "FORMS") "length") == (some (some (.ref (nsA K (He.ga K "FORMS") "length"))))) = true)
  case oFS => exact x_oFS
  case oFL => exact x_oFL
  case vAS => exact beq_iff_eq.mp (hx_at (es := exs) c.more 165 rfl : ((nsIn K (He.ga K "ACTIONS") "show") == (some (some (.ref (He.ga K "tell_program"))))) = true)
  case vAL => exact beq_iff_eq.mp (hx_at (es := exs) c.more 166 rfl : ((nsIn K (He.ga K "ACTIONS") "length") == (some (some (.ref (He.ga K "tell_length"))))) = true)
end EvH
open PySem PySem.W PyProof.Rows
set_option maxRecDepth 100000 in
set_option maxHeartbeats 0 in
theorem PySem.Challenge.cw_evensamples_k62_arguments_by_name_holds : PySem.Challenge.rw_evensamples_k62_arguments_by_name.Holds := by
  w_on; o_law
  refine HandSHeadRun.head_any (r := OpenLaw.row PySem.Challenge.rw_evensamples_k62_arguments_by_name) (q := EvH.qv) (H := EvH.hk) (ob := EvH.ob) (M := 20000) (loose := EvH.names) (d := HandSHeadRun.topDef (OpenLaw.row PySem.Challenge.rw_evensamples_k62_arguments_by_name).prog 119) (kwd := []) EvH.ob_eq
    (by kernel_rfl) (fun s => by kernel_rfl) EvH.run (by kernel_rfl) (by kernel_rfl) (by kernel_rfl) (by rfl) (by first | assumption | decide +kernel) (by decide +kernel) ⟨rfl, rfl, rfl, rfl, rfl, by decide +kernel⟩ ?hw ?hc
  case hw => w_witness2
  case hc =>
    refine Ev.walkH (l := PySem.Challenge.rw_evensamples_k62_arguments_by_name) (n := 63) (k := 22) (x := "_law_script") (CX := L2.CX0) (by decide +kernel) rfl (by decide) (by kernel_rfl) ⟨rfl, by decide, by decide⟩ ?F (fun _ _ _ _ z => z)
    intro w mg fa h Y G hmg0
    obtain ⟨K, KX, c⟩ := Y
    have hmg : mg ("law" : PySem.Str) = some (.ref fa) := by
      have e : (HandSHeadRun.topDef (OpenLaw.row PySem.Challenge.rw_evensamples_k62_arguments_by_name).prog 119).name = ("law" : PySem.Str) := by kernel_rfl
      rw [← e]
      exact hmg0
    obtain ⟨fd, hb, hF⟩ := EvH.told KX G hmg c
    exact ⟨K, [], fd, Ev.spLaw K, KX, nofun, hb, fun H a ns hl _ hS => ⟨a, ns, rfl, hS.sq, fun _ => rfl⟩, fun base a b c _ => hF base a b c⟩

import PyProof.Rows.All
import Wide.All
import OpenK.AllK
import Wide.FinOn
import HandS.ForMost
import HandS.IsInst
import HandS.TupLe
import PyProof.ReprLen
import KE.KExcLine
import HandS.Exc
import HandS.ExcOwn
import HandS.WordsExc
import KE.KExcIs
import HandS.TryOnly
import HandS.Nested
import KE.KSuper
import HandS.Codes
import HandS.More
import HandS.SortInts
import HandS.Style
import HandS.Walk
import HandS.SetFor
import HandS.WordsDict
import HandS.NoneIn
import HandS.RevRange
import HandS.Conv
import KE.RegKSuper
import PySem.Challenge.RW_makeskept_k32_halves_built
set_option Elab.async false
set_option linter.all false
set_option maxRecDepth 100000
set_option maxHeartbeats 4000000
/-! A promise of a def that is kept where nothing is being shown (no repr under way), and repr of data under it. -/
namespace Gd
open PySem PySem.Spec PyProof.Rows L2

/-- as FnOk, asked only where no repr is under way -/
structure FnG (P : Program) (w : World) (K : PySem.W.Frag) (mg : Str → Option Value) (base : Heap)
    (CX : CXT) (k : Nat) (f : Addr) (fd : FuncData) (ps : List Str) (sp : Sp) : Prop where
  arity : ∀ vs H Q E, sp vs H Q E → vs.length = ps.length
  go : ∀ (A : Around) (outer : List Env) (s : Shared) (H : Hp) (args : Args) (us : List Value) (vs : List V)
    (Q : VK) (E : XK), A.guards = some [] → Room k A → Env0 P w K mg base A outer s H →
    BindsTo s fd args (ps.zip us) → Vals vs us → sp vs H Q E →
    codeAny (model P w) A (.call (.ref f) args) (CR CX outer P w H s Q E) s

section
variable {P : Program} {w : World} {K : PySem.W.Frag} {mg : Str → Option Value} {base : Heap}
theorem FnG.low {CX : CXT} {j k : Nat} {f : Addr} {fd : FuncData} {ps : List Str} {sp : Sp}
    (F : FnG P w K mg base CX j f fd ps sp) (h : j ≤ k) : FnG P w K mg base CX k f fd ps sp :=
  ⟨F.arity, fun A o s H ar us vs Q E g r => F.go A o s H ar us vs Q E g (r.mono h)⟩
theorem FnG.ofOk {CX : CXT} {k : Nat} {f : Addr} {fd : FuncData} {ps : List Str} {sp : Sp}
    (F : FnOk P w K mg base CX k f fd ps sp) : FnG P w K mg base CX k f fd ps sp :=
  ⟨F.len, fun A o s H ar us vs Q E _ r => F.run A o s H ar us vs Q E r⟩

/-- the rule for a def, told that no repr is under way -/
theorem fnG_of {CX : CXT} {k : Nat} {f : Addr} {name qual : Str} {params : Arguments} {body : List Stmt}
    {scope : Scope} {dV kV doc pm cdv ct oc : Value} {an od : Option Addr} {osl : Array (Option Value)}
    {N ps : List Str} {sp : Sp}
    (lk : K.lookup f = some ⟨oc, od, .func (PySem.W.fnOf name qual params body scope dV kV doc pm an cdv ct), osl⟩)
    (cin : PySem.W.codeIn K cdv qual = true) (S : FnScope N ps scope)
    (ar : ∀ vs H Q E, sp vs H Q E → vs.length = ps.length)
    (bd : ∀ (A : Around) (outer : List Env) (s : Shared) (H : Hp) (vs : List V) (Q : VK) (E : XK),
      A.guards = some [] → Room k (A.deeper (envOfC qual scope s.heap.objs.size f cdv)) → sp vs H Q E →
      ∃ t, PSs (cxOf CX P w K mg base N qual scope f cdv A outer s H E) body t ∧
        t { nx := fun _ H' => Q .non H', rt := Q } (start N vs) H) :
    FnG P w K mg base CX (k + 1) f (PySem.W.fnOf name qual params body scope dV kV doc pm an cdv ct) ps sp := by
  constructor
  · exact ar
  intro A outer s H args us vs Q E hG room env bind rel prem
  have long := ar _ _ _ _ prem
  have kin : K.In s.heap := env.mod.kin.keeps fun b o z => (env.bs b o z).1
  have nl : s.heap.NoLimit := env.mod.nolimit.keeps fun b o z => (env.bs b o z).1
  have kinds : ∀ y ∈ ps.zip us, scope.names.lookup y.1 = some .local ∨
      (scope.names.lookup y.1 = some .cell ∧
        ((cellsFrom (s.heap.objs.size + 1) scope.names []).lookup y.1).isSome = true) := by
    rintro ⟨n, v⟩ hy
    cases S.par n (List.of_mem_zip hy).1 with
    | inl q => exact .inl q
    | inr q => exact .inr ⟨q, PySem.W.cellsFrom_some _ _ _ (.inl q)⟩
  apply codeAny_call_function room.depth (kin _ _ lk) rfl S.co S.gen rfl (PySem.W.codeRec_of kin cin)
  apply bind
  apply wpAny_newFunctionEnv_cells S.kind kinds
  intro en hen s1 x
  subst hen
  refine ⟨nl.keeps x.toInCall.keep, ?_⟩
  apply codeAny_func
  obtain ⟨t, der, rd⟩ := bd A outer s H vs Q E hG (room.deeper _) prem
  have J := inv_start (CX := CX) (E := E) (mg := mg) S room.hd env long rel x
  apply wpAny_mono (der.run [] s1 (start N vs) H _ J rd)
  · intro fl s' hs
    cases fl with
    | ret u =>
      obtain ⟨v, _, H', J', rv, q⟩ := hs
      exact ⟨v, H', J'.os, J'.bare, J'.base, J'.hok, rv, q⟩
    | next =>
      obtain ⟨_, H', J', q⟩ := hs
      exact ⟨.non, H', J'.os, J'.bare, J'.base, J'.hok, rfl, q⟩
    | brk =>
      obtain ⟨_, _, _, q⟩ := hs
      exact q.elim
    | cont =>
      obtain ⟨_, _, _, q⟩ := hs
      exact q.elim
  · intro e s' hs
    exact hs
theorem okG {x qual : Str} {st : Stmt} {f : Addr} {fd : FuncData} {N ps : List Str} {k : Nat} {sp : Sp}
    (F : Fun K x qual st f fd) (S : FnScope N ps (defScope st))
    (ar : ∀ vs H Q E, sp vs H Q E → vs.length = ps.length)
    (bd : ∀ (cdv : Value) (A : Around) (outer : List Env) (s : Shared) (H : Hp) (vs : List V) (Q : VK) (E : XK),
      A.guards = some [] → Room k (A.deeper (envOfC qual (defScope st) s.heap.objs.size f cdv)) → sp vs H Q E →
      ∃ t, PSs (cxOf CX0 P w K mg base N qual (defScope st) f cdv A outer s H E).nox (defBody st) t ∧
        t { nx := fun _ H' => Q .non H', rt := Q } (start N vs) H) :
    FnG P w K mg base CX0 (k + 1) f fd ps sp := by
  obtain ⟨oc, od, kV, doc, pm, an, cdv, ct, osl, rfl, lk, cin⟩ := F.ex
  apply fnG_of lk cin S ar
  intro A outer s H vs Q E hG room prem
  obtain ⟨t, der, rd⟩ := bd cdv A outer s H vs Q E hG room prem
  exact ⟨t, der.nox, rd⟩
end

section
variable {X : Cx} {CX : CXT} {k : Nat} {f : Addr} {fd : FuncData} {ps : List Str} {sp : Sp} {dvs : List V}
  {ds : List Value} {E : XK} {x : Str} {p pos : Pos} {e : Expr} {es : List Expr} {t : TA}
theorem enterG {pins : List (Addr × Obj)} {σ : L2.St} {H : Hp} {s : Shared} {Q : VK} {us : List Value} {vs : List V}
    (F : FnG X.prog X.w X.K X.mg X.base CX k f fd ps sp) (hG : X.A.guards = some []) (hr : Room k X.A)
    (hb : Binds X.K fd ps ds) (hd : Vals dvs ds) (hx : Passes CX X E) (J : Inv X pins σ H s) (rel : Vals vs us)
    (prem : sp (vs ++ dvs) H Q E) :
    wpAny (model X.prog X.w) X.A (call (.ref f) us) (EP X pins σ Q) X.xe s := by
  have rel2 : Vals (vs ++ dvs) (us ++ ds) := rel.append hd
  have long : (us ++ ds).length = ps.length := rel2.length ▸ F.arity _ _ _ _ prem
  apply wpAny_call
  apply codeAny_mono (F.go X.A X.stack s H ⟨us, []⟩ (us ++ ds) (vs ++ dvs) Q E hG hr J.env0 (hb s us J.kIn long)
    rel2 prem)
  intro r s' hq
  match r, hq with
  | .error _, hq => exact hx pins σ H s _ s' J hq
  | .ok (.ret _), hq => exact J.after hq
  | .ok .next, hq => exact hq.elim
  | .ok .brk, hq => exact hq.elim
  | .ok .cont, hq => exact hq.elim
/-- f(e, ..) of a def that keeps its promise where no repr is under way -/
theorem pe_callG (F : FnG X.prog X.w X.K X.mg X.base CX k f fd ps sp) (hG : X.A.guards = some []) (hr : Room k X.A)
    (hg : Gl X x) (hm : X.mg x = some (.ref f)) (hk : PySem.W.keepIn X.K (.ref f) = true) (hb : Binds X.K fd ps ds)
    (hd : Vals dvs ds) (hx : Passes CX X E) (ha : PA X (e :: es) t)
    (hdb : (x == ("__debug__" : Str)) = false := by decide)
    (he : starEach (e :: es) X.env = (false, eval e X.env) :: starEach es X.env := by rfl)
    (hpl : (backTo pos (starEach es X.env)).any (·.1) = false := by rfl) :
    PE X (.Call (.Name x p) (e :: es) [] pos) (tCall sp dvs E t) := by
  constructor
  intro pins s σ H Q J prem
  have arg := ha.run pos pins s σ H _ J prem
  apply wpAny_Call_Name_kw
  apply ld_glob J hg hm (hd := hdb)
  apply PySem.W.callWith_K (h₀ := X.base) J.ok.mod.kin hk (he := he) (hplain := hpl)
  apply thn arg
  rintro us s1 ⟨vs, H1, J1, rel, q⟩
  exact ⟨J1.kIn, enterG F hG hr hb hd hx J1 rel q⟩
end
end Gd
namespace Gd
open PySem PySem.Spec PyProof.Rows L2
section
variable {P : Program} {w : World} {K : PySem.W.Frag} {mg mb : Str → Option Value} {CX : CXT} {k : Nat} {fa a : Addr}
  {fd : FuncData} {x : Str} {sp : Sp} {s₁ : Shared} {vs : List Value} {ns : List Int}
/-- the law's call from one abstract heap that tracks at most the script -/
theorem callOne (kin : K.In s₁.heap) (gl : s₁.heap.Ns mainGlobals mg) (bl : s₁.heap.Ns builtinsNs mb)
    (bb : ∀ x : Str, x ≠ "__name__" → mb x = bootBuiltins x) (nl : s₁.heap.NoLimit) (gn : s₁.gens = #[])
    (at_ : s₁.heap.get? a = some { cls := .type "list", data := .seq vs.toArray }) (room : Room k callerA)
    (F : ∀ base : Heap, K.In base → base.Ns mainGlobals mg → FnG P w K mg base CX k fa fd [x] sp)
    (bind : ∀ (s : Shared) (u : Value), BindsTo s fd ⟨[u], []⟩ [(x, u)])
    (H : Hp) (only : Only H) (prem : sp [.ref a] H (fun v _ => v = .bl true) fun _ _ _ => False)
    (noX : ∀ e s', CX [] H s₁ (fun _ _ _ => False) e s' → False)
    (hok : HOk P w H s₁.heap) (here : ∀ b, H b ≠ none → b = a) (out : H a ≠ none → K.lookup a = none) :
    codeAny (model P w) callerA (.call (.ref fa) ⟨[.ref a], []⟩)
      (fun r s' => r = .ok (.ret (.bool true)) ∧ OldK s₁.heap s'.heap ∧ s'.os = s₁.os ∧ AllBare s'.gens) s₁ := by
  have free : ∀ {b : Addr} {o : Obj} {es : Array DictEntry} {ep : Nat},
      s₁.heap.get? b = some o → o.data = .dict es ep → H b = none := by
    intro b o es ep z dd
    refine Classical.byContradiction fun q => ?_
    have hb := here b q
    rw [hb, at_] at z
    injection z with z
    rw [← z] at dd
    injection dd
  have nsOf : ∀ {b : Addr} {m : Str → Option Value}, s₁.heap.Ns b m → (hidT s₁.heap H).Ns b m := by
    rintro b m ⟨o, es, ep, z, dd, r⟩
    exact ⟨o, es, ep, hidT_get z (free z dd), dd, r⟩
  have kinB : K.In (hidT s₁.heap H) := by
    intro b o z
    refine hidT_get (kin b o z) (Classical.byContradiction fun q => ?_)
    have hb := here b q
    rw [hb] at z q
    rw [out q] at z
    injection z
  have modB : Mod K mg (hidT s₁.heap H) := by
    obtain ⟨mc, l1, l2⟩ := nl
    exact ⟨kinB, nsOf gl, ⟨mb, nsOf bl, bb⟩, ⟨mc, nsOf l1, l2⟩⟩
  have env : Env0 P w K mg (hidT s₁.heap H) callerA [] s₁ H := by
    refine ⟨rfl, modB, fun b o z => of_hidT z, Nat.le_of_eq (hidT_size _ _), trivial, ?_, hok, .of_eq gn⟩
    intro b hb
    exact absurd (show b ∈ ([] : List Addr) from hb) List.not_mem_nil
  have ran := (F _ kinB (nsOf gl)).go callerA [] s₁ H ⟨[.ref a], []⟩ [.ref a] [.ref a] _ _ rfl room env
    (bind s₁ (.ref a)) (.cons rfl .nil) prem
  apply codeAny_mono ran
  intro r s' q
  match r, q with
  | .error _, q => exact (noX _ _ q).elim
  | .ok .next, q => exact q.elim
  | .ok .brk, q => exact q.elim
  | .ok .cont, q => exact q.elim
  | .ok (.ret u), q =>
    obtain ⟨v, H', os, bare, un, hok', rv, ev⟩ := q
    have ev' : v = .bl true := ev
    subst ev'
    have hu : u = Value.bool true := rv
    subst hu
    refine ⟨rfl, ?_, os, bare⟩
    apply OldK.of_keep
    intro b o z
    have nob : b ∉ ([] : List Addr) := List.not_mem_nil
    cases q : H b with
    | none => exact un.keep b o z q nob nob
    | some u =>
      cases only b with
      | inl z0 =>
        rw [q] at z0
        injection z0
      | inr z0 =>
        obtain ⟨ob, xs, z1⟩ := z0
        have y1 := (hok b _ z1).1
        have y2 := (hok' b _ (un.frzs b ob _ z1)).1
        rw [z] at y1
        injection y1 with y1
        rw [y1]
        exact y2
theorem callG (kin : K.In s₁.heap) (gl : s₁.heap.Ns mainGlobals mg) (bl : s₁.heap.Ns builtinsNs mb)
    (bb : ∀ x : Str, x ≠ "__name__" → mb x = bootBuiltins x) (nl : s₁.heap.NoLimit) (gn : s₁.gens = #[])
    (at_ : s₁.heap.get? a = some { cls := .type "list", data := .seq vs.toArray }) (hin : IntsAre vs ns)
    (short : ns.length ≤ sizeLine) (room : Room k callerA)
    (F : ∀ base : Heap, K.In base → base.Ns mainGlobals mg → FnG P w K mg base CX k fa fd [x] sp)
    (bind : ∀ (s : Shared) (u : Value), BindsTo s fd ⟨[u], []⟩ [(x, u)])
    (prem : ∀ H : Hp, Only H → SqL K H a (ns.map V.int) → sp [.ref a] H (fun v _ => v = .bl true) fun _ _ _ => False)
    (noX : ∀ H e s', CX [] H s₁ (fun _ _ _ => False) e s' → False) :
    codeAny (model P w) callerA (.call (.ref fa) ⟨[.ref a], []⟩)
      (fun r s' => r = .ok (.ret (.bool true)) ∧ OldK s₁.heap s'.heap ∧ s'.os = s₁.os ∧ AllBare s'.gens) s₁ := by
  have rv := vals_ints hin
  have lens := hin.length
  cases hk : K.lookup a with
  | some o =>
    have z := kin a o hk
    rw [at_] at z
    injection z with z
    subst z
    have only : Only (fun _ => none) := fun _ => .inl rfl
    refine callOne kin gl bl bb nl gn at_ room F bind (fun _ => none) only (prem _ only ?_) (noX _)
      (fun b u z => ?_) (fun b z => absurd rfl z) fun z => absurd rfl z
    · refine .inr ⟨_, vs.toArray, _, hk, rfl, rfl, rfl, ?_, ?_⟩
      · rw [List.size_toArray, lens]
        exact short
      · simpa using rv
    · have z' : (none : Option HO) = some u := z
      injection z'
  | none =>
    let T : HO := .frz { cls := .type "list", data := .seq vs.toArray } (.lst (ns.map V.int))
    have only : Only (fun b => if b = a then some T else none) := fun b => by
      by_cases hb : b = a
      · exact .inr ⟨_, _, if_pos hb⟩
      · exact .inl (if_neg hb)
    refine callOne kin gl bl bb nl gn at_ room F bind (fun b => if b = a then some T else none) only
      (prem _ only (.inl (.inr ⟨{ cls := .type "list", data := .seq vs.toArray }, if_pos rfl⟩))) (noX _)
      (fun b u z => ?_) (fun b z => ?_) fun _ => hk
    · by_cases hb : b = a
      · have z' : some T = some u := (if_pos hb).symm.trans z
        injection z' with z'
        subst z'
        subst hb
        refine ⟨at_, ?_, vs, _, rv, at_⟩
        rw [List.length_map]
        exact short
      · have z' : (none : Option HO) = some u := (if_neg hb).symm.trans z
        injection z'
    · refine Classical.byContradiction fun hb => z (if_neg hb)
end
/-- the goal that k_head leaves, from the law's promise under FnG -/
theorem walkG {l : PySem.W.OpenLaw} {n k : Nat} {q : Program} {loose : List Str} {XP : (Str → Option Value) → Heap → Prop}
    {YP : World → Heap → Prop} {d : DefRec} {K : Params → PySem.W.Frag} {CX : World → CXT} {sp : World → Sp} {x : Str}
    (most : l.most = some n) (line : n ≤ sizeLine) (nod : d.params.defaults = []) (room : Room k callerA)
    (kin : ∀ (w : World) (h : Heap), YP w h → (K w.params).In h)
    (F : ∀ (w : World) (mg : Str → Option Value) (fa : Addr) (h : Heap),
      (K w.params).In h → h.Ns mainGlobals mg → mg d.name = some (.ref fa) →
      ∃ fd : FuncData, (∀ (s : Shared) (u : Value), BindsTo s fd ⟨[u], []⟩ [(x, u)]) ∧
        ∀ base : Heap, (K w.params).In base → base.Ns mainGlobals mg →
          FnG l.prog w (K w.params) mg base (CX w) k fa fd [x] (sp w))
    (prem : ∀ (w : World) (H : Hp) (a : Addr) (ns : List Int), ns.length ≤ n → Only H →
      SqL (K w.params) H a (ns.map V.int) → sp w [.ref a] H (fun v _ => v = .bl true) fun _ _ _ => False)
    (noX : ∀ (w : World) (H : Hp) (s : Shared) (e : Value) (s' : Shared),
      CX w [] H s (fun _ _ _ => False) e s' → False) :
    PySem.W.WalkO q loose XP YP l.row.toRowW d [] (fun f vs => PySem.call f vs) := by
  apply Att.attach_call most nod
  intro w s₀ s₁ mg mb fa o pm cd doc a vs ns G Y ho hd hcd hmg hobj hints hlen hg
  have kx := kin w _ Y
  obtain ⟨fd, hb, hF⟩ := F w mg fa _ kx G.T.g hmg
  refine callG kx G.T.g G.T.b G.T.builtins G.T.nolimit hg hobj hints (Nat.le_trans hlen line) room hF hb ?_ ?_
  · intro H hO hS
    exact prem w H a ns hlen hO hS
  · intro H e s'
    exact noX w H s₁ e s'
end Gd
namespace Gd
open PySem PySem.Spec PyProof.Rows L2
/-- plain data, or an empty dict -/
inductive D1 (K : PySem.W.Frag) (H : Hp) : V → PyData → Prop
  | dp {v : V} {d : PyData} (h : Dp K H v d) : D1 K H v d
  | emp {a : Addr} (h : H a = some (.dK [])) : D1 K H (.ref a) (.dict [])
inductive D1s (K : PySem.W.Frag) (H : Hp) : List V → List PyData → Prop
  | nil : D1s K H [] []
  | cons {v : V} {vs : List V} {d : PyData} {ds : List PyData} : D1 K H v d → D1s K H vs ds → D1s K H (v :: vs) (d :: ds)
/-- such, or a list or a tuple of such -/
inductive D2 (K : PySem.W.Frag) (H : Hp) : V → PyData → Prop
  | d1 {v : V} {d : PyData} (h : D1 K H v d) : D2 K H v d
  | lst {a : Addr} {xs : List V} {ds : List PyData} : SqL K H a xs → D1s K H xs ds → D2 K H (.ref a) (.list ds)
  | tup {a : Addr} {xs : List V} {ds : List PyData} : SqT K H a xs → D1s K H xs ds → D2 K H (.ref a) (.tuple ds)

mutual
theorem noDict {K : PySem.W.Frag} {H : Hp} : ∀ {v : V} {d : PyData}, Dp K H v d → d.hasDict = false
  | _, _, .non => by simp only [PyData.hasDict]
  | _, _, .bl _ => by simp only [PyData.hasDict]
  | _, _, .int _ => by simp only [PyData.hasDict]
  | _, _, .str _ => by simp only [PyData.hasDict]
  | _, _, .lst _ ha => by
    simp only [PyData.hasDict]
    exact noDicts ha
  | _, _, .tup _ ha => by
    simp only [PyData.hasDict]
    exact noDicts ha
theorem noDicts {K : PySem.W.Frag} {H : Hp} : ∀ {vs : List V} {ds : List PyData}, DpAll K H vs ds → PyData.hasDictAll ds = false
  | _, _, .nil => by simp only [PyData.hasDictAll]
  | _, _, .cons h1 h2 => by simp only [PyData.hasDictAll, noDict h1, noDicts h2, Bool.or_self]
end

section
variable {X : Cx} {pins : List (Addr × Obj)} {σ : L2.St} {H : Hp} {s : Shared}
theorem D1.rd (I : Inv X pins σ H s) {v : V} {d : PyData} {u : Value} (h : D1 X.K H v d) (r : RelV v u) :
    ∃ as, Reads s.heap u d as ∧ (d.hasDict = true → sysModules ∉ as) := by
  cases h with
  | dp h =>
    obtain ⟨as, q⟩ := Dp.reads I d v u h r
    exact ⟨as, q, PyData.noDict_hsm (noDict h)⟩
  | @emp a h =>
    cases (show u = Value.ref a from r)
    obtain ⟨_, hs, vs, kv, o, es, ep, q⟩ := (show ObjOk X.prog X.w H s.heap a (.dK []) from I.hok a _ h)
    cases kv
    obtain ⟨e1, e2, e3, e4⟩ := q
    have e5 : es.toList = [] := by
      have e6 := e4.2.1
      generalize es.toList = l at e6 ⊢
      cases e6
      rfl
    refine ⟨_, Reads.dict (kvs := []) (as := []) (bs := []) e1 e2.1 e3 ?_ ?_, fun _ => ?_⟩
    · rw [e5]
      exact .nil
    · rw [e5]
      exact .nil
    · intro z
      have z' : sysModules = a := by simpa using z
      rw [← z'] at hs
      simp at hs
theorem D1s.rd (I : Inv X pins σ H s) : ∀ {vs : List V} {ds : List PyData} {us : List Value}, D1s X.K H vs ds → Vals vs us →
    ∃ as, ReadsAll s.heap us ds as
  | _, _, _, .nil, .nil => ⟨_, .nil⟩
  | _, _, _, .cons h1 h2, .cons r1 r2 => by
    obtain ⟨as, q1, _⟩ := h1.rd I r1
    obtain ⟨bs, q2⟩ := D1s.rd I h2 r2
    exact ⟨_, .cons q1 q2⟩
theorem D1.one (I : Inv X pins σ H s) {v : V} {d : PyData} {u : Value} (h : D1 X.K H v d) (r : RelV v u)
    (hs : d.showable = true) (hz : d.shown.length ≤ sizeLine) :
    ∃ bs, ReadAtMost s.heap d.depth bs ∧ ReprK X.prog X.w bs s.heap d.depth u d.shown := by
  obtain ⟨as, q, hm⟩ := h.rd I r
  exact ReprK.of_reads q hs hm hz
theorem D1s.each (I : Inv X pins σ H s) {n : Nat} : ∀ {vs : List V} {ds : List PyData} {us : List Value}, D1s X.K H vs ds → Vals vs us →
    PyData.showableAll ds = true → (∀ t ∈ PyData.shownAll ds, t.length ≤ sizeLine) → PyData.depthAll ds ≤ n →
    ∃ bs, ReadAtMost s.heap n bs ∧ ReprAllK X.prog X.w bs s.heap n us (PyData.shownAll ds)
  | _, _, _, .nil, .nil, _, _, _ => ⟨[], (fun _ z => nomatch z), by simp only [PyData.shownAll]; exact .nil⟩
  | _, _, _, .cons (d := d) (ds := ds) h1 h2, .cons r1 r2, hs, hz, hn => by
    have hs' : d.showable = true ∧ PyData.showableAll ds = true := by simpa [PyData.showableAll] using hs
    simp only [PyData.depthAll] at hn
    simp only [PyData.shownAll] at hz ⊢
    obtain ⟨b1, m1, k1⟩ := h1.one I r1 hs'.1 (hz _ List.mem_cons_self)
    obtain ⟨b2, m2, k2⟩ := D1s.each I h2 r2 hs'.2 (fun t ht => hz t (List.mem_cons_of_mem _ ht)) (by omega : PyData.depthAll ds ≤ n)
    refine ⟨b1 ++ b2, (m1.mono (by omega)).append m2, .cons ((k1.more fun b hb => List.mem_append_left _ hb).level_le (by omega)) (k2.more_le (fun b hb => List.mem_append_right _ hb) (Nat.le_refl _))⟩
end

/-- repr of such data where no repr is under way -/
def rRepr (K : PySem.W.Frag) : List V → Hp → VK → Prop := fun xs H Q => ∃ v d, xs = [v] ∧ D2 K H v d ∧ d.showable = true ∧
  d.shown.length ≤ sizeLine ∧ d.depth ≤ 60 ∧ Q (.str d.shown) H
section
variable {X : Cx}
theorem call_repr (hG : X.A.guards = some []) (hu : X.A.units + 64 < cLine) : CallR X (.builtin "repr") (rRepr X.K) := by
  intro pins s σ H xs us Q I rel h
  obtain ⟨v, d, rfl, hd, hs, hz, hdep, q⟩ := h
  obtain ⟨u, rfl, r⟩ := vals1 rel
  cases hd with
  | d1 h1 =>
    cases h1 with
    | dp hp =>
      cases hp with
      | non =>
        cases (show u = Value.none from r)
        simp only [PyData.shown] at q
        exact PySem.P.repr_of_none ⟨.str _, H, I.tok _, ⟨_, rfl⟩, q⟩
      | bl b =>
        cases (show u = Value.bool b from r)
        simp only [PyData.shown] at q
        exact PySem.P.repr_of_bool ⟨.str _, H, I.tok _, ⟨_, rfl⟩, q⟩
      | int i =>
        obtain ⟨t, rfl⟩ := (show ∃ t, u = Value.int i t from r)
        simp only [PyData.shown] at q
        exact PySem.P.repr_of_int (by simpa [PyData.showable] using hs) ⟨.str _, H, I.tok _, ⟨_, rfl⟩, q⟩
      | str x =>
        obtain ⟨t, rfl⟩ := (show ∃ t, u = Value.str x t from r)
        simp only [PyData.shown] at q hz
        exact PySem.P.repr_of_str ⟨.str _, H, I.tok _, ⟨_, rfl⟩, q⟩ hz
      | @lst a ys ds hl ha =>
        cases (show u = Value.ref a from r)
        obtain ⟨as, rd, hm⟩ := (D1.dp (.lst hl ha) : D1 X.K H (.ref a) (.list ds)).rd I rfl
        exact repr_of_reads' rd hs hm hG (by omega) (fun _ _ z => z) (fun h' u tk hk => ⟨.str _, H, I.kept hk, ⟨_, rfl⟩, q⟩) hz
      | @tup a ys ds hl ha =>
        cases (show u = Value.ref a from r)
        obtain ⟨as, rd, hm⟩ := (D1.dp (.tup hl ha) : D1 X.K H (.ref a) (.tuple ds)).rd I rfl
        exact repr_of_reads' rd hs hm hG (by omega) (fun _ _ z => z) (fun h' u tk hk => ⟨.str _, H, I.kept hk, ⟨_, rfl⟩, q⟩) hz
    | @emp a ha =>
      cases (show u = Value.ref a from r)
      obtain ⟨as, rd, hm⟩ := (D1.emp ha : D1 X.K H (.ref a) (.dict [])).rd I rfl
      exact repr_of_reads' rd hs hm hG (by omega) (fun _ _ z => z) (fun h' u tk hk => ⟨.str _, H, I.kept hk, ⟨_, rfl⟩, q⟩) hz
  | @lst a ys ds hl ha =>
    cases (show u = Value.ref a from r)
    obtain ⟨its, rv, ⟨o, n, ho, hc, _, ho2⟩, _⟩ := I.list hl
    obtain ⟨as, rda⟩ := ha.rd I rv
    have hz' : (listText (PyData.shownAll ds)).length ≤ sizeLine := by simpa only [PyData.shown] using hz
    simp only [PyData.depth] at hdep
    obtain ⟨bs, hb, hk⟩ := ha.each I rv (by simpa [PyData.showable] using hs) (fun t ht => Nat.le_trans (listText_mem_le ht) hz') (Nat.le_refl _)
    have hna : a ∉ bs := not_mem_of_deeper (.list ho hc ho2 rda) (by simp only [PyData.depth]; omega) hb
    simp only [PyData.shown] at q
    have ty : s.TypeIs (.ref a) "list" := ⟨o, ho, hc⟩
    have fin : ∀ h' u tk, (∀ b o, s.heap.get? b = some o → h'.get? b = some o) →
        EP X pins σ Q (.str (listText (PyData.shownAll ds)) u) { s with heap := h', toks := tk } :=
      fun h' u tk hk => ⟨.str _, H, I.kept hk, ⟨_, rfl⟩, q⟩
    refine call_repr_slot (by omega) ty PySem.F.slot_list_repr.toG ?_
    cases its with
    | nil =>
      cases rda
      simp only [PyData.shownAll, listText_nil] at fin
      exact call_list_repr_empty ty ho ho2 ⟨_, _, rfl, fin s.heap _ _ fun _ _ e => e⟩
    | cons x l =>
      exact call_list_reprK ho hc ho2 hna (by simpa using hk.length_eq) (fun i y e => hk.item i y (by simpa using e)) hG
        (fun b _ => Clear.nil b) (by show X.A.units + 1 + (_ + 1) < cLine; omega) (fun _ _ z => z) (fun h' u tk hk => ⟨_, _, rfl, fin h' u tk hk⟩) hz'
  | @tup a ys ds hl ha =>
    cases (show u = Value.ref a from r)
    obtain ⟨its, rv, ⟨o, ho, hc, n, ho2⟩, _⟩ := I.tuple hl
    obtain ⟨as, rda⟩ := ha.rd I rv
    have hz' : (tupleText (PyData.shownAll ds)).length ≤ sizeLine := by simpa only [PyData.shown] using hz
    simp only [PyData.depth] at hdep
    obtain ⟨bs, hb, hk⟩ := ha.each I rv (by simpa [PyData.showable] using hs) (fun t ht => Nat.le_trans (tupleText_mem_le ht) hz') (Nat.le_refl _)
    have hna : a ∉ bs := not_mem_of_deeper (.tuple ho hc ho2 rda) (by simp only [PyData.depth]; omega) hb
    simp only [PyData.shown] at q
    have ty : s.TypeIs (.ref a) "tuple" := ⟨o, ho, hc⟩
    refine call_repr_slot (by omega) ty PySem.F.slot_tuple_repr ?_
    exact call_tuple_reprK ho hc ho2 hna (by simpa using hk) hG (fun b _ => Clear.nil b) (by show X.A.units + 1 + (_ + 1) < cLine; omega) (fun _ _ z => z)
      (fun h' u tk hk => ⟨_, _, rfl, ⟨.str _, H, I.kept hk, ⟨_, rfl⟩, q⟩⟩) hz'
end
end Gd
namespace Gd
open PySem PySem.Spec PyProof.Rows L2
/-- a def of the top, with its name -/
structure DefAt (K : PySem.W.Frag) (mg : Str → Option Value) (x : Str) (st : Stmt) (ps : List Str) : Prop where
  ex : ∃ (f : Addr) (fd : FuncData), Fun K x x st f fd ∧ mg x = some (.ref f) ∧ Binds K fd ps []
/-- a def by its name, its promise kept where no repr is under way -/
structure CalG (P : Program) (w : World) (K : PySem.W.Frag) (mg : Str → Option Value) (base : Heap) (k : Nat) (x : Str) (sp : Sp) : Prop where
  ex : ∃ (f : Addr) (fd : FuncData) (ps : List Str), FnG P w K mg base CX0 k f fd ps sp ∧ mg x = some (.ref f) ∧
    PySem.W.keepIn K (.ref f) = true ∧ Binds K fd ps []
section
variable {P : Program} {w : World} {K : PySem.W.Frag} {mg : Str → Option Value} {base : Heap}
theorem DefAt.cal {x : Str} {st : Stmt} {N ps : List Str} {k : Nat} {sp : Sp} (D : DefAt K mg x st ps) (S : FnScope N ps (defScope st))
    (ar : ∀ vs H Q E, sp vs H Q E → vs.length = ps.length)
    (bd : ∀ (f : Addr) (cdv : Value) (A : Around) (outer : List Env) (s : Shared) (H : Hp) (vs : List V) (Q : VK) (E : XK),
      A.guards = some [] → Room k (A.deeper (envOfC x (defScope st) s.heap.objs.size f cdv)) → sp vs H Q E →
      ∃ t, PSs (cxOf CX0 P w K mg base N x (defScope st) f cdv A outer s H E).nox (defBody st) t ∧
        t { nx := fun _ H' => Q .non H', rt := Q } (start N vs) H) : CalG P w K mg base (k + 1) x sp := by
  obtain ⟨f, fd, F, m, b⟩ := D.ex
  exact ⟨f, fd, ps, okG F S ar (bd f), m, F.kp, b⟩
theorem DefAt.mk' {X : K.In base} {x : Str} {st : Stmt} {ps : List Str} {f : Addr} {oc : Value} {od an : Option Addr} {osl : Array (Option Value)} {kV doc pm cdv ct : Value}
    (m : mg x = some (.ref f))
    (l : K.lookup f = some ⟨oc, od, .func (PySem.W.fnOf x x (defArgs st) (defBody st) (defScope st) .none kV doc pm an cdv ct), osl⟩)
    (c : PySem.W.codeIn K cdv x = true) (k : PySem.W.keepIn K (.ref f) = true)
    (b : ∀ (kV doc pm : Value) (an : Option Addr) (cdv ct : Value) (us : List Value), us.length = ps.length →
      bindArgs (PySem.W.fnOf x x (defArgs st) (defBody st) (defScope st) .none kV doc pm an cdv ct) ⟨us, []⟩ = pure (ps.zip us)) :
    DefAt K mg x st ps := by
  have F := fun_mk (st := st) l c k
  exact ⟨f, _, F, m, F.binds b⟩
end
section
variable {X : Cx} {k : Nat} {sp : Sp} {x : Str} {p pos : Pos} {e : Expr} {es : List Expr} {t : TA}
theorem pe_g (c : CalG X.prog X.w X.K X.mg X.base k x sp) (hG : X.A.guards = some []) (hr : Room k X.A) (hg : Gl X x)
    (ha : PA X (e :: es) t) (hdb : (x == ("__debug__" : Str)) = false := by decide)
    (he : starEach (e :: es) X.env = (false, eval e X.env) :: starEach es X.env := by rfl)
    (hpl : (backTo pos (starEach es X.env)).any (·.1) = false := by rfl) :
    PE X (.Call (.Name x p) (e :: es) [] pos) (tCall sp [] E0 t) := by
  obtain ⟨f, fd, ps, F, m, kp, b⟩ := c.ex
  exact pe_callG F hG hr hg m kp b .nil pass0 ha hdb he hpl
/-- a module's constant, a whole number -/
def GInt (mg : Str → Option Value) (x : Str) (n : Int) : Prop := ∃ t, mg x = some (.int n t)
theorem pe_gi {n : Int} (hg : Gl X x) (h : GInt X.mg x n) (hd : (x == ("__debug__" : Str)) = false := by decide) : PE X (.Name x pos) (tC (.int n)) := by
  obtain ⟨t, h⟩ := h
  exact pe_glob hg h ⟨t, rfl⟩ hd
/-- a module's constant, a text -/
def GStr (mg : Str → Option Value) (x : Str) (z : Str) : Prop := ∃ t, mg x = some (.str z t)
theorem pe_gs {z : Str} (hg : Gl X x) (h : GStr X.mg x z) (hd : (x == ("__debug__" : Str)) = false := by decide) : PE X (.Name x pos) (tC (.str z)) := by
  obtain ⟨t, h⟩ := h
  exact pe_glob hg h ⟨t, rfl⟩ hd
theorem hu64 {A : Around} (hr : Room k A) : A.units + 64 < cLine := by
  have := hr.un
  omega
/-- x is True, x is False, for any x -/
def isB (x : V) (b : Bool) : Bool := match x with
  | .bl a => a == b
  | _ => false
theorem op_isB : OpR X (compareOp .Is) (fun x y H Q => ∃ b, y = .bl b ∧ Q (.bl (isB x b)) H) := by
  intro pins s σ H x y v u Q I rx ry h
  obtain ⟨b, rfl, q⟩ := h
  cases (show u = Value.bool b from ry)
  cases x with
  | non =>
    cases (show v = Value.none from rx)
    exact wpAny_is_other rfl (fun z => nomatch z) ⟨.bl false, H, I, rfl, q⟩
  | bl a =>
    cases (show v = Value.bool a from rx)
    by_cases e : a = b
    · subst e
      refine wpAny_is_self rfl ⟨.bl true, H, I, rfl, ?_⟩
      simpa [isB] using q
    · refine wpAny_is_other rfl (fun z => e (Value.bool.inj z)) ⟨.bl false, H, I, rfl, ?_⟩
      have e2 : isB (.bl a) b = false := beq_eq_false_iff_ne.mpr e
      rw [e2] at q
      exact q
  | int i =>
    obtain ⟨t, rfl⟩ := (show ∃ t, v = Value.int i t from rx)
    exact wpAny_is_other rfl (fun z => nomatch z) ⟨.bl false, H, I, rfl, q⟩
  | str i =>
    obtain ⟨t, rfl⟩ := (show ∃ t, v = Value.str i t from rx)
    exact wpAny_is_other rfl (fun z => nomatch z) ⟨.bl false, H, I, rfl, q⟩
  | byt i =>
    obtain ⟨t, rfl⟩ := (show ∃ t, v = Value.bytes i t from rx)
    exact wpAny_is_other rfl (fun z => nomatch z) ⟨.bl false, H, I, rfl, q⟩
  | flt i =>
    obtain ⟨t, rfl⟩ := (show ∃ t, v = Value.float i t from rx)
    exact wpAny_is_other rfl (fun z => nomatch z) ⟨.bl false, H, I, rfl, q⟩
  | ref i =>
    cases (show v = Value.ref i from rx)
    exact wpAny_is_other rfl (fun z => nomatch z) ⟨.bl false, H, I, rfl, q⟩
  | ty i =>
    cases (show v = Value.type i from rx)
    exact wpAny_is_other rfl (fun z => nomatch z) ⟨.bl false, H, I, rfl, q⟩
theorem op_isntB : OpR X (compareOp .IsNot) (fun x y H Q => ∃ b, y = .bl b ∧ Q (.bl (!isB x b)) H) := by
  intro pins s σ H x y v u Q I rx ry h
  obtain ⟨b, rfl, q⟩ := h
  cases (show u = Value.bool b from ry)
  cases x with
  | non =>
    cases (show v = Value.none from rx)
    exact wpAny_isNot_other rfl (fun z => nomatch z) ⟨.bl true, H, I, rfl, q⟩
  | bl a =>
    cases (show v = Value.bool a from rx)
    by_cases e : a = b
    · subst e
      refine wpAny_isNot_self rfl ⟨.bl false, H, I, rfl, ?_⟩
      simpa [isB] using q
    · refine wpAny_isNot_other rfl (fun z => e (Value.bool.inj z)) ⟨.bl true, H, I, rfl, ?_⟩
      have e2 : isB (.bl a) b = false := beq_eq_false_iff_ne.mpr e
      rw [e2] at q
      exact q
  | int i =>
    obtain ⟨t, rfl⟩ := (show ∃ t, v = Value.int i t from rx)
    exact wpAny_isNot_other rfl (fun z => nomatch z) ⟨.bl true, H, I, rfl, q⟩
  | str i =>
    obtain ⟨t, rfl⟩ := (show ∃ t, v = Value.str i t from rx)
    exact wpAny_isNot_other rfl (fun z => nomatch z) ⟨.bl true, H, I, rfl, q⟩
  | byt i =>
    obtain ⟨t, rfl⟩ := (show ∃ t, v = Value.bytes i t from rx)
    exact wpAny_isNot_other rfl (fun z => nomatch z) ⟨.bl true, H, I, rfl, q⟩
  | flt i =>
    obtain ⟨t, rfl⟩ := (show ∃ t, v = Value.float i t from rx)
    exact wpAny_isNot_other rfl (fun z => nomatch z) ⟨.bl true, H, I, rfl, q⟩
  | ref i =>
    cases (show v = Value.ref i from rx)
    exact wpAny_isNot_other rfl (fun z => nomatch z) ⟨.bl true, H, I, rfl, q⟩
  | ty i =>
    cases (show v = Value.type i from rx)
    exact wpAny_isNot_other rfl (fun z => nomatch z) ⟨.bl true, H, I, rfl, q⟩
end
/-! names of the built-ins -/
theorem boot_len_ : bootBuiltins "len" = some (.builtin "len") := by decide +kernel
theorem boot_max_ : bootBuiltins "max" = some (.builtin "max") := by decide +kernel
theorem boot_min_ : bootBuiltins "min" = some (.builtin "min") := by decide +kernel
theorem boot_abs_ : bootBuiltins "abs" = some (.builtin "abs") := by decide +kernel
theorem boot_all_ : bootBuiltins "all" = some (.builtin "all") := by decide +kernel
theorem boot_repr_ : bootBuiltins "repr" = some (.builtin "repr") := by decide +kernel
theorem boot_isinstance_ : bootBuiltins "isinstance" = some (.builtin "isinstance") := by decide +kernel
theorem boot_int_ : bootBuiltins "int" = some (.type "int") := by decide +kernel
theorem boot_bool_ : bootBuiltins "bool" = some (.type "bool") := by decide +kernel
theorem boot_str_ : bootBuiltins "str" = some (.type "str") := by decide +kernel
theorem boot_list_ : bootBuiltins "list" = some (.type "list") := by decide +kernel
theorem boot_tuple_ : bootBuiltins "tuple" = some (.type "tuple") := by decide +kernel
theorem boot_dict_ : bootBuiltins "dict" = some (.type "dict") := by decide +kernel

/-! ### the box of a cell: what is drawn of it is any number below the bound -/
def BoxAt (H : Hp) (b : Addr) : Prop := ∃ x y z : Int, 0 ≤ x ∧ 0 ≤ y ∧ y < 2147483629 ∧ H b = some (.lst [.int x, .int y, .int z])
/-- all but the box is kept -/
def Kp (b : Addr) (H H' : Hp) : Prop := ∀ c o, c ≠ b → H c = some o → H' c = some o
theorem Kp.refl {b : Addr} {H : Hp} : Kp b H H := fun _ _ _ z => z
theorem Kp.trans {b : Addr} {H H1 H2 : Hp} (h : Kp b H H1) (k : Kp b H1 H2) : Kp b H H2 := fun c o n z => k c o n (h c o n z)
theorem Kp.upd {b p : Addr} {H H' : Hp} {o : HO} (h : Kp b H H') (n : H' p = none) : Kp b H (upd H' p o) := fun c u hc z => by
  have z2 := h c u hc z
  rw [upd_ne (ne_of_none z2 n)]
  exact z2
theorem BoxAt.upd {b p : Addr} {H : Hp} {o : HO} (h : BoxAt H b) (n : H p = none) : BoxAt (L2.upd H p o) b := by
  obtain ⟨x, y, z, h1, h2, h3, h4⟩ := h
  refine ⟨x, y, z, h1, h2, h3, ?_⟩
  rw [upd_ne (ne_of_none h4 n)]
  exact h4
theorem BoxAt.ne {b p : Addr} {H : Hp} (h : BoxAt H b) (n : H p = none) : p ≠ b := by
  obtain ⟨x, y, z, _, _, _, h4⟩ := h
  exact (ne_of_none h4 n).symm
def spTake : Sp := fun vs H Q _ => ∃ (b : Addr) (m : Int), vs = [.ref b, .int m] ∧ BoxAt H b ∧ 0 < m ∧ m ≤ 1000000000 ∧
  ∀ (d : Int) (H' : Hp), 0 ≤ d → d < m → BoxAt H' b → (∀ c, c ≠ b → H' c = H c) → Q (.int d) H'
def spCell (K : PySem.W.Frag) : Sp := fun vs H Q _ => ∃ (a : Addr) (ns : List Int) (k : Int), vs = [.ref a, .int k] ∧ SqL K H a (ns.map V.int) ∧
  ns.length ≤ 63 ∧ 0 ≤ k ∧ ∀ n : Int, Q (.int n) H
def spBox : Sp := fun vs H Q _ => ∃ n : Int, vs = [.int n] ∧ ∀ (b : Addr) (H' : Hp), H b = none → BoxAt H' b → (∀ c, c ≠ b → H' c = H c) → Q (.ref b) H'
theorem kp_of {b : Addr} {H H' : Hp} (h : ∀ c, c ≠ b → H' c = H c) : Kp b H H' := fun c o n z => by
  rw [h c n]
  exact z
theorem atI_ints {ns : List Int} {k : Int} (h0 : 0 ≤ k) (h1 : k < ns.length) : ∃ n, atI (ns.map V.int) k = some (.int n) := by
  obtain ⟨j, rfl⟩ : ∃ j : Nat, k = j := ⟨k.toNat, by omega⟩
  have hj : j < ns.length := by omega
  refine ⟨ns[j], atI_nat ?_⟩
  rw [List.getElem?_map, List.getElem?_eq_getElem hj]
  rfl
end Gd
namespace Gd
open PySem PySem.Spec PyProof.Rows L2
/-! ### data by its shape -/
/-- all but what N names is kept -/
def Kq (N : Addr → Prop) (H H' : Hp) : Prop := ∀ c o, ¬ N c → H c = some o → H' c = some o
mutual
/-- the value shows the data d, laid in objects that N does not name -/
inductive Da (H : Hp) (N : Addr → Prop) : V → PyData → Prop
  | non : Da H N .non .none
  | bl (b : Bool) : Da H N (.bl b) (.bool b)
  | int (i : Int) : Da H N (.int i) (.int i)
  | str (x : Str) : Da H N (.str x) (.str x)
  | lst {a : Addr} {xs : List V} {ds : List PyData} : ¬ N a → H a = some (.lst xs) → Das H N xs ds → Da H N (.ref a) (.list ds)
  | tup {a : Addr} {xs : List V} {ds : List PyData} : ¬ N a → H a = some (.tup xs) → Das H N xs ds → Da H N (.ref a) (.tuple ds)
inductive Das (H : Hp) (N : Addr → Prop) : List V → List PyData → Prop
  | nil : Das H N [] []
  | cons {v : V} {vs : List V} {d : PyData} {ds : List PyData} : Da H N v d → Das H N vs ds → Das H N (v :: vs) (d :: ds)
end
mutual
theorem Da.kq {H H' : Hp} {N : Addr → Prop} (k : Kq N H H') : ∀ {v : V} {d : PyData}, Da H N v d → Da H' N v d
  | _, _, .non => .non
  | _, _, .bl b => .bl b
  | _, _, .int i => .int i
  | _, _, .str x => .str x
  | _, _, .lst n h s => .lst n (k _ _ n h) (Das.kq k s)
  | _, _, .tup n h s => .tup n (k _ _ n h) (Das.kq k s)
theorem Das.kq {H H' : Hp} {N : Addr → Prop} (k : Kq N H H') : ∀ {vs : List V} {ds : List PyData}, Das H N vs ds → Das H' N vs ds
  | _, _, .nil => .nil
  | _, _, .cons h s => .cons (Da.kq k h) (Das.kq k s)
end
mutual
theorem Da.wk {H : Hp} {N M : Addr → Prop} (k : ∀ a, M a → N a) : ∀ {v : V} {d : PyData}, Da H N v d → Da H M v d
  | _, _, .non => .non
  | _, _, .bl b => .bl b
  | _, _, .int i => .int i
  | _, _, .str x => .str x
  | _, _, .lst n h s => .lst (fun z => n (k _ z)) h (Das.wk k s)
  | _, _, .tup n h s => .tup (fun z => n (k _ z)) h (Das.wk k s)
theorem Das.wk {H : Hp} {N M : Addr → Prop} (k : ∀ a, M a → N a) : ∀ {vs : List V} {ds : List PyData}, Das H N vs ds → Das H M vs ds
  | _, _, .nil => .nil
  | _, _, .cons h s => .cons (Da.wk k h) (Das.wk k s)
end
mutual
theorem Da.dp {K : PySem.W.Frag} {H : Hp} {N : Addr → Prop} : ∀ {v : V} {d : PyData}, Da H N v d → Dp K H v d
  | _, _, .non => .non
  | _, _, .bl b => .bl b
  | _, _, .int i => .int i
  | _, _, .str x => .str x
  | _, _, .lst _ h s => .lst (SqL.of h) (Das.dp s)
  | _, _, .tup _ h s => .tup (SqT.of h) (Das.dp s)
theorem Das.dp {K : PySem.W.Frag} {H : Hp} {N : Addr → Prop} : ∀ {vs : List V} {ds : List PyData}, Das H N vs ds → DpAll K H vs ds
  | _, _, .nil => .nil
  | _, _, .cons h s => .cons (Da.dp h) (Das.dp s)
end
theorem Das.len {H : Hp} {N : Addr → Prop} : ∀ {vs : List V} {ds : List PyData}, Das H N vs ds → vs.length = ds.length
  | _, _, .nil => rfl
  | _, _, .cons _ s => by rw [List.length_cons, List.length_cons, s.len]
theorem Das.get {H : Hp} {N : Addr → Prop} : ∀ {vs : List V} {ds : List PyData} {i : Nat} {v : V}, Das H N vs ds → vs[i]? = some v → ∃ d, ds[i]? = some d ∧ Da H N v d
  | _, _, 0, _, .cons h _, e => ⟨_, rfl, by
      have e2 := Option.some.inj e
      subst e2
      exact h⟩
  | _, _, i + 1, v, .cons _ s, e => s.get (i := i) (v := v) e
  | _, _, i, _, .nil, e => by simp at e
theorem Das.snoc {H : Hp} {N : Addr → Prop} {v : V} {d : PyData} : ∀ {vs : List V} {ds : List PyData}, Das H N vs ds → Da H N v d → Das H N (vs ++ [v]) (ds ++ [d])
  | _, _, .nil, h => .cons h .nil
  | _, _, .cons g s, h => .cons g (s.snoc h)
theorem Das.set {H : Hp} {N : Addr → Prop} {v : V} {d : PyData} : ∀ {vs : List V} {ds : List PyData} {i : Nat}, Das H N vs ds → Da H N v d → Das H N (vs.set i v) (ds.set i d)
  | _, _, _, .nil, _ => .nil
  | _, _, 0, .cons _ s, h => .cons h s
  | _, _, _ + 1, .cons g s, h => .cons g (s.set h)

theorem same_sqT {K : PySem.W.Frag} {H H' : Hp} {a : Addr} {xs : List V} (s : Same H H') (h : SqT K H a xs) : SqT K H' a xs := by
  rcases h with h | h
  · refine .inl ?_
    rcases h with h | ⟨o, h⟩
    · exact .inl (s _ _ h)
    · exact .inr ⟨o, s _ _ h⟩
  · exact .inr h
mutual
theorem dpSame {K : PySem.W.Frag} {H H' : Hp} (s : Same H H') : ∀ {v : V} {d : PyData}, Dp K H v d → Dp K H' v d
  | _, _, .non => .non
  | _, _, .bl b => .bl b
  | _, _, .int i => .int i
  | _, _, .str x => .str x
  | _, _, .lst h r => .lst (s.seq h) (dpSames s r)
  | _, _, .tup h r => .tup (same_sqT s h) (dpSames s r)
theorem dpSames {K : PySem.W.Frag} {H H' : Hp} (s : Same H H') : ∀ {vs : List V} {ds : List PyData}, DpAll K H vs ds → DpAll K H' vs ds
  | _, _, .nil => .nil
  | _, _, .cons h r => .cons (dpSame s h) (dpSames s r)
end
theorem dpLen {K : PySem.W.Frag} {H : Hp} : ∀ {vs : List V} {ds : List PyData}, DpAll K H vs ds → vs.length = ds.length
  | _, _, .nil => rfl
  | _, _, .cons _ s => by rw [List.length_cons, List.length_cons, dpLen s]
theorem dpGet {K : PySem.W.Frag} {H : Hp} : ∀ {vs : List V} {ds : List PyData} {i : Nat} {v : V}, DpAll K H vs ds → vs[i]? = some v → ∃ d, ds[i]? = some d ∧ Dp K H v d
  | _, _, 0, _, .cons h _, e => ⟨_, rfl, by
      have e2 := Option.some.inj e
      subst e2
      exact h⟩
  | _, _, i + 1, v, .cons _ s, e => dpGet (i := i) (v := v) s e
  | _, _, i, _, .nil, e => by simp at e
theorem d1Same {K : PySem.W.Frag} {H H' : Hp} (s : Same H H') {v : V} {d : PyData} (h : D1 K H v d) : D1 K H' v d := by
  cases h with
  | dp h => exact .dp (dpSame s h)
  | emp h => exact .emp (s _ _ h)
/-! ### the class of data -/
def tyN : PyData → String
  | .none => "NoneType"
  | .bool _ => "bool"
  | .int _ => "int"
  | .str _ => "str"
  | .list _ => "list"
  | .tuple _ => "tuple"
  | .dict _ => "dict"
def isIntD : PyData → Bool
  | .bool _ => true
  | .int _ => true
  | _ => false
def isBoolD : PyData → Bool
  | .bool _ => true
  | _ => false
def isStrD : PyData → Bool
  | .str _ => true
  | _ => false
def isTupD : PyData → Bool
  | .tuple _ => true
  | _ => false
def isSeqD : PyData → Bool
  | .list _ => true
  | .tuple _ => true
  | _ => false
theorem tyL {K : PySem.W.Frag} {H : Hp} {a : Addr} {xs : List V} (h : SqL K H a xs) : TyX K H (.ref a) (.type "list") := by
  rcases h with h | ⟨o, _, _, h, hc, _⟩
  · rcases h with h | ⟨o, h⟩
    · exact .base (.lst h)
    · exact .base (.frz h)
  · exact .kList h hc
theorem tyT {K : PySem.W.Frag} {H : Hp} {a : Addr} {xs : List V} (h : SqT K H a xs) : TyX K H (.ref a) (.type "tuple") := by
  rcases h with h | ⟨o, _, _, h, hc, _⟩
  · rcases h with h | ⟨o, h⟩
    · exact .base (.tup h)
    · exact .fTuple h
  · exact .kTuple h hc
theorem tyD {K : PySem.W.Frag} {H : Hp} {v : V} {d : PyData} (h : D1 K H v d) : TyX K H v (.type (tyN d)) := by
  cases h with
  | dp h =>
    cases h with
    | non => exact .base .non
    | bl b => exact .base (.bl b)
    | int i => exact .base (.int i)
    | str x => exact .base (.str x)
    | lst h _ => exact tyL h
    | tup h _ => exact tyT h
  | emp h => exact .base (.dK h)
theorem kInt {K : PySem.W.Frag} (d : PyData) : PySem.W.kitOne K (.type (tyN d)) (.type "int") = some (isIntD d) := by
  cases d
  all_goals exact kit_ty (by simp only [tyN, isIntD]; decide +kernel)
theorem kBool {K : PySem.W.Frag} (d : PyData) : PySem.W.kitOne K (.type (tyN d)) (.type "bool") = some (isBoolD d) := by
  cases d
  all_goals exact kit_ty (by simp only [tyN, isBoolD]; decide +kernel)
theorem kStr {K : PySem.W.Frag} (d : PyData) : PySem.W.kitOne K (.type (tyN d)) (.type "str") = some (isStrD d) := by
  cases d
  all_goals exact kit_ty (by simp only [tyN, isStrD]; decide +kernel)
theorem kTup {K : PySem.W.Frag} (d : PyData) : PySem.W.kitOne K (.type (tyN d)) (.type "tuple") = some (isTupD d) := by
  cases d
  all_goals exact kit_ty (by simp only [tyN, isTupD]; decide +kernel)
theorem kLst {K : PySem.W.Frag} (d : PyData) : PySem.W.kitOne K (.type (tyN d)) (.type "list") = some (isSeqD d && !isTupD d) := by
  cases d
  all_goals exact kit_ty (by simp only [tyN, isSeqD, isTupD]; decide +kernel)
theorem kSeq {K : PySem.W.Frag} (d : PyData) : PySem.W.kitAny K (.type (tyN d)) [.type "list", .type "tuple"] = some (isSeqD d) := by
  refine kitAny_cons (kLst d) (fun z => kitAny_cons (kTup d) (fun y => ?_) fun y => ?_) fun z => ?_
  · have e : isSeqD d = false := by
      cases d
      all_goals simp_all [isSeqD, isTupD]
    rw [e]
    exact kitAny_nil
  · cases d
    all_goals simp_all [isSeqD, isTupD]
  · cases d
    all_goals simp_all [isSeqD, isTupD]
theorem clsSeq : Paired ClsV [.ty "list", .ty "tuple"] [.type "list", .type "tuple"] := .cons (.ty _) (.cons (.ty _) .nil)
/-! ### how long it is when shown -/
def Big (n : Int) : Prop := -(10 ^ 40) ≤ n ∧ n ≤ 10 ^ 40
theorem big_log {n : Int} (h : Big n) : n.natAbs.log2 < 1920 := by
  have h0 : n.natAbs < 2 ^ 1920 := by
    have h1 : n.natAbs ≤ 10 ^ 40 := by
      obtain ⟨h1, h2⟩ := h
      omega
    exact Nat.lt_of_le_of_lt h1 (by decide +kernel)
  by_cases z : n.natAbs = 0
  · rw [z]
    decide +kernel
  · exact (Nat.log2_lt z).mpr h0
/-- it may be shown, in so many signs, so deep -/
structure Okd (d : PyData) (m e : Nat) : Prop where
  sh : d.showable = true
  ln : d.shown.length ≤ m
  dp : d.depth ≤ e
theorem Okd.up {d : PyData} {m e m' e' : Nat} (h : Okd d m e) (h1 : m ≤ m') (h2 : e ≤ e') : Okd d m' e' := ⟨h.sh, Nat.le_trans h.ln h1, Nat.le_trans h.dp h2⟩
theorem okNone : Okd .none 5 0 := ⟨by simp only [PyData.showable], by simp only [PyData.shown]; decide +kernel, by simp only [PyData.depth]; decide⟩
theorem okBool (b : Bool) : Okd (.bool b) 5 0 := by
  refine ⟨by simp only [PyData.showable], ?_, by simp only [PyData.depth]; decide⟩
  cases b
  · simp only [PyData.shown]
    decide +kernel
  · simp only [PyData.shown]
    decide +kernel
theorem okInt {n : Int} (h : Big n) : Okd (.int n) 50 0 := by
  refine ⟨?_, ?_, by simp only [PyData.depth]; decide⟩
  · simp only [PyData.showable, decide_eq_true_eq]
    exact big_log h
  · simp only [PyData.shown]
    rw [PySem.ofString_length]
    have h1 : n.natAbs < 10 ^ 41 := by
      have h1 : n.natAbs ≤ 10 ^ 40 := by
        obtain ⟨h1, h2⟩ := h
        omega
      exact Nat.lt_of_le_of_lt h1 (by decide +kernel)
    exact Nat.le_trans (int_text_length_le10 (k := 41) (by decide) h1) (by decide)
theorem okStr {x : Str} {m : Nat} (h : (reprText x).length ≤ m) : Okd (.str x) m 0 :=
  ⟨by simp only [PyData.showable], by simp only [PyData.shown]; exact h, by simp only [PyData.depth]; decide⟩
theorem okEmp : Okd (.dict []) 5 1 := by
  refine ⟨by simp only [PyData.showable, PyData.showableKv], ?_, by simp only [PyData.depth, PyData.depthKv]; decide⟩
  simp only [PyData.shown, PyData.shownKv]
  decide +kernel
theorem sum_le {m : Nat} : ∀ ts : List Str, (∀ t ∈ ts, t.length ≤ m) → (ts.map (·.length)).sum ≤ m * ts.length
  | [], _ => by simp
  | t :: r, h => by
    have h1 := h t List.mem_cons_self
    have h2 := sum_le r fun x hx => h x (List.mem_cons_of_mem _ hx)
    rw [List.map_cons, List.sum_cons, List.length_cons, Nat.mul_succ]
    show t.length + _ ≤ _
    omega
theorem oks {m e : Nat} : ∀ {ds : List PyData}, (∀ d ∈ ds, Okd d m e) → PyData.showableAll ds = true ∧ (∀ t ∈ PyData.shownAll ds, t.length ≤ m) ∧ PyData.depthAll ds ≤ e ∧ (PyData.shownAll ds).length = ds.length
  | [], _ => ⟨by simp only [PyData.showableAll], by simp [PyData.shownAll], by simp only [PyData.depthAll]; exact Nat.zero_le _, by simp only [PyData.shownAll]; rfl⟩
  | d :: r, h => by
    have a := h d List.mem_cons_self
    obtain ⟨b1, b2, b3, b4⟩ := oks fun x hx => h x (List.mem_cons_of_mem _ hx)
    refine ⟨by simp only [PyData.showableAll, a.sh, b1, Bool.and_self], ?_, ?_, by simp only [PyData.shownAll, List.length_cons, b4]⟩
    · intro t ht
      simp only [PyData.shownAll, List.mem_cons] at ht
      rcases ht with rfl | ht
      · exact a.ln
      · exact b2 t ht
    · have := a.dp
      simp only [PyData.depthAll]
      omega
theorem okList {ds : List PyData} {m e n : Nat} (h : ∀ d ∈ ds, Okd d m e) (l : ds.length ≤ n) : Okd (.list ds) (m * n + 2 * n + 3) (e + 1) := by
  obtain ⟨b1, b2, b3, b4⟩ := oks h
  refine ⟨by simp only [PyData.showable, b1], ?_, by simp only [PyData.depth]; omega⟩
  simp only [PyData.shown]
  have h1 := listText_len_le (PyData.shownAll ds)
  have h2 := sum_le _ b2
  rw [b4] at h1 h2
  have h3 : m * ds.length ≤ m * n := Nat.mul_le_mul_left m l
  omega
theorem okTuple {ds : List PyData} {m e n : Nat} (h : ∀ d ∈ ds, Okd d m e) (l : ds.length ≤ n) : Okd (.tuple ds) (m * n + 2 * n + 3) (e + 1) := by
  obtain ⟨b1, b2, b3, b4⟩ := oks h
  refine ⟨by simp only [PyData.showable, b1], ?_, by simp only [PyData.depth]; omega⟩
  simp only [PyData.shown]
  have h1 := tupleText_len_le (PyData.shownAll ds)
  have h2 := sum_le _ b2
  rw [b4] at h1 h2
  have h3 : m * ds.length ≤ m * n := Nat.mul_le_mul_left m l
  omega
theorem line_le {n : Nat} (h : n ≤ 1000000) : n ≤ sizeLine := Nat.le_trans h (by decide)
theorem bLn (B : Bool) : (PyData.bool B).shown.length ≤ sizeLine := Nat.le_trans (okBool B).ln (by decide)
theorem bDp (B : Bool) : (PyData.bool B).depth ≤ 60 := Nat.le_trans (okBool B).dp (by decide)
theorem ifSame {x : V} {A B : Prop} (h : B) : if (!decide (x = x)) = true then A else B := by
  rw [decide_eq_true rfl]
  exact h
/-! ### heaps and picks -/
theorem same_new {H : Hp} {p : Addr} {o : HO} (h : H p = none) : Same H (upd H p o) := fun b x e => by
  rw [upd_ne (ne_of_none e h)]
  exact e
theorem kep {H : Hp} {p q : Addr} {o u : HO} (h : H p = some o) (n : H q = none) : (upd H q u) p = some o := by
  rw [upd_ne (ne_of_none h n)]
  exact h
theorem upd_none {H : Hp} {p q : Addr} {o : HO} (h : upd H p o q = none) : H q = none := by
  unfold upd at h
  split at h
  · cases h
  · exact h
theorem pickL (xs : List V) {k : Int} (h0 : 0 ≤ k) (h1 : k < xs.length) : ∃ v, v ∈ xs ∧ atI xs k = some v := by
  obtain ⟨j, rfl⟩ : ∃ j : Nat, k = j := ⟨k.toNat, by omega⟩
  have hj : j < xs.length := by omega
  exact ⟨xs[j], List.getElem_mem hj, atI_nat (List.getElem?_eq_getElem hj)⟩
theorem pickK (xs : List V) {k : Int} (h0 : 0 ≤ k) (h1 : k < xs.length) : ∃ v, xs[k.toNat]? = some v ∧ atI xs k = some v := by
  obtain ⟨j, rfl⟩ : ∃ j : Nat, k = j := ⟨k.toNat, by omega⟩
  have hj : j < xs.length := by omega
  exact ⟨xs[j], List.getElem?_eq_getElem hj, atI_nat (List.getElem?_eq_getElem hj)⟩
theorem boxAway {H : Hp} {b D : Addr} {o : HO} (h : BoxAt H b) (n : D ≠ b) : BoxAt (upd H D o) b := by
  obtain ⟨x, y, z, h1, h2, h3, h4⟩ := h
  refine ⟨x, y, z, h1, h2, h3, ?_⟩
  rw [upd_ne n.symm]
  exact h4
theorem boxSame {b : Addr} {H H' : Hp} (h : BoxAt H b) (s : Same H H') : BoxAt H' b := by
  obtain ⟨x, y, z, h1, h2, h3, h4⟩ := h
  exact ⟨x, y, z, h1, h2, h3, s _ _ h4⟩
theorem same_kp {b : Addr} {H H' : Hp} (s : Same H H') : Kp b H H' := fun c o _ z => s c o z
theorem same_keep {H H' H'' : Hp} {b : Addr} (s : Same H H') (n : H' b = none) (k : ∀ c o, c ≠ b → H' c = some o → H'' c = some o) : Same H H'' := fun c o z =>
  k c o (ne_of_none (s c o z) n) (s c o z)
/-- new in H, where the box is b -/
def Nw (H : Hp) (b : Addr) : Addr → Prop := fun c => c = b ∨ ∃ o, H c = some o
theorem nw_of {H H' : Hp} {b p : Addr} (k : Kp b H H') (n : H' p = none) (hb : p ≠ b) : ¬ Nw H b p := by
  rintro (h | ⟨o, h⟩)
  · exact hb h
  · rw [k p o hb h] at n
    cases n
theorem Kp.kq {b : Addr} {H H' : Hp} {N : Addr → Prop} (k : Kp b H H') (n : N b) : Kq N H H' := fun c o hc z => k c o (fun e => hc (e ▸ n)) z
theorem defAt {K : PySem.W.Frag} {mg : Str → Option Value} {x : Str} {st : Stmt} {ps : List Str} {f : Addr} {oc : Value} {od an : Option Addr} {osl : Array (Option Value)} {kV doc pm cdv ct : Value}
    (m : mg x = some (.ref f))
    (l : K.lookup f = some ⟨oc, od, .func (PySem.W.fnOf x x (defArgs st) (defBody st) (defScope st) .none kV doc pm an cdv ct), osl⟩)
    (c : PySem.W.codeIn K cdv x = true) (k : PySem.W.keepIn K (.ref f) = true)
    (b : ∀ (kV doc pm : Value) (an : Option Addr) (cdv ct : Value) (us : List Value), us.length = ps.length →
      bindArgs (PySem.W.fnOf x x (defArgs st) (defBody st) (defScope st) .none kV doc pm an cdv ct) ⟨us, []⟩ = pure (ps.zip us)) :
    DefAt K mg x st ps := by
  have F := fun_mk (st := st) l c k
  exact ⟨f, _, F, m, F.binds b⟩
end Gd
/-! An own error whose __init__ says super().__init__(a text), then keeps the one thing it is made of. -/
namespace Ge
open PySem PySem.W PySem.Calls PyProof.Rows PySem.HandSPX
def iA (p1 p2 : Pos) : Arguments := { posonlyargs := [], args := [{ arg := "self", annotation := none, pos := p1 }, { arg := "found", annotation := none, pos := p2 }], vararg := none, kwonlyargs := [], kw_defaults := [], kwarg := none, defaults := [] }
def iB (msg : Str) (kk : Nat) (p1 p2 p3 p4 p5 p6 q1 q2 q3 q4 : Pos) : List Stmt :=
  [.Expr (.Call (.Attribute (.Call (.Name "super" p1) [] [] p2) "__init__" p3) [.Constant (.str msg) kk p4] [] p5) p6,
   .Assign [.Attribute (.Name "self" q1) "found" q2] (.Name "found" q3) q4]
def iS : Scope := { kind := .function, names := [(PySem.Str.ofString "self", .local), (PySem.Str.ofString "found", .local), (PySem.Str.ofString "__class__", .free), (PySem.Str.ofString "super", .globalImplicit)], isGenerator := false, isCoroutine := false, more := [] }
/-- what the written part says of the class at C and of its __init__ at fI -/
structure ErrTxt (P : Program) (K : Frag) (C fI : Addr) (qn msg : Str) : Prop where
  cls : ∃ nm q N bs bm sn sub ab col dd k0 k1 k2 k3 k5, K.lookup C = some (excClassObj nm q C N bs bm true sn sub ab col dd k0 k1 k2 k3 k5 "ValueError.__new__") ∧ refsVE bm = true
  sa : findIn K (.ref C) "__setattr__" = some (some (.builtin "object.__setattr__"))
  ga : findIn K (.ref C) "__getattribute__" = some (some (.builtin "BaseException.__getattribute__"))
  gg : findIn K (.ref C) "__getattr__" = some none
  noN : findIn K (.ref C) "found" = some none
  iC : findIn K (.ref C) "__init__" = some (some (.ref fI))
  tC : typeIn K (.ref fI) = some (.type "function")
  kC : keepIn K (.ref C) = true
  exC : subIn K (.ref C) (.type "BaseException") = some true
  veC : subIn K (.ref C) (.type "ValueError") = some true
  tyC : typeIn K (.ref C) = some (.type "type")
  hdC : hasDictIn K C = true
  sub : mroIn K C (.ref C) = some true
  sup : ks_superIn K C C "__init__" = some (some (.builtin "ValueError.__init__"))
  op : nsIn K cStatics "thirdparty.any" = some none
  zs : nsIn K mainGlobals "super" = some none
  htop : (P.main.scope.names.lookup ("super" : Str)).isSome = false
  fn : ∃ (oc : Value) (od : Option Addr) (doc pm : Value) (an : Option Addr) (cda cc : Addr) (ct : Value) (osl : Array (Option Value)) (kk : Nat) (p1 p2 p3 p4 p5 p6 q1 q2 q3 q4 r1 r2 : Pos) (ccl cl : Value) (cdd cld : Option Addr) (vs : Array Value) (ccs csl : Array (Option Value)) (file : Str) (tf : Tok),
    K.lookup fI = some ⟨oc, od, .func (ksFn "__init__" qn (iA r1 r2) (iB msg kk p1 p2 p3 p4 p5 p6 q1 q2 q3 q4) iS .none .none doc pm an (.ref cda) ct cc), osl⟩ ∧ codeIn K (.ref cda) qn = true ∧
    K.lookup cda = some ⟨ccl, cdd, .fields vs, ccs⟩ ∧ vs[2]? = some (.str file tf) ∧ ((P.main.file : Str) == file) = true ∧
    K.lookup cc = some ⟨cl, cld, .cell (some (.ref C)), csl⟩ ∧ (p3.endLine == p5.line) = true
/-- what __init__ leaves of a fresh exception at x -/
structure InitEnd (h h' : Heap) (x C dx t1 : Addr) (v : Value) : Prop where
  keep : ∀ b o, b ≠ x → h.get? b = some o → h'.get? b = some o
  obj : h'.get? x = some { cls := .ref C, dict := some dx, data := .fields #[.ref t1, .none, .none, .none, .bool false, .none] }
  dbig : h.objs.size ≤ dx
  dne : dx ≠ x
  ns : h'.Ns1 dx (fun y => if y = "found" then some v else none)
theorem iS_nocell : ∀ y ∈ iS.names, y.2 ≠ .cell := by decide +kernel
theorem iS_loc (x v : Value) : ∀ y ∈ ([(PySem.Str.ofString "self", x), (PySem.Str.ofString "found", v)] : List (Str × Value)), iS.names.lookup y.1 = some .local := by
  intro y hy
  simp only [List.mem_cons, List.not_mem_nil, or_false] at hy
  rcases hy with rfl | rfl
  · exact (by decide +kernel : iS.names.lookup (PySem.Str.ofString "self") = some .local)
  · exact (by decide +kernel : iS.names.lookup (PySem.Str.ofString "found") = some .local)
/-- o.name(..) in a body that is known to run, the call's line told -/
theorem at_method {M : Model} {A : Around} {c : Code} {E : Value → Shared → Prop} {s : Shared} {env : Env} {o : Expr} {name : Str} {apos pos : Pos} {args : List Expr} {Q : Value → Shared → Prop}
    (hl : (apos.endLine == pos.line) = true) (hf : methodCallForm (args.length + ([] : List Keyword).length) (backTo pos (starEach args env)) (backToKw pos (keywordEach [] env)) = true)
    (h : _root_.PySem.wpAt M A c (attributeBase o name env (eval o env)) (fun ov s₁ => wpAny M A (getMethod ov name (do return (← importBound o env).getD true))
      (fun fx s₂ => wpAny M A (callWith pos fx.1 fx.2 (backTo pos (starEach args env)) (backToKw pos (keywordEach [] env))) Q E s₂) E s₁) E s) :
    _root_.PySem.wpAt M A c (eval (.Call (.Attribute o name apos) args [] pos) env) Q E s := by
  rw [arm_eval_Call]
  apply _root_.PySem.wpAt_bind
  apply _root_.PySem.wpAt_mono h
  · intro ov s₁ h₁
    apply _root_.PySem.wpAt_of_wpAny
    apply wpAny_bind
    apply wpAny_standAt
    have hp : methodCallPos true o env apos pos = pure pos := by
      unfold methodCallPos
      simp [hl]
    unfold methodCall
    rw [hf]
    apply wpAny_bind
    apply wpAny_holding
    apply wpAny_mono h₁
    · intro fx s₂ h₂
      exact wpAny_bind (wpAny_of_eq hp h₂)
    · intro _ _ z
      exact z
  · intro _ _ z
    exact z
section
variable {prog : Program} {w : World} {A : Around} {E : Value → Shared → Prop} {R : Result → Shared → Prop} {s : Shared} {K : Frag} {mg mb : Str → Option Value} {C fI : Addr} {qn msg : Str}
theorem sup_call {h : Heap} {g : Array GenState} {d : Drawn} {t : Nat} {os : OsState} {u e t0 : Addr} {one : Value} {Q : Value → Shared → Prop}
    {nm q : Str} {N : Addr} {bs bm sub : List Value} {sn : List Str} {ab : Bool} {col : Option Bool} {dd : Option Addr} {k0 k1 k2 k3 k5 : Option Value}
    (hC : h.get? C = some (excClassObj nm q C N bs bm true sn sub ab col dd k0 k1 k2 k3 k5 "ValueError.__new__")) (he : h.get? e = some (excO C t0)) (hu : h.get? u = some (kxs_mw "ValueError.__init__" e))
    (hq : ∀ h' t1, (∀ b o, b ≠ e → h.get? b = some o → h'.get? b = some o) → h'.get? e = some (excO C t1) → Q .none ⟨h', g, d, t, os⟩) :
    wpAny (model prog w) A (call (.ref u) [one]) Q E ⟨h, g, d, t, os⟩ := by
  refine wpAny_call (codeAny_of_tree (show wpAny _ (Around.in1 _) (callAny (.ref u) ⟨[one], []⟩) _ _ _ from ?_))
  have e1 : (Value.type "method-wrapper" == Value.type "method" || Value.type "method-wrapper" == Value.type "builtin_function_or_method" || Value.type "method-wrapper" == Value.type "method-wrapper") = true := by decide
  simp only [callAny]
  refine wpAny_bind (m := load u) (wpAny_load hu ?_)
  simp only [kxs_mw, e1, if_true]
  refine (KFB.if_so (by decide) (wpAny_bind (check_bound_init F.excBase_ValueError.toExcCallFacts hC he rfl ?_)))
  refine (wpAny_bind (wpAny_pure (wpAny_pure (And.intro (plainId_quiet F.excBase_ValueError.init.plain _) (codeAny_builtin F.excBase_ValueError.initEntry ?_)))))
  have lz : [one].length ≤ sizeLine := by
    rw [sizeLine_eq]
    exact (by decide : 1 ≤ 16777216)
  exact exc_init_tree (cls := .ref C) (t0 := t0) (dv := none) (c2 := .none) (c3 := .none) (b4 := .bool false) he lz (fun h₄ k₄ hx₄ _ => hq h₄ _ k₄ hx₄)
theorem err_init (T : ErrTxt prog K C fI qn msg) {x t0 : Addr} {v : Value} (X : K.In s.heap) (lim : s.heap.NoLimit) (gl : s.heap.Ns mainGlobals mg) (bl : s.heap.Ns builtinsNs mb)
    (bb : ∀ x : Str, x ≠ "__name__" → mb x = bootBuiltins x) (hx : s.heap.get? x = some (excO C t0)) (hnx : K.lookup x = none) (room : A.depth < recursionLimit)
    (hq : ∀ h' tk dx t1, InitEnd s.heap h' x C dx t1 v → R (.ok (.ret .none)) { s with heap := h', toks := tk }) :
    codeAny (model prog w) A (.call (.ref fI) ⟨[.ref x, v], []⟩) R s := by
  obtain ⟨oc, od, doc, pm, an, cda, cc, ct, osl, kk, p1, p2, p3, p4, p5, p6, q1, q2, q3, q4, r1, r2, ccl, cl, cdd, cld, vs, ccs, csl, file, tf, ho, hcd, hcode, hvs, hfile, hcell, hline⟩ := T.fn
  obtain ⟨nm, q, N, bs, bm, sn, sub, ab, col, dd, k0, k1, k2, k3, k5, hC, hbm⟩ := T.cls
  have hzs := mg_none_of X gl T.zs
  obtain ⟨hp, g, dr, tk, os⟩ := s
  refine ks_codeAny_call_defAt (binds := [("self", .ref x), ("found", v)]) room (X _ _ ho) rfl lim (codeRec_of X hcd) rfl (BindsTo.of_eq (by first | rfl | with_unfolding_all rfl)) iS_nocell (iS_loc _ _) (fun h₁ hns k₁ => ?_) rfl rfl rfl
  have X₁ : K.In h₁ := X.keeps k₁
  have hx₁ := k₁ _ _ hx
  refine ks_wpAt_execs_cons (ks_wpAt_Expr_any (at_method hline (by first | rfl | with_unfolding_all rfl) ?_))
  refine ks_wpAt_super_base rfl rfl (by decide) rfl (X₁ _ _ ho) rfl rfl rfl (X₁ _ _ hcode) rfl hvs hfile T.htop ?_
  refine ks_loadName_global rfl rfl (loadGlobal_builtin (gl.keeps k₁) hzs (bl.keeps k₁) ((bb _ (by decide +kernel)).trans (by decide +kernel : bootBuiltins "super" = some (.type "super"))) ⟨rfl, ?_⟩)
  refine wpAny_loadName_free rfl rfl rfl ⟨_, X₁ _ _ hcell, rfl⟩ ?_
  refine wpAny_loadName_local rfl rfl hns (v := .ref x) (by first | rfl | with_unfolding_all rfl) ?_
  refine ks_wpAny_isType_cls (X₁ _ _ hC) rfl ⟨rfl, ?_⟩
  refine ks_wpAny_call_super (X₁ _ _ hC) rfl hx₁ rfl (fun c e => nomatch e) (looks_mroIn X₁ T.sub) (fun h₂ e₂ k₂ => ?_)
  have X₂ : K.In h₂ := X₁.keeps k₂
  have hx₂ := k₂ _ _ hx₁
  have I₂ : InstAt h₂ x (excO C t0) C none := ⟨hx₂, rfl, rfl, trivial⟩
  have hcl : clsIn K C = some { name := nm, bases := bs, mro := .ref C :: bm, ns := N, qualname := q, hasDict := true, slotNames := sn, subclasses := sub, abstract := ab, collection := col, hasDel := false } := by
    unfold clsIn
    rw [hC]
    all_goals rfl
  have hm := T.sup
  unfold ks_superIn at hm
  rw [hcl] at hm
  have hI : Looks (model prog w) h₂ (isInstance (.ref x) (.type "ValueError")) true := I₂.type.andThen (looks_subIn X₂ T.veC)
  have hxC : x ≠ C := fun z => by
    rw [z, hC] at hnx
    cases hnx
  refine kxs_getMethod kxs_ValueError e₂ (looks_opaque X₂ T.op) (l₀ := .ref C :: bm) ?_ rfl X₂ hm hI hxC (by decide +kernel) ?_
  · exact fun A Q E s k q => wpAny_bind ((looks_clsIn X₂ hcl) A _ E s k (wpAny_pure q))
  have hu : (h₂.push (kxs_mw "ValueError.__init__" x)).get? h₂.objs.size = some (kxs_mw "ValueError.__init__" x) := Heap.get?_push_at rfl rfl
  have k₃ : ∀ b o, h₂.get? b = some o → (h₂.push (kxs_mw "ValueError.__init__" x)).get? b = some o := fun b o e => Heap.get?_push_of_some _ e
  have X₃ : K.In (h₂.push (kxs_mw "ValueError.__init__" x)) := X₂.keeps k₃
  have hx₃ := k₃ _ _ hx₂
  refine kxs_callWith (i := "ValueError.__init__") (x := x) (by rfl) (evalArgs_plain ?_)
  refine Calls.spliced_cons (Calls.Constant_str (k := kk) (pos := p4) ?_)
  refine Calls.spliced_nil ⟨hu, ?_⟩
  refine sup_call (X₃ _ _ hC) hx₃ hu (fun h₄ t1 k₄ hx₄ => ?_)
  -- self.found = found
  have X₄ : K.In h₄ := fun a o e => k₄ a o (fun z => by rw [z, hnx] at e; cases e) (X₃ a o e)
  have hLx : hp.objs.size ≠ x := Nat.ne_of_gt (Heap.lt_size hx)
  have hn₄ := hns
  obtain ⟨oL, es, ep, eL, rL⟩ := hn₄
  have hn₄ : h₄.Ns hp.objs.size _ := ⟨oL, es, ep, k₄ _ _ hLx (k₃ _ _ (k₂ _ _ eL)), rL⟩
  have big : hp.objs.size < h₄.objs.size := hn₄.lt
  show _root_.PySem.wpAt _ _ _ (execs _ _) _ _ _
  refine _root_.PySem.wpAt_of_wpAny (wpAny_execs_cons (plainObj_wpAny_Assign_Attribute ?_))
  refine wpAny_Name (wpAny_loadName_local rfl rfl hn₄ (v := v) (by first | rfl | with_unfolding_all rfl) ?_) (by decide)
  refine wpAny_Name (wpAny_loadName_local rfl rfl hn₄ (v := .ref x) (by first | rfl | with_unfolding_all rfl) ?_) (by decide)
  refine set_plain X₄ (ox := excO C t1) (od := none) ⟨hx₄, rfl, rfl, trivial⟩ T.sa ?_
  refine HandSPX.exc_osa X₄ hx₄ hcl (show refsVE (.ref C :: bm) = true from hbm) rfl T.noN (fun h₅ tk₅ dx k₅ dn dne hx₅ hn₅ => ?_)
  show wpAny _ _ (execs _ _) _ _ _
  exact wpAny_execs_nil (hq h₅ tk₅ dx t1 ⟨fun b o hb e => k₅ b o hb (k₄ b o hb (k₃ b o (k₂ b o (k₁ b o e)))), hx₅, Nat.le_trans (Nat.le_of_lt big) dn, dne, hn₅⟩)
/-- an error that was made: its own dict d holds the thing -/
structure OwnMade (h h' : Heap) (e C d : Addr) (v : Value) : Prop where
  keep : ∀ b o, h.get? b = some o → h'.get? b = some o
  new : h.objs.size ≤ e
  obj : ∃ oe vs, h'.get? e = some oe ∧ oe.cls = .ref C ∧ oe.dict = some d ∧ oe.data = .fields vs ∧ vs[1]? = some .none
  dbig : h.objs.size ≤ d
  dne : d ≠ e
  ns : h'.Ns1 d (fun y => if y = "found" then some v else none)
theorem one_size (v : Value) : [v].length ≤ sizeLine := by
  rw [sizeLine_eq]
  exact (by decide : 1 ≤ 16777216)
theorem err_made (T : ErrTxt prog K C fI qn msg) {v : Value} (X : K.In s.heap) (lim : s.heap.NoLimit) (gl : s.heap.Ns mainGlobals mg) (bl : s.heap.Ns builtinsNs mb)
    (bb : ∀ x : Str, x ≠ "__name__" → mb x = bootBuiltins x) (room : A.depth + 1 < recursionLimit)
    (hq : ∀ h' tk e d, OwnMade s.heap h' e C d v → R (.ok (.ret (.ref e))) { s with heap := h', toks := tk }) :
    codeAny (model prog w) A (.call (.ref C) ⟨[v], []⟩) R s := by
  obtain ⟨nm, q, N, bs, bm, sn, sub, ab, col, dd, k0, k1, k2, k3, k5, hC, hbm⟩ := T.cls
  obtain ⟨hp, g, dr, tk, os⟩ := s
  have k : ∀ b o, hp.get? b = some o → ((hp.push (kdv_tup [v])).push (excO C hp.objs.size)).get? b = some o := fun b o e => Heap.get?_push_of_some _ (Heap.get?_push_of_some _ e)
  have hget : ((hp.push (kdv_tup [v])).push (excO C hp.objs.size)).get? (hp.objs.size + 1) = some (excO C hp.objs.size) := by heap_get
  have hnx : K.lookup (hp.objs.size + 1) = none := by
    cases e : K.lookup (hp.objs.size + 1) with
    | none => rfl
    | some o =>
      have z : hp.get? (hp.objs.size + 1) = some o := X _ _ e
      exact absurd (Nat.lt_of_succ_lt (Heap.lt_size z)) (Nat.lt_irrefl _)
  refine HandSPX.call_own F.excBase_ValueError (fun X => refsVE_contains X bm hbm) (X _ _ hC) (looks_findIn X T.iC) (fun self => bind_fn X self T.tC) (one_size v) ?_
  refine err_init (s := ⟨(hp.push (kdv_tup [v])).push (excO C hp.objs.size), g, dr, tk, os⟩) T (X.keeps k) (lim.keeps k) (gl.keeps k) (bl.keeps k) bb hget hnx ?_ fun h' tk' dx t1 ⟨k', hx, dn, dne, hns⟩ => ?_
  · show A.depth + 1 < recursionLimit
    exact room
  · have old : ∀ b o, hp.get? b = some o → h'.get? b = some o := fun b o e => k' b o (Nat.ne_of_lt (Nat.lt_succ_of_lt (Heap.lt_size e))) (k b o e)
    have z : hp.objs.size + 1 + 1 ≤ dx := by
      first
        | (simpa only [Heap.size_push] using dn)
        | exact dn
        | (have q := dn; rw [Heap.size_push, Heap.size_push] at q; exact q)
    exact ⟨rfl, hq h' tk' (hp.objs.size + 1) dx ⟨old, Nat.le_succ _, ⟨_, _, hx, rfl, rfl, rfl, rfl⟩, Nat.le_trans (Nat.le_trans (Nat.le_succ _) (Nat.le_succ _)) z, dne, hns⟩⟩
end
end Ge
namespace Ge
open PySem PySem.Spec PyProof.Rows L2
theorem relO_f {v : V} {v' : Value} (r : RelV v v') (f : Str) : RelO (List.lookup f [(("found" : Str), v)]) (if f = "found" then some v' else none) := by
  by_cases hw : f = "found"
  · subst hw
    rw [if_pos rfl]
    have q : List.lookup ("found" : Str) [(("found" : Str), v)] = some v := by simp [List.lookup]
    rw [q]
    exact r
  · rw [if_neg hw]
    have qw : (f == ("found" : Str)) = false := by simpa using hw
    have q2 : List.lookup f [(("found" : Str), v)] = none := by simp [List.lookup, qw]
    rw [q2]
    trivial
section
variable {X : Cx} {C fI : Addr} {qn msg cn : Str}
/-- E(e) -/
def tMkE (C : Addr) (ta : TA) : L2.St → Hp → XK → Prop := fun σ H Q => ta σ H fun vs H1 => ∃ v, vs = [v] ∧ ∀ d, H1 d = none → Q (.ref C) (some d) (upd H1 d (.xd [(("found" : Str), v)]))
theorem pmk_err {a : Expr} {ta : TA} {p pos : Pos} {k : Nat} (T : ErrTxt X.prog X.K C fI qn msg) (gC : X.mg cn = some (.ref C)) (hr : Room k X.A) (ha : PA X [a] ta) (hg : Gl X cn)
    (hdb : (cn == ("__debug__" : Str)) = false := by decide)
    (he : starEach (a :: []) X.env = (false, eval a X.env) :: starEach [] X.env := by rfl) (hpl : (backTo pos (starEach [] X.env)).any (·.1) = false := by rfl) :
    PMk X (.Call (.Name cn p) [a] [] pos) (tMkE C ta) := by
  intro pins s σ H Q I h
  apply wpAny_Call_Name_kw
  apply ld_glob I hg gC (hd := hdb)
  refine PySem.W.callWith_K (h₀ := X.base) I.ok.mod.kin T.kC (thn (ha.run pos pins s σ H _ I h) ?_) he hpl
  rintro us s1 ⟨vs, H1, I1, r1, v, ev, q1⟩
  subst ev
  refine ⟨I1.kIn, ?_⟩
  cases r1 with
  | cons rv rn =>
    rename_i v' us'
    cases rn
    show wpAny _ _ (call (.ref C) [v']) _ _ _
    have hlim := I1.nolimit
    have hgl := I1.mod.glob.keeps I1.bk
    obtain ⟨mb, hbl0, hbb⟩ := I1.mod.blt
    have hbl := hbl0.keeps I1.bk
    obtain ⟨hp, g, dr, tk, os⟩ := s1
    refine wpAny_call (err_made T I1.kIn hlim hgl hbl hbb (by have := hr.dp; omega) fun h' tk' e d M => ?_)
    show MkP X pins σ Q (.ref e) ⟨h', g, dr, tk', os⟩
    obtain ⟨oe, fv, hoe, hc, hd, hdat, h1⟩ := M.obj
    have hns := M.ns
    obtain ⟨G', g1, g2⟩ := restrict h' fun b => decide (b ≠ e)
    have gk : ∀ b, b ≠ e → G'.get? b = h'.get? b := fun b hb => g1 b (decide_eq_true hb)
    have ge : G'.get? e = none := g2 e (by simp)
    have old : ∀ b o, hp.get? b = some o → G'.get? b = some o := fun b o q => (gk b (Nat.ne_of_lt (Nat.lt_of_lt_of_le (Heap.lt_size q) M.new))).trans (M.keep b o q)
    have ob : ObjOk X.prog X.w (upd H1 d (.xd [(("found" : Str), v)])) G' d (.xd [(("found" : Str), v)]) :=
      ⟨_, hns.at (fun o q => (gk d M.dne).trans q), fun f => relO_f rv f⟩
    have J : Inv X pins σ (upd H1 d (.xd [(("found" : Str), v)])) ⟨G', g, dr, tk', os⟩ := I1.laid (t' := tk') old M.dbig ob
    refine ⟨e, oe, fv, ⟨G', g, dr, tk', os⟩, _, .ref C, some d, rfl, J, fun b o q => ?_, ge, hoe, ⟨hc, hd⟩, hdat, h1, ?_, rfl, I1.bare, raises_own T.exC T.tyC, q1 d (I1.hok.fresh M.dbig)⟩
    · by_cases hb : b = e
      · have q' : G'.get? b = some o := q
        rw [hb, ge] at q'
        cases q'
      · exact (gk b hb).symm.trans q
    · rw [upd_ne (Ne.symm M.dne)]
      exact I1.hok.fresh M.new
/-- raise E(e) -/
def tRaiseE (C : Addr) (W : WX) (ta : TA) : TS := fun _ σ H => tMkE C ta σ H fun cls d H' => W cls d σ H'
theorem ps_raiseE {a : Expr} {ta : TA} {W : WX} {p pos pos2 : Pos} {k : Nat} (hc : X.calm = true) (T : ErrTxt X.prog X.K C fI qn msg) (gC : X.mg cn = some (.ref C)) (hr : Room k X.A) (tk : Takes X W) (ha : PA X [a] ta) (hg : Gl X cn)
    (hdb : (cn == ("__debug__" : Str)) = false := by decide)
    (he : starEach (a :: []) X.env = (false, eval a X.env) :: starEach [] X.env := by rfl) (hpl : (backTo pos (starEach [] X.env)).any (·.1) = false := by rfl) :
    PS X (.Raise (some (.Call (.Name cn p) [a] [] pos)) none pos2) (tRaiseE C W ta) := ps_raise hc tk (pmk_err T gC hr ha hg hdb he hpl)
/-- e.found, e the exception that the suite holds (at a; its class cls, its dict d) -/
def tFound (C : Addr) (a : Addr) (cls : Value) (d : Option Addr) (te : TE) : TE := fun σ H Q => te σ H fun x H1 => x = .ref a ∧ cls = .ref C ∧ ∃ (dd : Addr) (v : V), d = some dd ∧ H1 dd = some (.xd [(("found" : Str), v)]) ∧ Q v H1
theorem pe_found {a : Addr} {oe : Obj} {cls : Value} {d : Option Addr} {pn : List (Addr × Obj)} {e : Expr} {te : TE} {pos : Pos} (T : ErrTxt X.prog X.K C fI qn msg) (hz : Zc cls d oe) (hf : ∃ vs, oe.data = .fields vs) (he : PE (X.suite a ((a, oe) :: pn)) e te)
    (hb : attributeBase e "found" X.env (eval e X.env) = eval e X.env := by rfl) :
    PE (X.suite a ((a, oe) :: pn)) (.Attribute e "found" pos) (tFound C a cls d te) := by
  constructor
  intro pins s σ H Q I h
  refine attr_of hb (thn (he.run pins s σ H _ I h) ?_)
  rintro u s1 ⟨x, H1, I1, rx, ex, ec, dd, v, ed, ea, q⟩
  subst ex
  obtain rfl : u = Value.ref a := rx
  subst ec
  subst ed
  have ha := (I1.pin (a, oe) (List.mem_append_left _ List.mem_cons_self)).1
  obtain ⟨vs, hd⟩ := hf
  have hx : ObjOk X.prog X.w H1 s1.heap dd (.xd [(("found" : Str), v)]) := I1.hok dd _ ea
  obtain ⟨mA, hns, hr⟩ := hx
  obtain ⟨od, ho, hl⟩ := lookIn_ns hns
  have l : List.lookup ("found" : Str) [(("found" : Str), v)] = some v := by simp [List.lookup]
  obtain ⟨u, hu, ru⟩ := RelO.some_of (v := v) (o := mA "found") (by rw [← l]; exact hr "found")
  have J : PySem.W.InstAt s1.heap a oe C (some od) := by
    refine ⟨ha, hz.1, ?_, by rw [hz.2]; exact ho⟩
    unfold PySem.W.notCls
    rw [hd]
    all_goals rfl
  exact HandSPX.exc_get I1.kIn J T.ga T.gg T.exC (PySem.W.findObj_own T.hdC T.noN rfl (by rw [hl, hu])) (handed_of ru) ⟨v, H1, I1.tok _, ru, q⟩
/-- what a class of errors must say so that isinstance asks it -/
structure IsTxt (K : PySem.W.Frag) (C : Addr) : Prop where
  ha : PySem.W.findIn K (.ref C) "__class__" = some (some (.builtin "object.__class__"))
  hn : PySem.W.specialIn K (.builtin "object.__class__") "__get__" = some (some (.builtin "getset_descriptor.__get__"))
  ht : PySem.W.takesIn K (.builtin "object.__class__") = some true
  hm : PySem.W.mroIn K C (.type "object") = some true
/-- isinstance(e, c), e the exception that the suite holds, with its own dict -/
def rIsF (K : PySem.W.Frag) (C a : Addr) (cls : Value) (d : Option Addr) : List V → Hp → VK → Prop := fun xs H Q => ∃ (c : V) (cv : Value) (b : Bool) (dd : Addr) (v : V), xs = [.ref a, c] ∧ cls = .ref C ∧ d = some dd ∧
  H dd = some (.xd [(("found" : Str), v)]) ∧ ClsV c cv ∧ PySem.W.kitOne K (.ref C) cv = some b ∧ Q (.bl b) H
theorem call_isF {a : Addr} {oe : Obj} {cls : Value} {d : Option Addr} {pn : List (Addr × Obj)} (T : ErrTxt X.prog X.K C fI qn msg) (S : IsTxt X.K C) (hz : Zc cls d oe) (hf : ∃ vs, oe.data = .fields vs) :
    CallR (X.suite a ((a, oe) :: pn)) (.builtin "isinstance") (rIsF X.K C a cls d) := by
  intro pins s σ H xs us Q I r h
  obtain ⟨c, cv, b, dd, v, rfl, rfl, rfl, ea, hcv, e, q⟩ := h
  obtain ⟨u1, u2, rfl, r1, r2⟩ := vals2 r
  cases (show u1 = Value.ref a from r1)
  have e2 := hcv.eq r2
  subst e2
  have ha := (I.pin (a, oe) (List.mem_append_left _ List.mem_cons_self)).1
  obtain ⟨vs, hd⟩ := hf
  have hx : ObjOk X.prog X.w H s.heap dd (.xd [(("found" : Str), v)]) := I.hok dd _ ea
  obtain ⟨mA, hns, _⟩ := hx
  obtain ⟨od, ho, _⟩ := lookIn_ns hns
  have J : PySem.W.InstAt s.heap a oe C (some od) := by
    refine ⟨ha, hz.1, ?_, by rw [hz.2]; exact ho⟩
    unfold PySem.W.notCls
    rw [hd]
    all_goals rfl
  have hcl : (PySem.W.clsIn X.K C).isSome = true := by
    obtain ⟨cd, hc, _⟩ := PySem.W.any_some T.hdC
    rw [hc]
    rfl
  exact PySem.W.kia_one (PySem.W.kitx_exc hcl T.ga T.gg T.exC S.ha S.hn S.ht S.hm) I.kIn J e (fun z => nomatch z) fun tk => ⟨.bl b, H, I.kept (t' := tk) fun _ _ z => z, rfl, q⟩
end
end Ge
/-! Defs that raise, their promise kept where no repr is under way. -/
namespace Gd
open PySem PySem.Spec PyProof.Rows L2
structure CalX (P : Program) (w : World) (K : PySem.W.Frag) (mg : Str → Option Value) (base : Heap) (k : Nat) (x : Str) (sp : Sp) : Prop where
  ex : ∃ (f : Addr) (fd : FuncData) (ps : List Str), FnG P w K mg base (L2.CX P w) k f fd ps sp ∧ mg x = some (.ref f) ∧
    PySem.W.keepIn K (.ref f) = true ∧ Binds K fd ps []
section
variable {P : Program} {w : World} {K : PySem.W.Frag} {mg : Str → Option Value} {base : Heap}
theorem okGX {x qual : Str} {st : Stmt} {f : Addr} {fd : FuncData} {N ps : List Str} {k : Nat} {sp : Sp}
    (F : Fun K x qual st f fd) (S : FnScope N ps (defScope st))
    (ar : ∀ vs H Q E, sp vs H Q E → vs.length = ps.length)
    (bd : ∀ (cdv : Value) (A : Around) (outer : List Env) (s : Shared) (H : Hp) (vs : List V) (Q : VK) (E : XK),
      A.guards = some [] → Room k (A.deeper (envOfC qual (defScope st) s.heap.objs.size f cdv)) → sp vs H Q E →
      ∃ t, PSs (cxOf (L2.CX P w) P w K mg base N qual (defScope st) f cdv A outer s H E) (defBody st) t ∧
        t { nx := fun _ H' => Q .non H', rt := Q } (start N vs) H) :
    FnG P w K mg base (L2.CX P w) (k + 1) f fd ps sp := by
  obtain ⟨oc, od, kV, doc, pm, an, cdv, ct, osl, rfl, lk, cin⟩ := F.ex
  exact fnG_of lk cin S ar fun A outer s H vs Q E hG room prem => bd cdv A outer s H vs Q E hG room prem
theorem DefAt.calX {x : Str} {st : Stmt} {N ps : List Str} {k : Nat} {sp : Sp} (D : DefAt K mg x st ps) (S : FnScope N ps (defScope st))
    (ar : ∀ vs H Q E, sp vs H Q E → vs.length = ps.length)
    (bd : ∀ (f : Addr) (cdv : Value) (A : Around) (outer : List Env) (s : Shared) (H : Hp) (vs : List V) (Q : VK) (E : XK),
      A.guards = some [] → Room k (A.deeper (envOfC x (defScope st) s.heap.objs.size f cdv)) → sp vs H Q E →
      ∃ t, PSs (cxOf (L2.CX P w) P w K mg base N x (defScope st) f cdv A outer s H E) (defBody st) t ∧
        t { nx := fun _ H' => Q .non H', rt := Q } (start N vs) H) : CalX P w K mg base (k + 1) x sp := by
  obtain ⟨f, fd, F, m, b⟩ := D.ex
  exact ⟨f, fd, ps, okGX F S ar (bd f), m, F.kp, b⟩
end
section
variable {X : Cx} {k : Nat} {sp : Sp} {x : Str} {p pos : Pos} {e : Expr} {es : List Expr} {t : TA} {E : L2.St → XK}
theorem enterX {CX : CXT} {f : Addr} {fd : FuncData} {ps : List Str} {pins : List (Addr × Obj)} {σ : L2.St} {H : Hp} {s : Shared} {Q : VK} {us : List Value} {vs : List V} (F : FnG X.prog X.w X.K X.mg X.base CX k f fd ps sp) (hG : X.A.guards = some []) (hr : Room k X.A) (hb : Binds X.K fd ps []) (hx : PassesAt CX X σ (E σ))
    (I : Inv X pins σ H s) (r : Vals vs us) (h : sp vs H Q (E σ)) : wpAny (model X.prog X.w) X.A (call (.ref f) us) (EP X pins σ Q) X.xe s := by
  have hl : us.length = ps.length := r.length ▸ F.arity _ _ _ _ h
  have b := hb s us I.kIn (by rw [List.append_nil]; exact hl)
  rw [List.append_nil] at b
  apply wpAny_call
  apply codeAny_mono (F.go X.A X.stack s H ⟨us, []⟩ us vs Q (E σ) hG hr I.env0 b r h)
  intro r s' hq
  match r, hq with
  | .error e, hq => exact hx pins H s e s' I hq
  | .ok (.ret u), hq => exact I.after hq
  | .ok .next, hq => exact hq.elim
  | .ok .brk, hq => exact hq.elim
  | .ok .cont, hq => exact hq.elim
/-- f(e, ..) of a def that may raise, its promise kept where no repr is under way -/
theorem pe_gx {W : WX} (c : CalX X.prog X.w X.K X.mg X.base k x sp) (hG : X.A.guards = some []) (hr : Room k X.A) (hg : Gl X x) (tk : Takes X W)
    (ha : PA X (e :: es) t) (hdb : (x == ("__debug__" : Str)) = false := by decide)
    (he : starEach (e :: es) X.env = (false, eval e X.env) :: starEach es X.env := by rfl)
    (hpl : (backTo pos (starEach es X.env)).any (·.1) = false := by rfl) :
    PE X (.Call (.Name x p) (e :: es) [] pos) (tCallS sp (WE W) t) := by
  obtain ⟨f, fd, ps, F, m, kp, b⟩ := c.ex
  constructor
  intro pins s σ H Q J prem
  have arg := ha.run pos pins s σ H _ J prem
  apply wpAny_Call_Name_kw
  apply ld_glob J hg m (hd := hdb)
  apply PySem.W.callWith_K (h₀ := X.base) J.ok.mod.kin kp (he := he) (hplain := hpl)
  apply thn arg
  rintro us s1 ⟨vs, H1, J1, rel, q⟩
  exact ⟨J1.kIn, enterX (E := WE W) F hG hr b (passAt tk σ) J1 rel q⟩
/-- the same, where it raises nothing -/
theorem pe_gN (c : CalX X.prog X.w X.K X.mg X.base k x sp) (hG : X.A.guards = some []) (hr : Room k X.A) (hg : Gl X x)
    (ha : PA X (e :: es) t) (hdb : (x == ("__debug__" : Str)) = false := by decide)
    (he : starEach (e :: es) X.env = (false, eval e X.env) :: starEach es X.env := by rfl)
    (hpl : (backTo pos (starEach es X.env)).any (·.1) = false := by rfl) :
    PE X (.Call (.Name x p) (e :: es) [] pos) (tCall sp [] E0 t) := by
  obtain ⟨f, fd, ps, F, m, kp, b⟩ := c.ex
  exact pe_callG F hG hr hg m kp b .nil passL ha hdb he hpl
end
end Gd
/-! A method whose body begins with a call of super().m(..), an own class's, the method that it finds a def that keeps its promise. -/
namespace Gs
open PySem PySem.Spec PyProof.Rows L2 Gd NdefX
open PySem.Calls
open PySem.W (Frag ksFn ks_superIn ks_loadName_global looks_mroIn looks_opaque looks_clsIn clsIn)
/-- what the written part says of the def F at f, of class D, and of super().m in it, g above D as seen from C -/
structure SupTxt (P : Program) (K : Frag) (C D f g cc : Addr) (F : NF) (m : Str) : Prop where
  fn : ∃ (oc : Value) (od : Option Addr) (doc pm : Value) (an : Option Addr) (ct : Value) (osl : Array (Option Value)),
    K.lookup f = some ⟨oc, od, .func (ksFn F.name F.qual F.params F.body F.scope .none .none doc pm an (.ref F.c) ct cc), osl⟩
  cl : F.cl = [(("__class__" : Str), cc)]
  code : PySem.W.codeIn K (.ref F.c) F.qual = true
  cod : ∃ (ccl : Value) (cdd : Option Addr) (vs : Array Value) (ccs : Array (Option Value)) (file : Str) (tf : Tok),
    K.lookup F.c = some ⟨ccl, cdd, .fields vs, ccs⟩ ∧ vs[2]? = some (.str file tf) ∧ ((P.main.file : Str) == file) = true
  cell : ∃ (cv : Value) (cd : Option Addr) (csl : Array (Option Value)), K.lookup cc = some ⟨cv, cd, .cell (some (.ref D)), csl⟩
  isD : ∃ cd, clsIn K D = some cd
  sub : PySem.W.mroIn K C (.ref D) = some true
  sup : ks_superIn K C D m = some (some (.ref g))
  ty : PySem.W.typeIn K (.ref g) = some (.type "function")
  fg : PySem.W.fnIn K g = true
  op : PySem.W.nsIn K cStatics "thirdparty.any" = some none
  zs : PySem.W.nsIn K mainGlobals "super" = some none
  htop : (P.main.scope.names.lookup ("super" : Str)).isSome = false
  hm : (m == ("__class__" : Str)) = false
  hks : F.scope.names.lookup ("super" : Str) = some .globalImplicit
  hkc : F.scope.names.lookup ("__class__" : Str) = some .free
  hself : F.scope.names.lookup ("self" : Str) = some .local
  arg : ∃ ar, (F.params.posonlyargs ++ F.params.args).head? = some ar ∧ ar.arg = "self"
section
variable {CX : CXT} {P : Program} {w : World} {K : Frag} {mg : Str → Option Value} {base : Heap} {N : List Str} {F : NF} {f g C D cc : Addr} {A : Around} {outer : List Env} {s0 : Shared} {H0 : Hp} {E0 : XK} {m : Str}
theorem at_super {body : List Stmt} {p0 p1 apos pos : Pos} {args : List Expr} {s : Shared} {pins : List (Addr × Obj)} {σ : L2.St} {H : Hp} {x dx : Addr} {fs : List (Str × V)} {Q : Value → Shared → Prop}
    (T : SupTxt P K C D f g cc F m) (hline : (apos.endLine == pos.line) = true)
    (hform : methodCallForm (args.length + ([] : List Keyword).length) (backTo pos (starEach args (envF F f s0.heap.objs.size))) (backToKw pos (keywordEach [] (envF F f s0.heap.objs.size))) = true)
    (I : Inv (ncx CX P w K mg base N F f A outer s0 H0 E0) pins σ H s) (hN : N[0]? = some ("self" : Str)) (hσ : σ[0]? = some (some (.ref x))) (hx : H x = some (.ins C dx fs))
    (h : ∀ (q : Addr) (s' : Shared), Inv (ncx CX P w K mg base N F f A outer s0 H0 E0) (pins ++ [(q, PySem.W.methodObj (.ref g) (.ref x))]) σ H s' →
      wpAny (model P w) (ncx CX P w K mg base N F f A outer s0 H0 E0).A (callWith pos (.ref q) [] (backTo pos (starEach args (envF F f s0.heap.objs.size))) (backToKw pos (keywordEach [] (envF F f s0.heap.objs.size)))) Q (ncx CX P w K mg base N F f A outer s0 H0 E0).xe s') :
    _root_.PySem.wpAt (model P w) (ncx CX P w K mg base N F f A outer s0 H0 E0).A (.func body (envF F f s0.heap.objs.size))
      (eval (.Call (.Attribute (.Call (.Name "super" p0) [] [] p1) m apos) args [] pos) (envF F f s0.heap.objs.size)) Q (ncx CX P w K mg base N F f A outer s0 H0 E0).xe s := by
  obtain ⟨oc, od, doc, pm, an, ct, osl, hf⟩ := T.fn
  obtain ⟨ccl, cdd, vs, ccs, file, tf, hcode, hvs, hfile⟩ := T.cod
  obtain ⟨cv, cd0, csl, hcell⟩ := T.cell
  obtain ⟨ar, harg, hself⟩ := T.arg
  obtain ⟨cdD, hD⟩ := T.isD
  have X := I.kIn
  obtain ⟨mb, hbl0, hbb⟩ := I.mod.blt
  have hgl := I.mod.glob.keeps I.bk
  have hbl := hbl0.keeps I.bk
  have hzs := PySem.W.mg_none_of I.mod.kin I.mod.glob T.zs
  obtain ⟨mA, O, _⟩ := ins_get I.hok hx
  obtain ⟨ml, hns, look⟩ := I.loc
  refine Ge.at_method hline hform ?_
  refine ks_wpAt_super_base T.hks T.hkc T.hm rfl (X _ _ hf) rfl harg rfl (X _ _ hcode) rfl hvs hfile T.htop ?_
  refine ks_loadName_global I.ok.kind T.hks (loadGlobal_builtin hgl hzs hbl ((hbb _ (by decide +kernel)).trans (by decide +kernel : bootBuiltins "super" = some (.type "super"))) ⟨rfl, ?_⟩)
  refine wpAny_loadName_free I.ok.kind T.hkc (by show F.cl.lookup _ = _; rw [T.cl]; rfl) ⟨_, X _ _ hcell, rfl⟩ ?_
  have eS : (ncx CX P w K mg base N F f A outer s0 H0 E0).env.scope.names.lookup ("self" : Str) = some .local := T.hself
  obtain ⟨u, ru, lk⟩ := look 0 ("self" : Str) (.ref x) hN hσ (.inl eS)
  have hml : ml ("self" : Str) = some (.ref x) := by
    rcases lk with ⟨_, z⟩ | ⟨z, _⟩
    · rw [z]
      exact congrArg some ru
    · rcases z with z | z
      · have : some NameKind.local = some NameKind.cell := eS.symm.trans z
        cases this
      · have : some NameKind.local = some NameKind.free := eS.symm.trans z
        cases this
  refine wpAny_loadName_local I.ok.kind (by rw [hself]; exact T.hself) hns (v := .ref x) (by rw [hself]; exact hml) ?_
  obtain ⟨oD, hD1, hD2⟩ : ∃ oD, s.heap.get? D = some oD ∧ oD.data = .cls cdD := by
    unfold clsIn at hD
    split at hD
    · rename_i c d cd' sl ho
      cases hD
      exact ⟨_, X _ _ ho, rfl⟩
    · cases hD
  refine ks_wpAny_isType_cls hD1 hD2 ⟨rfl, ?_⟩
  obtain ⟨hp, gs, dr, tk, os⟩ := s
  refine ks_wpAny_call_super hD1 hD2 O.obj rfl (fun c e => nomatch e) (looks_mroIn X T.sub) (fun h₂ e₂ k₂ => ?_)
  have J2 : Inv (ncx CX P w K mg base N F f A outer s0 H0 E0) pins σ H ⟨h₂, gs, dr, tk, os⟩ := I.kept (t' := tk) k₂
  have X₂ := J2.kIn
  have hsup := T.sup
  cases hc : clsIn K C with
  | none =>
    unfold ks_superIn at hsup
    rw [hc] at hsup
    cases hsup
  | some cd =>
    unfold ks_superIn at hsup
    rw [hc] at hsup
    obtain ⟨of, hof, hofc⟩ : ∃ of, h₂.get? g = some of ∧ of.cls = .type "function" := by
      have ht := T.ty
      have ht' : (K.lookup g).map (·.cls) = some (.type "function") := ht
      cases z : K.lookup g with
      | none =>
        rw [z] at ht'
        cases ht'
      | some of =>
        rw [z] at ht'
        exact ⟨of, X₂ _ _ z, Option.some.inj ht'⟩
    have hxC : x ≠ C := fun e => by
      unfold clsIn at hc
      cases z : K.lookup C with
      | none =>
        rw [z] at hc
        cases hc
      | some oC =>
        have hb := I.mod.kin _ _ z
        have := (I.bs C oC hb).2
        rw [← e, hx] at this
        cases this
    refine ks_wpAny_getMethod_super e₂ (looks_opaque X₂ T.op) (l₀ := cd.mro) ?_ rfl X₂ hsup hof hofc hxC T.hm ?_
    · exact fun A Q E s k q => wpAny_bind ((looks_clsIn X₂ hc) A _ E s k (wpAny_pure q))
    · have k₃ : ∀ b o, h₂.get? b = some o → (h₂.push (PySem.W.methodObj (.ref g) (.ref x))).get? b = some o := fun b o e => Heap.get?_push_of_some _ e
      have J3 : Inv (ncx CX P w K mg base N F f A outer s0 H0 E0) pins σ H ⟨h₂.push (PySem.W.methodObj (.ref g) (.ref x)), gs, dr, tk + 1, os⟩ := J2.kept (t' := tk + 1) k₃
      refine h h₂.objs.size _ (J3.pins_of fun p hp => ?_)
      rcases List.mem_append.mp hp with hp | hp
      · exact J3.pin p (List.mem_append_right _ hp)
      · rw [List.mem_singleton.mp hp]
        refine ⟨Heap.get?_push_at rfl rfl, J2.hok.fresh (Nat.le_refl _), Nat.ne_of_gt J2.lt, J2.nofs (Nat.le_refl _), fun v e => nomatch e⟩
/-- a call of the found method, its self bound -/
theorem run_bound {X : Cx} {CX2 : CXT} {k : Nat} {g q x : Addr} {fd : FuncData} {ps : List Str} {sp : Sp} {E : XK} {pins : List (Addr × Obj)} {σ : L2.St} {H : Hp} {s : Shared} {Q : VK} {us : List Value} {vs : List V}
    (G : FnOk X.prog X.w X.K X.mg X.base CX2 k g fd ps sp) (hr : Room k X.A) (hb : Binds X.K fd ps []) (hx : Passes CX2 X E) (I : Inv X pins σ H s)
    (hq : s.heap.get? q = some (PySem.W.methodObj (.ref g) (.ref x))) (r : Vals vs us) (h : sp (.ref x :: vs) H Q E) :
    wpAny (model X.prog X.w) X.A (call (.ref q) us) (EP X pins σ Q) X.xe s := by
  have r2 : Vals (.ref x :: vs) (.ref x :: us) := .cons rfl r
  have long : (Value.ref x :: us).length = ps.length := r2.length ▸ G.len _ _ _ _ h
  have b := hb s (.ref x :: us) I.kIn (by rw [List.append_nil]; exact long)
  rw [List.append_nil] at b
  apply wpAny_call
  apply ks_codeAny_call_bound hq
  apply codeAny_mono (G.run X.A X.stack s H ⟨.ref x :: us, []⟩ (.ref x :: us) (.ref x :: vs) Q E hr I.env0 b r2 h)
  intro r s' hs
  match r, hs with
  | .error _, hs => exact hx pins σ H s _ s' I hs
  | .ok (.ret _), hs => exact I.after hs
  | .ok .next, hs => exact hs.elim
  | .ok .brk, hs => exact hs.elim
  | .ok .cont, hs => exact hs.elim
/-- super().m(e, ..) as a value -/
theorem eval_super {CX2 : CXT} {k : Nat} {fd : FuncData} {ps : List Str} {sp : Sp} {E : XK} {body : List Stmt} {p0 p1 apos pos : Pos} {e : Expr} {es : List Expr} {ta : TA} {s : Shared} {pins : List (Addr × Obj)} {σ : L2.St} {H : Hp} {x dx : Addr} {fs : List (Str × V)} {Q : VK}
    (T : SupTxt P K C D f g cc F m) (hline : (apos.endLine == pos.line) = true)
    (hform : methodCallForm ((e :: es).length + ([] : List Keyword).length) (backTo pos (starEach (e :: es) (envF F f s0.heap.objs.size))) (backToKw pos (keywordEach [] (envF F f s0.heap.objs.size))) = true)
    (I : Inv (ncx CX P w K mg base N F f A outer s0 H0 E0) pins σ H s) (hN : N[0]? = some ("self" : Str)) (hσ : σ[0]? = some (some (.ref x))) (hx : H x = some (.ins C dx fs))
    (G : FnOk P w K mg base CX2 k g fd ps sp) (hr : Room k (ncx CX P w K mg base N F f A outer s0 H0 E0).A) (hb : Binds K fd ps []) (hp : Passes CX2 (ncx CX P w K mg base N F f A outer s0 H0 E0) E)
    (ha : PA (ncx CX P w K mg base N F f A outer s0 H0 E0) (e :: es) ta)
    (he : starEach (e :: es) (envF F f s0.heap.objs.size) = (false, eval e (envF F f s0.heap.objs.size)) :: starEach es (envF F f s0.heap.objs.size))
    (hpl : (backTo pos (starEach es (envF F f s0.heap.objs.size))).any (·.1) = false)
    (h : ta σ H fun vs H1 => sp (.ref x :: vs) H1 Q E) :
    _root_.PySem.wpAt (model P w) (ncx CX P w K mg base N F f A outer s0 H0 E0).A (.func body (envF F f s0.heap.objs.size))
      (eval (.Call (.Attribute (.Call (.Name "super" p0) [] [] p1) m apos) (e :: es) [] pos) (envF F f s0.heap.objs.size)) (EP (ncx CX P w K mg base N F f A outer s0 H0 E0) pins σ Q) (ncx CX P w K mg base N F f A outer s0 H0 E0).xe s := by
  refine at_super T hline hform I hN hσ hx fun q s' J => ?_
  have run := ha.run pos _ s' σ H _ J h
  rw [show starEach (e :: es) (envF F f s0.heap.objs.size) = _ from he]
  rw [show starEach (e :: es) (ncx CX P w K mg base N F f A outer s0 H0 E0).env = _ from he] at run
  apply PySem.W.callWith_of (P := PySem.W.MethP K q g (.ref x)) (by show ((false || (backTo pos (starEach es _)).any (·.1)) || false) = false; rw [hpl]; rfl) (PySem.W.keeps_M T.fg)
  apply evalArgs_plain
  apply thn run
  rintro us s1 ⟨vs, H1, J1, rel, q1⟩
  have hq := (J1.pin (q, PySem.W.methodObj (.ref g) (.ref x)) (List.mem_append_right _ (List.mem_append_right _ List.mem_cons_self))).1
  refine ⟨⟨hq, J1.kIn⟩, ?_⟩
  refine wpAny_mono (run_bound (pins := pins ++ [(q, PySem.W.methodObj (.ref g) (.ref x))]) G hr hb hp J1 hq rel q1) (fun v s2 hv => ?_) fun _ _ z => z
  obtain ⟨y, H2, J2, ry, qy⟩ := hv
  exact ⟨y, H2, J2.pins_of fun p hp => J2.pin p (List.mem_append_right _ (List.mem_append_left _ hp)), ry, qy⟩
theorem cells_at (T : SupTxt P K C D f g cc F m) (e0 : Env0 P w K mg base A outer s0 H0) : CellsAt F.cl ["__class__"] [some (.ref D)] s0.heap H0 := by
  obtain ⟨cv, cd0, csl, hcell⟩ := T.cell
  have hb := e0.mod.kin _ _ hcell
  obtain ⟨h1, h2⟩ := e0.bs _ _ hb
  have hl : ∀ y c, F.cl.lookup y = some c → y = ("__class__" : Str) ∧ c = cc := fun y c z => by
    rw [T.cl] at z
    by_cases e : y = ("__class__" : Str)
    · subst e
      refine ⟨rfl, ?_⟩
      simpa [List.lookup] using z.symm
    · have e2 : (y == ("__class__" : Str)) = false := by simpa using e
      simp [List.lookup, e2] at z
  refine ⟨rfl, fun y c z => ?_, fun a b c z1 z2 => (hl a c z1).1.trans (hl b c z2).1.symm, fun i y z => ?_⟩
  · rw [(hl y c z).2]
    exact ⟨h2, _, _, h1, rfl⟩
  · cases i with
    | zero =>
      cases (show some ("__class__" : Str) = some y from z)
      refine ⟨cc, by rw [T.cl]; simp [List.lookup], fun v ev => ?_⟩
      cases (show some (some (V.ref D)) = some (some v) from ev)
      exact ⟨.ref D, rfl, _, h1, rfl⟩
    | succ n => cases z
/-- a def y = super().m(e, ..); .. keeps its promise -/
theorem okS_set {CX2 : CXT} {k i : Nat} {fd2 : FuncData} {ps ps2 : List Str} {sp sp2 : Sp} {p0 p1 apos pos py pst : Pos} {e : Expr} {es : List Expr} {st : List Stmt} {y : Str}
    {oc : Value} {od : Option Addr} {doc pm : Value} {an : Option Addr} {ct : Value} {osl : Array (Option Value)}
    (T : SupTxt P K C D f g cc F m) (hf : K.lookup f = some ⟨oc, od, .func (ksFn F.name F.qual F.params F.body F.scope .none .none doc pm an (.ref F.c) ct cc), osl⟩)
    (S : NScope N ps ["__class__"] F.scope)
    (hbd : F.body = .Assign [.Name y py] (.Call (.Attribute (.Call (.Name "super" p0) [] [] p1) m apos) (e :: es) [] pos) pst :: st)
    (ar : ∀ vs H Q E, sp vs H Q E → vs.length = ps.length) (hN : N[0]? = some ("self" : Str)) (hi : N[i]? = some y) (hy : F.scope.names.lookup y = some .local)
    (G : FnOk P w K mg base CX2 k g fd2 ps2 sp2) (hb2 : Binds K fd2 ps2 [])
    (hline : (apos.endLine == pos.line) = true)
    (hform : ∀ L, methodCallForm ((e :: es).length + ([] : List Keyword).length) (backTo pos (starEach (e :: es) (envF F f L))) (backToKw pos (keywordEach [] (envF F f L))) = true)
    (he : ∀ L, starEach (e :: es) (envF F f L) = (false, eval e (envF F f L)) :: starEach es (envF F f L))
    (hpl : ∀ L, (backTo pos (starEach es (envF F f L))).any (·.1) = false)
    (hsw : ∀ L, swapsWith (.Call (.Attribute (.Call (.Name "super" p0) [] [] p1) m apos) (e :: es) [] pos) (some (.Name y py)) pst.line (envF F f L) = pure false)
    (bd : ∀ (A : Around) (outer : List Env) (s : Shared) (H : Hp) (vs : List V) (Q : VK) (E : XK), Room k (A.deeper (envF F f s.heap.objs.size)) → sp vs H Q E →
      ∃ (x dx : Addr) (fs : List (Str × V)) (E2 : XK) (ta : TA) (tr : TS), (startF N vs [some (.ref D)])[0]? = some (some (.ref x)) ∧ H x = some (.ins C dx fs) ∧ Passes CX2 (ncx CX P w K mg base N F f A outer s H E) E2 ∧
        PA (ncx CX P w K mg base N F f A outer s H E) (e :: es) ta ∧ PSs (ncx CX P w K mg base N F f A outer s H E) st tr ∧
        ta (startF N vs [some (.ref D)]) H fun ws H1 => sp2 (.ref x :: ws) H1 (fun v H2 => tr { nx := fun _ H' => Q .non H', rt := Q } ((startF N vs [some (.ref D)]).set i (some v)) H2) E2) :
    FnOk P w K mg base CX (k + 1) f (ksFn F.name F.qual F.params F.body F.scope .none .none doc pm an (.ref F.c) ct cc) ps sp := by
  refine ⟨ar, fun A outer s H args us vs Q E room env bind rel prem => ?_⟩
  have kin : K.In s.heap := env.mod.kin.keeps fun b o z => (env.bs b o z).1
  have nl : s.heap.NoLimit := env.mod.nolimit.keeps fun b o z => (env.bs b o z).1
  have long := ar _ _ _ _ prem
  obtain ⟨x, dx, fs, E2, ta, tr, hσ, hx, hp, ha, hr, q⟩ := bd A outer s H vs Q E (room.deeper _) prem
  have cells := cells_at T env
  have TT := T
  obtain ⟨nm, qual, params, body, scope, cl, c⟩ := F
  have hcl : cl = [(("__class__" : Str), cc)] := T.cl
  subst hcl
  refine ks_codeAny_call_defAt (binds := ps.zip us) room.depth (kin _ _ hf) rfl nl (PySem.W.codeRec_of kin T.code) rfl bind S.nocell (fun z hz => S.par z.1 (List.of_mem_zip hz).1) (fun h₁ hns k₁ => ?_) S.co S.gen S.kind
  have I : Inv (ncx CX P w K mg base N ⟨nm, qual, params, body, scope, [(("__class__" : Str), cc)], c⟩ f A outer s H E) [] (startF N vs [some (.ref D)]) H { s with heap := h₁, toks := s.toks + (ps.zip us).length } := inv_startN S room.hd env long rel cells hns k₁
  have hbd2 : body = .Assign [.Name y py] (.Call (.Attribute (.Call (.Name "super" p0) [] [] p1) m apos) (e :: es) [] pos) pst :: st := hbd
  subst hbd2
  generalize hF : (⟨nm, qual, params, .Assign [.Name y py] (.Call (.Attribute (.Call (.Name "super" p0) [] [] p1) m apos) (e :: es) [] pos) pst :: st, scope, [(("__class__" : Str), cc)], c⟩ : NF) = F at *
  have W : _root_.PySem.wpAt (model P w) (ncx CX P w K mg base N F f A outer s H E).A (.func F.body (envF F f s.heap.objs.size)) (execs F.body (envF F f s.heap.objs.size))
      (SP (ncx CX P w K mg base N F f A outer s H E) [] { nx := fun _ H' => Q .non H', rt := Q }) (ncx CX P w K mg base N F f A outer s H E).xe { s with heap := h₁, toks := s.toks + (ps.zip us).length } := by
    rw [hbd]
    apply ks_wpAt_execs_cons
    apply ks_wpAt_Assign_Name (hs := hsw _)
    apply PySem.ks_wpAt_mono (eval_super (σ := startF N vs [some (.ref D)]) TT hline (hform _) I hN hσ hx G (room.deeper _) hb2 hp ha (he _) (hpl _) q)
    · intro v s1 hv
      obtain ⟨u, H1, I1, ru, q1⟩ := hv
      apply store_ok I1 S.nd hi (.inl hy) ru (hf := .inr hy)
      intro s2 I2
      exact _root_.PySem.wpAt_of_wpAny (hr.run [] s2 _ H1 _ I2 q1)
    · exact fun _ _ z => z
  subst hF
  refine PySem.ks_wpAt_mono W (fun fl s' hs => ?_) fun _ _ z => z
  · cases fl with
    | ret u =>
      obtain ⟨v, σ2, H2, J, rv, qv⟩ := hs
      exact ⟨v, H2, J.os, J.bare, J.base, J.hok, rv, qv⟩
    | next =>
      obtain ⟨σ2, H2, J, qv⟩ := hs
      exact ⟨.non, H2, J.os, J.bare, J.base, J.hok, rfl, qv⟩
    | brk =>
      obtain ⟨_, _, _, qv⟩ := hs
      exact qv.elim
    | cont =>
      obtain ⟨_, _, _, qv⟩ := hs
      exact qv.elim
/-- super().m() as a value -/
theorem eval_super0 {CX2 : CXT} {k : Nat} {fd : FuncData} {ps : List Str} {sp : Sp} {E : XK} {body : List Stmt} {p0 p1 apos pos : Pos} {s : Shared} {pins : List (Addr × Obj)} {σ : L2.St} {H : Hp} {x dx : Addr} {fs : List (Str × V)} {Q : VK}
    (T : SupTxt P K C D f g cc F m) (hline : (apos.endLine == pos.line) = true)
    (hform : methodCallForm (([] : List Expr).length + ([] : List Keyword).length) (backTo pos (starEach [] (envF F f s0.heap.objs.size))) (backToKw pos (keywordEach [] (envF F f s0.heap.objs.size))) = true)
    (I : Inv (ncx CX P w K mg base N F f A outer s0 H0 E0) pins σ H s) (hN : N[0]? = some ("self" : Str)) (hσ : σ[0]? = some (some (.ref x))) (hx : H x = some (.ins C dx fs))
    (G : FnOk P w K mg base CX2 k g fd ps sp) (hr : Room k (ncx CX P w K mg base N F f A outer s0 H0 E0).A) (hb : Binds K fd ps []) (hp : Passes CX2 (ncx CX P w K mg base N F f A outer s0 H0 E0) E)
    (h : sp [.ref x] H Q E) :
    _root_.PySem.wpAt (model P w) (ncx CX P w K mg base N F f A outer s0 H0 E0).A (.func body (envF F f s0.heap.objs.size))
      (eval (.Call (.Attribute (.Call (.Name "super" p0) [] [] p1) m apos) [] [] pos) (envF F f s0.heap.objs.size)) (EP (ncx CX P w K mg base N F f A outer s0 H0 E0) pins σ Q) (ncx CX P w K mg base N F f A outer s0 H0 E0).xe s := by
  refine at_super T hline hform I hN hσ hx fun q s' J => ?_
  have hq := (J.pin (q, PySem.W.methodObj (.ref g) (.ref x)) (List.mem_append_right _ (List.mem_append_right _ List.mem_cons_self))).1
  apply PySem.W.callWith_of (P := PySem.W.MethP K q g (.ref x)) rfl (PySem.W.keeps_M T.fg)
  apply evalArgs_nil3
  refine ⟨⟨hq, J.kIn⟩, ?_⟩
  refine wpAny_mono (run_bound (us := []) (vs := []) (pins := pins ++ [(q, PySem.W.methodObj (.ref g) (.ref x))]) G hr hb hp J hq .nil h) (fun v s2 hv => ?_) fun _ _ z => z
  obtain ⟨y, H2, J2, ry, qy⟩ := hv
  exact ⟨y, H2, J2.pins_of fun p hp => J2.pin p (List.mem_append_right _ (List.mem_append_left _ hp)), ry, qy⟩
/-- a def super().m(); .. keeps its promise -/
theorem okS_do {CX2 : CXT} {k : Nat} {fd2 : FuncData} {ps ps2 : List Str} {sp sp2 : Sp} {p0 p1 apos pos pst : Pos} {st : List Stmt}
    {oc : Value} {od : Option Addr} {doc pm : Value} {an : Option Addr} {ct : Value} {osl : Array (Option Value)}
    (T : SupTxt P K C D f g cc F m) (hf : K.lookup f = some ⟨oc, od, .func (ksFn F.name F.qual F.params F.body F.scope .none .none doc pm an (.ref F.c) ct cc), osl⟩)
    (S : NScope N ps ["__class__"] F.scope)
    (hbd : F.body = .Expr (.Call (.Attribute (.Call (.Name "super" p0) [] [] p1) m apos) [] [] pos) pst :: st)
    (ar : ∀ vs H Q E, sp vs H Q E → vs.length = ps.length) (hN : N[0]? = some ("self" : Str))
    (G : FnOk P w K mg base CX2 k g fd2 ps2 sp2) (hb2 : Binds K fd2 ps2 [])
    (hline : (apos.endLine == pos.line) = true)
    (hform : ∀ L, methodCallForm (([] : List Expr).length + ([] : List Keyword).length) (backTo pos (starEach [] (envF F f L))) (backToKw pos (keywordEach [] (envF F f L))) = true)
    (hsw : ∀ L, swapsWith (.Call (.Attribute (.Call (.Name "super" p0) [] [] p1) m apos) [] [] pos) none pst.line (envF F f L) = pure false)
    (bd : ∀ (A : Around) (outer : List Env) (s : Shared) (H : Hp) (vs : List V) (Q : VK) (E : XK), Room k (A.deeper (envF F f s.heap.objs.size)) → sp vs H Q E →
      ∃ (x dx : Addr) (fs : List (Str × V)) (E2 : XK) (tr : TS), (startF N vs [some (.ref D)])[0]? = some (some (.ref x)) ∧ H x = some (.ins C dx fs) ∧ Passes CX2 (ncx CX P w K mg base N F f A outer s H E) E2 ∧
        PSs (ncx CX P w K mg base N F f A outer s H E) st tr ∧
        sp2 [.ref x] H (fun _ H2 => tr { nx := fun _ H' => Q .non H', rt := Q } (startF N vs [some (.ref D)]) H2) E2) :
    FnOk P w K mg base CX (k + 1) f (ksFn F.name F.qual F.params F.body F.scope .none .none doc pm an (.ref F.c) ct cc) ps sp := by
  refine ⟨ar, fun A outer s H args us vs Q E room env bind rel prem => ?_⟩
  have kin : K.In s.heap := env.mod.kin.keeps fun b o z => (env.bs b o z).1
  have nl : s.heap.NoLimit := env.mod.nolimit.keeps fun b o z => (env.bs b o z).1
  have long := ar _ _ _ _ prem
  obtain ⟨x, dx, fs, E2, tr, hσ, hx, hp, hr, q⟩ := bd A outer s H vs Q E (room.deeper _) prem
  have cells := cells_at T env
  have TT := T
  obtain ⟨nm, qual, params, body, scope, cl, c⟩ := F
  have hcl : cl = [(("__class__" : Str), cc)] := T.cl
  subst hcl
  refine ks_codeAny_call_defAt (binds := ps.zip us) room.depth (kin _ _ hf) rfl nl (PySem.W.codeRec_of kin T.code) rfl bind S.nocell (fun z hz => S.par z.1 (List.of_mem_zip hz).1) (fun h₁ hns k₁ => ?_) S.co S.gen S.kind
  have I : Inv (ncx CX P w K mg base N ⟨nm, qual, params, body, scope, [(("__class__" : Str), cc)], c⟩ f A outer s H E) [] (startF N vs [some (.ref D)]) H { s with heap := h₁, toks := s.toks + (ps.zip us).length } := inv_startN S room.hd env long rel cells hns k₁
  have hbd2 : body = .Expr (.Call (.Attribute (.Call (.Name "super" p0) [] [] p1) m apos) [] [] pos) pst :: st := hbd
  subst hbd2
  generalize hF : (⟨nm, qual, params, .Expr (.Call (.Attribute (.Call (.Name "super" p0) [] [] p1) m apos) [] [] pos) pst :: st, scope, [(("__class__" : Str), cc)], c⟩ : NF) = F at *
  have W : _root_.PySem.wpAt (model P w) (ncx CX P w K mg base N F f A outer s H E).A (.func F.body (envF F f s.heap.objs.size)) (execs F.body (envF F f s.heap.objs.size))
      (SP (ncx CX P w K mg base N F f A outer s H E) [] { nx := fun _ H' => Q .non H', rt := Q }) (ncx CX P w K mg base N F f A outer s H E).xe { s with heap := h₁, toks := s.toks + (ps.zip us).length } := by
    rw [hbd]
    apply ks_wpAt_execs_cons
    apply ks_wpAt_Expr_any (hi := I.quiet) (hs := hsw _)
    apply PySem.ks_wpAt_mono (eval_super0 (σ := startF N vs [some (.ref D)]) TT hline (hform _) I hN hσ hx G (room.deeper _) hb2 hp q)
    · intro v s1 hv
      obtain ⟨u, H1, I1, ru, q1⟩ := hv
      exact _root_.PySem.wpAt_of_wpAny (hr.run [] s1 _ H1 _ I1 q1)
    · exact fun _ _ z => z
  subst hF
  refine PySem.ks_wpAt_mono W (fun fl s' hs => ?_) fun _ _ z => z
  · cases fl with
    | ret u =>
      obtain ⟨v, σ2, H2, J, rv, qv⟩ := hs
      exact ⟨v, H2, J.os, J.bare, J.base, J.hok, rv, qv⟩
    | next =>
      obtain ⟨σ2, H2, J, qv⟩ := hs
      exact ⟨.non, H2, J.os, J.bare, J.base, J.hok, rfl, qv⟩
    | brk =>
      obtain ⟨_, _, _, qv⟩ := hs
      exact qv.elim
    | cont =>
      obtain ⟨_, _, _, qv⟩ := hs
      exact qv.elim
end
end Gs
/-! Methods that raise. -/
namespace Gx
open PySem PySem.Spec PyProof.Rows L2 Gd
theorem pe_or {X : Cx} {e : Expr} {t u : TE} (a : PE X e t) (b : PE X e u) : PE X e (fun σ H Q => t σ H Q ∨ u σ H Q) := ⟨fun pins s σ H Q I h => h.elim (a.run pins s σ H Q I) (b.run pins s σ H Q I)⟩
/-- a method that may raise -/
structure MetX (P : Program) (w : World) (K : PySem.W.Frag) (mg : Str → Option Value) (base : Heap) (k : Nat) (C : Addr) (m : Str) (sp : Sp) : Prop where
  ex : ∃ (f : Addr) (fd : FuncData) (ps : List Str), Cls K C ∧ Meth K C m f ∧ FnOk P w K mg base (L2.CX P w) k f fd ps sp ∧ Binds K fd ps []
def tMethX (C : Addr) (m : Str) (sp : Sp) (E : L2.St → XK) (ta : TE) (t : TA) : TE := fun σ H Q => ta σ H fun x H1 => ∃ a dx fs, x = .ref a ∧ H1 a = some (.ins C dx fs) ∧ fs.lookup m = none ∧ t σ H1 fun vs H2 => sp (x :: vs) H2 Q (E σ)
section
variable {X : Cx} {k j : Nat} {C : Addr} {m : Str} {sp : Sp} {pos apos : Pos} {e o : Expr} {es : List Expr} {ta : TE} {t : TA}
theorem pe_mtX {W : WX} {pl : Sem Bool} (c : MetX X.prog X.w X.K X.mg X.base k C m sp) (hr : Room j X.A) (hk : k ≤ j) (tk : Takes X W) (he : PE X o ta) (ha : PA X (e :: es) t)
    (hst : starEach (e :: es) X.env = (false, eval e X.env) :: starEach es X.env := by rfl) (hpl : (backTo pos (starEach es X.env)).any (·.1) = false := by rfl)
    (ht : eval (.Call (.Attribute o m apos) (e :: es) [] pos) X.env = (do
      let ov ← eval o X.env
      standAt apos.atName
      let (f, first) ← holding [ov] (getMethod ov m pl)
      callWith pos f first (backTo pos (starEach (e :: es) X.env)) (backToKw pos (keywordEach [] X.env))) := by rfl) :
    PE X (.Call (.Attribute o m apos) (e :: es) [] pos) (tMethX C m sp (WE W) ta t) := by
  obtain ⟨f, fd, ps, hc, hm, F, b⟩ := c.ex
  refine ⟨fun pins s σ H Q I h => ?_⟩
  refine PySem.W.methodCall_KW (pl := pl) (thn (he.run pins s σ H _ I h) fun u s1 ⟨x, H1, I1, rx, a, dx, fs, ex, ea, l, q⟩ => ?_) ht
  subst ex
  obtain rfl : u = Value.ref a := rx
  refine getmeth_ok I1 ea hc hm l ?_
  refine PySem.W.callWith_K (first := [.ref a]) (h₀ := X.base) I.ok.mod.kin hm.kp (thn (ha.run pos pins s1 σ H1 _ I1 q) fun us s2 ⟨vs, H2, I2, r, q2⟩ => ⟨I2.kIn, ?_⟩) hst hpl
  exact run_fnS (us := .ref a :: us) (vs := .ref a :: vs) F (hr.mono hk) b (passAt tk σ) I2 (.cons rfl r) q2
/-- where it raises nothing -/
theorem pe_mtN {pl : Sem Bool} (c : MetX X.prog X.w X.K X.mg X.base k C m sp) (hr : Room j X.A) (hk : k ≤ j) (he : PE X o ta) (ha : PA X (e :: es) t)
    (hst : starEach (e :: es) X.env = (false, eval e X.env) :: starEach es X.env := by rfl) (hpl : (backTo pos (starEach es X.env)).any (·.1) = false := by rfl)
    (ht : eval (.Call (.Attribute o m apos) (e :: es) [] pos) X.env = (do
      let ov ← eval o X.env
      standAt apos.atName
      let (f, first) ← holding [ov] (getMethod ov m pl)
      callWith pos f first (backTo pos (starEach (e :: es) X.env)) (backToKw pos (keywordEach [] X.env))) := by rfl) :
    PE X (.Call (.Attribute o m apos) (e :: es) [] pos) (tMeth C m sp [] E0 ta t) := by
  obtain ⟨f, fd, ps, hc, hm, F, b⟩ := c.ex
  exact pe_meth (pl := pl) he hc hm F (hr.mono hk) b .nil passL ha hst hpl ht
end
end Gx
/-! sorted of a dict of whole numbers, any number of them. -/
namespace Gq
open PySem PySem.Spec PyProof.Rows L2
def rSortDI : List V → Hp → VK → Prop := fun xs H Q => ∃ (a : Addr) (kvs : List (Key × V)) (ks : List Int), xs = [.ref a] ∧ Rd H a (.dK kvs) ∧ kvs.map (·.1) = ks.map Sum.inl ∧ ks.length ≤ 100000 ∧
  ∀ (out : List Int) (p : Addr), out.Perm ks → out.Pairwise (· ≤ ·) → H p = none → Q (.ref p) (upd H p (.lst (out.map V.int)))
section
variable {X : Cx}
theorem call_sortDI (cm : X.calm = true) : CallR X (.builtin "sorted") rSortDI := by
  intro pins s σ H xs us Q I r h
  obtain ⟨a, kvs, ks, e, rd, hk, few, q⟩ := h
  subst e
  obtain ⟨u, e, ru⟩ := vals1 r
  subst e
  cases ru
  obtain ⟨z, lo, vs, rel, dd⟩ := dk_rd I.hok rd
  obtain ⟨ep, dat⟩ := dd.dictAt
  have fst_ : vs.map (·.1) = ks.map Sum.inl := by rw [← hk]; exact rel.keys.symm
  have len_ : vs.length = ks.length := by simpa using congrArg List.length fst_
  have room : ∀ n : Nat, n = ks.length → n ≤ sizeLine := fun n hn => by
    have : (100000 : Nat) ≤ sizeLine := by decide
    omega
  refine Calls.call_function_entry kind_sorted plain_sorted entry_sorted (args_sorted1 _) ?_
  unfold Builtin.«sorted»
  refine wpAny_bind (m := checkCount "sorted" 1 1 _) (wpAny_pure (wpAny_bind (PySem.W.kdu_collect (A := X.A.in1) (PySem.W.kdl_dict (knd := mixKind X.prog X.w) (kvs := vs) (ep := ep) lo) (I.ok.hd cm) dat (room _ len_) fun h1 tk acc kp ha => ?_)))
  have la : acc.toList.length = ks.length := by rw [Array.length_toList, ha.1, len_]
  have ia : IntsAre acc.toList ks := ints_each la fun j v ev => by
    obtain ⟨k, x, g1, g2⟩ := ha.2 j v (by rw [← Array.getElem?_toList]; exact ev)
    have g3 : (vs.map (·.1))[j]? = some k := by
      rw [List.getElem?_map, g1]
      rfl
    rw [fst_, List.getElem?_map] at g3
    obtain ⟨y, hy, rfl⟩ : ∃ y, ks[j]? = some y ∧ Sum.inl y = k := by
      cases w : ks[j]? with
      | none =>
        rw [w] at g3
        cases g3
      | some y =>
        rw [w] at g3
        exact ⟨y, rfl, Option.some.inj g3⟩
    rcases keyIs_shape (show keyIs (Sum.inl y) v = true from g2) with ⟨i, t, ek, eo⟩ | ⟨_, _, ek, _⟩
    · cases ek
      exact ⟨y, t, hy, eo⟩
    · cases ek
  have J : Inv X pins σ H { s with heap := h1, toks := tk } := I.kept kp
  refine wpAny_bind (wpAny_newList ?_ (room _ la))
  have at_ : (h1.push (seqObj "list" acc.toList.toArray 0)).get? h1.objs.size = some (seqObj "list" acc.toList.toArray 0) := Heap.get?_push_size _ rfl
  show wpAny _ _ _ _ _ { s with heap := h1.push (seqObj "list" acc.toList.toArray 0), toks := tk }
  refine wpAny_bind (wpAny_holding (wpAny_call_entry slot_list_sort ⟨_, at_, rfl⟩ entry_list_sort (SrtO.list_sort_ord SrtO.swo_int at_ (room _ la) (fun two => SrtO.ints_sortable ia two) fun out o1 o2 => ⟨_, rfl, ?_⟩) (args_list_sort _)))
  obtain ⟨m1, m2, m3⟩ := SrtO.ints_out ia o1 o2
  obtain ⟨e2, he2⟩ := sortedHeap_at (vs := acc.toList) (out := out.toArray) at_
  have lo2 : ((out.map SrtO.iv).map V.int).length ≤ sizeLine := by
    rw [List.length_map, m2.length_eq]
    exact room _ rfl
  refine wpAny_pure ⟨_, rfl, .ref h1.objs.size, upd H h1.objs.size (.lst ((out.map SrtO.iv).map V.int)), J.laid (t' := tk) (fun b u hb => ?_) (Nat.le_refl _)
    (show ObjOk X.prog X.w _ _ _ (.lst ((out.map SrtO.iv).map V.int)) from ⟨lo2, out, e2, vals_of_ints m1, he2⟩), rfl, q _ _ m2 m3 (J.hok.fresh (Nat.le_refl _))⟩
  have lt := Heap.lt_size hb
  rw [sortedHeap_old (Nat.ne_of_lt lt) (by rw [size_push']; exact Nat.lt_succ_of_lt lt)]
  exact Heap.get?_push_of_some _ (by exact hb)
end
end Gq
set_option maxHeartbeats 1000000
namespace K32
open PySem PySem.Spec PyProof.Rows L2 Gd
open C8 (clsBody Met pe_mt pe_mt0)
def topS (i : Nat) : Stmt := PySem.Challenge.pw_makeskept_k32_halves_built.main.body.getD i (.Pass ⟨0, 0, 0, 0⟩)
abbrev s__wall : Stmt := topS 0
abbrev s_is_whole : Stmt := topS 11
abbrev s_is_worth : Stmt := topS 12
abbrev s_is_worths : Stmt := topS 13
abbrev s_stretch_of : Stmt := topS 16
abbrev s_halves_of : Stmt := topS 17
abbrev s_built : Stmt := topS 18
abbrev s__built_stretch : Stmt := topS 19
abbrev s_put_down : Stmt := topS 20
abbrev s_way_down : Stmt := topS 21
abbrev s__law_cell_at : Stmt := topS 23
abbrev s__law_box : Stmt := topS 24
abbrev s__law_take : Stmt := topS 25
abbrev s__law_worth : Stmt := topS 26
abbrev s__law_worths : Stmt := topS 27
abbrev s__law_lay : Stmt := topS 28
abbrev s__law_laid : Stmt := topS 29
abbrev s__law_down : Stmt := topS 30
abbrev s__law_put : Stmt := topS 31
abbrev s__law_ends : Stmt := topS 32
abbrev s__law_deed : Stmt := topS 33
abbrev s__law_right : Stmt := topS 34
abbrev s_law : Stmt := topS 35
abbrev s_NoRow___init__ : Stmt := (clsBody (topS 3)).getD 0 (.Pass ⟨0, 0, 0, 0⟩)
abbrev s_NoWorth___init__ : Stmt := (clsBody (topS 4)).getD 0 (.Pass ⟨0, 0, 0, 0⟩)
abbrev s_NoPlace___init__ : Stmt := (clsBody (topS 5)).getD 0 (.Pass ⟨0, 0, 0, 0⟩)
abbrev s_NoStretch___init__ : Stmt := (clsBody (topS 6)).getD 0 (.Pass ⟨0, 0, 0, 0⟩)
abbrev s_NoPart___init__ : Stmt := (clsBody (topS 7)).getD 0 (.Pass ⟨0, 0, 0, 0⟩)
abbrev s_Parts___init__ : Stmt := (clsBody (topS 15)).getD 0 (.Pass ⟨0, 0, 0, 0⟩)
abbrev s_Parts_leaf : Stmt := (clsBody (topS 15)).getD 1 (.Pass ⟨0, 0, 0, 0⟩)
abbrev s_Parts_fork : Stmt := (clsBody (topS 15)).getD 2 (.Pass ⟨0, 0, 0, 0⟩)
abbrev s_Parts_part : Stmt := (clsBody (topS 15)).getD 3 (.Pass ⟨0, 0, 0, 0⟩)
abbrev s_Parts_many : Stmt := (clsBody (topS 15)).getD 4 (.Pass ⟨0, 0, 0, 0⟩)
abbrev s_Parts_numbers : Stmt := (clsBody (topS 15)).getD 5 (.Pass ⟨0, 0, 0, 0⟩)
abbrev s_Parts_hold : Stmt := (clsBody (topS 15)).getD 6 (.Pass ⟨0, 0, 0, 0⟩)
abbrev s_Parts_release : Stmt := (clsBody (topS 15)).getD 7 (.Pass ⟨0, 0, 0, 0⟩)
abbrev s_Parts_pointers : Stmt := (clsBody (topS 15)).getD 8 (.Pass ⟨0, 0, 0, 0⟩)
abbrev s_Parts_copied : Stmt := (clsBody (topS 15)).getD 9 (.Pass ⟨0, 0, 0, 0⟩)
abbrev s_Parts__made : Stmt := (clsBody (topS 15)).getD 10 (.Pass ⟨0, 0, 0, 0⟩)
abbrev s_Parts__pointed_less : Stmt := (clsBody (topS 15)).getD 11 (.Pass ⟨0, 0, 0, 0⟩)
abbrev s_Parts__forget : Stmt := (clsBody (topS 15)).getD 12 (.Pass ⟨0, 0, 0, 0⟩)
abbrev s_Parts__need_half : Stmt := (clsBody (topS 15)).getD 13 (.Pass ⟨0, 0, 0, 0⟩)
abbrev s_Parts__need_part : Stmt := (clsBody (topS 15)).getD 14 (.Pass ⟨0, 0, 0, 0⟩)
theorem sc_Parts___init__ : FnScope ["self"] ["self"] (defScope s_Parts___init__) := ⟨rfl, rfl, rfl, by decide +kernel, rfl, by decide +kernel, by decide +kernel⟩
theorem sc_Parts_leaf : FnScope ["self", "place", "worth"] ["self", "place", "worth"] (defScope s_Parts_leaf) := ⟨rfl, rfl, rfl, by decide +kernel, rfl, by decide +kernel, by decide +kernel⟩
theorem sc_Parts_fork : FnScope ["self", "low", "high", "left", "right", "middle"] ["self", "low", "high", "left", "right"] (defScope s_Parts_fork) := ⟨rfl, rfl, rfl, by decide +kernel, rfl, by decide +kernel, by decide +kernel⟩
theorem sc_Parts_part : FnScope ["self", "number"] ["self", "number"] (defScope s_Parts_part) := ⟨rfl, rfl, rfl, by decide +kernel, rfl, by decide +kernel, by decide +kernel⟩
theorem sc_Parts_many : FnScope ["self"] ["self"] (defScope s_Parts_many) := ⟨rfl, rfl, rfl, by decide +kernel, rfl, by decide +kernel, by decide +kernel⟩
theorem sc_Parts_numbers : FnScope ["self"] ["self"] (defScope s_Parts_numbers) := ⟨rfl, rfl, rfl, by decide +kernel, rfl, by decide +kernel, by decide +kernel⟩
theorem sc_Parts_hold : FnScope ["self", "number"] ["self", "number"] (defScope s_Parts_hold) := ⟨rfl, rfl, rfl, by decide +kernel, rfl, by decide +kernel, by decide +kernel⟩
theorem sc_Parts_release : FnScope ["self", "number"] ["self", "number"] (defScope s_Parts_release) := ⟨rfl, rfl, rfl, by decide +kernel, rfl, by decide +kernel, by decide +kernel⟩
theorem sc_Parts_pointers : FnScope ["self", "number"] ["self", "number"] (defScope s_Parts_pointers) := ⟨rfl, rfl, rfl, by decide +kernel, rfl, by decide +kernel, by decide +kernel⟩
theorem sc_Parts_copied : FnScope ["self"] ["self"] (defScope s_Parts_copied) := ⟨rfl, rfl, rfl, by decide +kernel, rfl, by decide +kernel, by decide +kernel⟩
theorem sc_Parts__made : FnScope ["self", "part", "number"] ["self", "part"] (defScope s_Parts__made) := ⟨rfl, rfl, rfl, by decide +kernel, rfl, by decide +kernel, by decide +kernel⟩
theorem sc_Parts__pointed_less : FnScope ["self", "numbers"] ["self", "numbers"] (defScope s_Parts__pointed_less) := ⟨rfl, rfl, rfl, by decide +kernel, rfl, by decide +kernel, by decide +kernel⟩
theorem sc_Parts__forget : FnScope ["self", "number"] ["self", "number"] (defScope s_Parts__forget) := ⟨rfl, rfl, rfl, by decide +kernel, rfl, by decide +kernel, by decide +kernel⟩
theorem sc_Parts__need_half : FnScope ["self", "number", "stretch"] ["self", "number", "stretch"] (defScope s_Parts__need_half) := ⟨rfl, rfl, rfl, by decide +kernel, rfl, by decide +kernel, by decide +kernel⟩
theorem sc_Parts__need_part : FnScope ["self", "number"] ["self", "number"] (defScope s_Parts__need_part) := ⟨rfl, rfl, rfl, by decide +kernel, rfl, by decide +kernel, by decide +kernel⟩
theorem sc__wall : FnScope ["k"] ["k"] (defScope s__wall) := ⟨rfl, rfl, rfl, by decide +kernel, rfl, by decide +kernel, by decide +kernel⟩
theorem sc_is_whole : FnScope ["thing", "low", "high"] ["thing", "low", "high"] (defScope s_is_whole) := ⟨rfl, rfl, rfl, by decide +kernel, rfl, by decide +kernel, by decide +kernel⟩
theorem sc_is_worth : FnScope ["thing"] ["thing"] (defScope s_is_worth) := ⟨rfl, rfl, rfl, by decide +kernel, rfl, by decide +kernel, by decide +kernel⟩
theorem sc_is_worths : FnScope ["thing", "worth"] ["thing"] (defScope s_is_worths) := ⟨rfl, rfl, rfl, by decide +kernel, rfl, by decide +kernel, by decide +kernel⟩
theorem sc_stretch_of : FnScope ["part"] ["part"] (defScope s_stretch_of) := ⟨rfl, rfl, rfl, by decide +kernel, rfl, by decide +kernel, by decide +kernel⟩
theorem sc_halves_of : FnScope ["part"] ["part"] (defScope s_halves_of) := ⟨rfl, rfl, rfl, by decide +kernel, rfl, by decide +kernel, by decide +kernel⟩
theorem sc_built : FnScope ["parts", "worths"] ["parts", "worths"] (defScope s_built) := ⟨rfl, rfl, rfl, by decide +kernel, rfl, by decide +kernel, by decide +kernel⟩
theorem sc__built_stretch : FnScope ["parts", "worths", "low", "high", "middle", "left", "right"] ["parts", "worths", "low", "high"] (defScope s__built_stretch) := ⟨rfl, rfl, rfl, by decide +kernel, rfl, by decide +kernel, by decide +kernel⟩
theorem sc_put_down : FnScope ["parts", "root", "place", "worth", "way", "made", "at", "_", "low", "high", "left", "right"] ["parts", "root", "place", "worth"] (defScope s_put_down) := ⟨rfl, rfl, rfl, by decide +kernel, rfl, by decide +kernel, by decide +kernel⟩
theorem sc_way_down : FnScope ["parts", "root", "place", "low", "high", "way", "left", "right", "middle"] ["parts", "root", "place"] (defScope s_way_down) := ⟨rfl, rfl, rfl, by decide +kernel, rfl, by decide +kernel, by decide +kernel⟩
theorem sc__law_cell_at : FnScope ["_law_script", "_law_k"] ["_law_script", "_law_k"] (defScope s__law_cell_at) := ⟨rfl, rfl, rfl, by decide +kernel, rfl, by decide +kernel, by decide +kernel⟩
theorem sc__law_box : FnScope ["_law_cell"] ["_law_cell"] (defScope s__law_box) := ⟨rfl, rfl, rfl, by decide +kernel, rfl, by decide +kernel, by decide +kernel⟩
theorem sc__law_take : FnScope ["_law_box_here", "_law_many", "_law_digit", "_law_number"] ["_law_box_here", "_law_many"] (defScope s__law_take) := ⟨rfl, rfl, rfl, by decide +kernel, rfl, by decide +kernel, by decide +kernel⟩
theorem sc__law_worth : FnScope ["_law_box_here", "_law_way", "_law_number"] ["_law_box_here"] (defScope s__law_worth) := ⟨rfl, rfl, rfl, by decide +kernel, rfl, by decide +kernel, by decide +kernel⟩
theorem sc__law_worths : FnScope ["_law_box_here", "_law_size", "_law_k"] ["_law_box_here"] (defScope s__law_worths) := ⟨rfl, rfl, rfl, by decide +kernel, rfl, by decide +kernel, by decide +kernel⟩
theorem sc__law_lay : FnScope ["_law_model", "_law_told"] ["_law_model", "_law_told"] (defScope s__law_lay) := ⟨rfl, rfl, rfl, by decide +kernel, rfl, by decide +kernel, by decide +kernel⟩
theorem sc__law_laid : FnScope ["_law_model", "_law_worths_here", "_law_low", "_law_high", "_law_middle", "_law_left", "_law_right_here"] ["_law_model", "_law_worths_here", "_law_low", "_law_high"] (defScope s__law_laid) := ⟨rfl, rfl, rfl, by decide +kernel, rfl, by decide +kernel, by decide +kernel⟩
theorem sc__law_down : FnScope ["_law_model", "_law_root", "_law_place", "_law_found", "_law_word", "_law_low", "_law_high", "_law_left", "_law_right_here"] ["_law_model", "_law_root", "_law_place"] (defScope s__law_down) := ⟨rfl, rfl, rfl, by decide +kernel, rfl, by decide +kernel, by decide +kernel⟩
theorem sc__law_put : FnScope ["_law_model", "_law_root", "_law_place", "_law_worth_here", "_law_path", "_law_number", "_law_elder", "_law_word", "_law_low", "_law_high", "_law_left", "_law_right_here", "_law_halves"] ["_law_model", "_law_root", "_law_place", "_law_worth_here"] (defScope s__law_put) := ⟨rfl, rfl, rfl, by decide +kernel, rfl, by decide +kernel, by decide +kernel⟩
theorem sc__law_ends : FnScope ["_law_told"] ["_law_told"] (defScope s__law_ends) := ⟨rfl, rfl, rfl, by decide +kernel, rfl, by decide +kernel, by decide +kernel⟩
theorem sc__law_deed : FnScope ["_law_box_here", "_law_parts", "_law_model", "_law_roots", "_law_way", "_law_worths_here", "_law_handed", "_law_found", "_law_place", "_law_told", "_law_due", "_law_root", "_law_low", "_law_high", "_law_worth_here"] ["_law_box_here", "_law_parts", "_law_model", "_law_roots"] (defScope s__law_deed) := ⟨rfl, rfl, rfl, by decide +kernel, rfl, by decide +kernel, by decide +kernel⟩
theorem sc__law_right : FnScope ["_law_box_here", "_law_parts", "_law_model", "_law_roots", "_law_ahead", "_law_number", "_law_root", "_law_low", "_law_high", "_law_place", "_law_lap", "_law_found", "_law_due"] ["_law_box_here", "_law_parts", "_law_model", "_law_roots", "_law_ahead"] (defScope s__law_right) := ⟨rfl, rfl, rfl, by decide +kernel, rfl, by decide +kernel, by decide +kernel⟩
theorem sc_law : FnScope ["_law_script", "_law_parts", "_law_model", "_law_roots", "_law_k", "_law_box_here", "_law_ahead", "_law_number"] ["_law_script"] (defScope s_law) := ⟨rfl, rfl, rfl, by decide +kernel, rfl, by decide +kernel, by decide +kernel⟩
structure Txt (K : PySem.W.Frag) (mg : Str → Option Value) : Prop where
  b_len : mg "len" = none
  b_max : mg "max" = none
  b_min : mg "min" = none
  b_range : mg "range" = none
  b_repr : mg "repr" = none
  b_isinstance : mg "isinstance" = none
  b_all : mg "all" = none
  b_sorted : mg "sorted" = none
  b_reversed : mg "reversed" = none
  t_int : mg "int" = none
  t_bool : mg "bool" = none
  t_list : mg "list" = none
  t_tuple : mg "tuple" = none
  g_MOST_PLACES : GInt mg "MOST_PLACES" 16
  g_MOST_WORTH : GInt mg "MOST_WORTH" (10 ^ 30 - 1)
structure PtC (K : PySem.W.Frag) (C : Addr) : Prop where
  cl : Cls K C
  n_parts : NoAttr K C "_parts"
  n_given : NoAttr K C "_given"
  n_pointing : NoAttr K C "_pointing"
  n_held : NoAttr K C "_held"
def fields : List Str := ["_parts", "_given", "_pointing", "_held"]
def num (j : Nat) : V := .int (j : Nat)
theorem putF_len {f : Str} {v x : V} : ∀ {fs : List (Str × V)}, fs.lookup f = some x → (putF f v fs).length = fs.length
  | [], h => by cases h
  | (g, y) :: r, h => by
    unfold putF
    by_cases e : g = f
    · rw [if_pos e]
      rfl
    · rw [if_neg e]
      have e2 : (f == g) = false := by simpa using fun z => e z.symm
      rw [List.lookup_cons, e2] at h
      rw [List.length_cons, List.length_cons, putF_len h]
/-- a part of a row -/
inductive Pt where
  | leaf (p : Nat) (w : Int)
  | fork (lo hi l r : Nat)
def ptV : Pt → List V
  | .leaf p w => [.str "leaf", num p, .int w]
  | .fork lo hi l r => [.str "fork", num lo, num hi, num l, num r]
def ptD : Pt → PyData
  | .leaf p w => .tuple [.str "leaf", .int (p : Nat), .int w]
  | .fork lo hi l r => .tuple [.str "fork", .int (lo : Nat), .int (hi : Nat), .int (l : Nat), .int (r : Nat)]
def lowP : Pt → Nat
  | .leaf p _ => p
  | .fork lo _ _ _ => lo
def highP : Pt → Nat
  | .leaf p _ => p + 1
  | .fork _ hi _ _ => hi
/-- the dict of parts -/
structure DicP (H : Hp) (kvs : List (Key × V)) (ps : List Pt) : Prop where
  keys : kvs.map Prod.fst = (List.range ps.length).map fun i => Sum.inl ((i : Nat) : Int)
  at_ : ∀ (i : Nat) (p : Pt), ps[i]? = some p → ∃ t, valV kvs (Sum.inl ((i : Nat) : Int)) = some (.ref t) ∧ H t = some (.tup (ptV p))
  no : ∀ k : Nat, ps.length ≤ k → valV kvs (Sum.inl ((k : Nat) : Int)) = none
/-- a dict of numbers, one of each part -/
structure DicN (kvs : List (Key × V)) (n : Nat) : Prop where
  len : kvs.length = n
  at_ : ∀ i : Nat, i < n → ∃ c : Nat, valV kvs (Sum.inl ((i : Nat) : Int)) = some (num c)
  no : ∀ k : Nat, n ≤ k → valV kvs (Sum.inl ((k : Nat) : Int)) = none
def KT (H H' : Hp) : Prop := ∀ (c : Addr) (ys : List V), H c = some (.tup ys) → H' c = some (.tup ys)
theorem KT.of {H H' : Hp} (s : Same H H') : KT H H' := fun c ys z => s c _ z
theorem DicP.kp {H H' : Hp} {kvs : List (Key × V)} {ps : List Pt} (h : DicP H kvs ps) (k : KT H H') : DicP H' kvs ps := ⟨h.keys, fun i p e => by
  obtain ⟨t, a, b⟩ := h.at_ i p e
  exact ⟨t, a, k _ _ b⟩, h.no⟩
theorem DicP.len {H : Hp} {kvs : List (Key × V)} {ps : List Pt} (h : DicP H kvs ps) : kvs.length = ps.length := by
  have := congrArg List.length h.keys
  simpa using this
/-- a store of parts at o, N its own (the tuples aside) -/
structure StA (N : Addr → Prop) (H : Hp) (o C : Addr) (ps : List Pt) : Prop where
  ex : ∃ (dx d e g : Addr) (fs : List (Str × V)) (kd ke kg : List (Key × V)), H o = some (.ins C dx fs) ∧ fs.lookup ("_parts" : Str) = some (.ref d) ∧ fs.lookup ("_given" : Str) = some (num ps.length) ∧ fs.lookup ("_pointing" : Str) = some (.ref e) ∧ fs.lookup ("_held" : Str) = some (.ref g) ∧
    (∀ f, f ∉ fields → fs.lookup f = none) ∧ H d = some (.dK kd) ∧ H e = some (.dK ke) ∧ H g = some (.dK kg) ∧ DicP H kd ps ∧ DicN ke ps.length ∧ DicN kg ps.length ∧ fs.length ≤ 100 ∧ N o ∧ N d ∧ N e ∧ N g ∧ d ≠ e ∧ d ≠ g ∧ e ≠ g
  few : ps.length ≤ 1000
theorem StA.kp {N : Addr → Prop} {H H' : Hp} {o C : Addr} {ps : List Pt} (r : StA N H o C ps) (k : ∀ c u, N c → H c = some u → H' c = some u) (kt : KT H H') : StA N H' o C ps := by
  obtain ⟨dx, d, e, g, fs, kd, ke, kg, e1, l1, l2, l3, l4, nl, e2, e3, e4, dp, de, dg, lf, No, Nd, Ne, Ng, n1, n2, n3⟩ := r.ex
  exact ⟨⟨dx, d, e, g, fs, kd, ke, kg, k _ _ No e1, l1, l2, l3, l4, nl, k _ _ Nd e2, k _ _ Ne e3, k _ _ Ng e4, dp.kp kt, de, dg, lf, No, Nd, Ne, Ng, n1, n2, n3⟩, r.few⟩
theorem StA.same {N : Addr → Prop} {H H' : Hp} {o C : Addr} {ps : List Pt} (r : StA N H o C ps) (s : Same H H') : StA N H' o C ps := r.kp (fun c u _ z => s c u z) (KT.of s)
theorem StA.ins {N : Addr → Prop} {H : Hp} {o C : Addr} {ps : List Pt} (r : StA N H o C ps) : ∃ dx fs, H o = some (.ins C dx fs) ∧ (∀ f, f ∉ fields → fs.lookup f = none) := by
  obtain ⟨dx, d, e, g, fs, kd, ke, kg, e1, l1, l2, l3, l4, nl, e2, e3, e4, dp, de, dg, lf, No, Nd, Ne, Ng, n1, n2, n3⟩ := r.ex
  exact ⟨dx, fs, e1, nl⟩
section
variable {P : Program} {w : World} {K : PySem.W.Frag} {mg : Str → Option Value} {base : Heap} {C : Addr}
structure MAt (K : PySem.W.Frag) (C : Addr) (m qual : Str) (st : Stmt) (ps : List Str) : Prop where
  ex : ∃ (f : Addr) (fd : FuncData), Fun K m qual st f fd ∧ Meth K C m f ∧ Binds K fd ps []
theorem MAt.met {m qual : Str} {st : Stmt} {N ps : List Str} {k : Nat} {sp : Sp} (M : MAt K C m qual st ps) (cl : Cls K C) (S : FnScope N ps (defScope st))
    (ar : ∀ vs H Q E, sp vs H Q E → vs.length = ps.length)
    (bd : ∀ (f : Addr) (cdv : Value) (A : Around) (outer : List Env) (s : Shared) (H : Hp) (vs : List V) (Q : VK) (E : XK), Room k (A.deeper (envOfC qual (defScope st) s.heap.objs.size f cdv)) → sp vs H Q E →
      ∃ t, PSs (cxOf CX0 P w K mg base N qual (defScope st) f cdv A outer s H E).nox (defBody st) t ∧ t { nx := fun _ H' => Q .non H', rt := Q } (start N vs) H) : Met P w K mg base (k + 1) C m sp [] := by
  obtain ⟨f, fd, F, me, b⟩ := M.ex
  exact ⟨f, fd, ps, [], cl, me, F.ok S ar (bd f), b, .nil⟩
def spWhI : Sp := fun vs H Q _ => ∃ n lo hi : Int, vs = [.int n, .int lo, .int hi] ∧ lo ≤ n ∧ n ≤ hi ∧ Q (.bl true) H
theorem ok_whI (T : Txt K mg) (D : DefAt K mg "is_whole" s_is_whole ["thing", "low", "high"]) : C8.Cal P w K mg base 1 "is_whole" spWhI [] := by
  obtain ⟨f, fd, F, m, b⟩ := D.ex
  refine ⟨f, fd, _, [], F.ok sc_is_whole (fun vs H Q E h => ?_) (fun cdv A outer s H vs Q E hr h => ?_), m, F.kp, b, .nil⟩
  · obtain ⟨n, lo, hi, rfl, _⟩ := h
    rfl
  · obtain ⟨n, lo, hi, rfl, h1, h2, q⟩ := h
    refine ⟨_, (pss_one (ps_ret (pe_and (pe_callB call_isi (by rfl) T.b_isinstance boot_isinstance_ (pa_cons (pv 0) (pa_cons (pe_bltn (v := .ty "int") (by rfl) T.t_int boot_int_ rfl) pa_nil))) (pe_and (pe_not (pe_callB call_isi (by rfl) T.b_isinstance boot_isinstance_ (pa_cons (pv 0) (pa_cons (pe_bltn (v := .ty "bool") (by rfl) T.t_bool boot_bool_ rfl) pa_nil)))) (pe_one (pe_chain op_le op_le (pv 1) (pv 0) (pv 2))))))), ?_⟩
    have ty := tyD (K := K) (H := H) (D1.dp (Dp.int n))
    refine ⟨_, rfl, .int n, .ty "int", _, .type "int", _, rfl, .ty _, ty, kInt (.int n), _, rfl, ?_⟩
    refine iteT ?_
    refine ⟨_, rfl, _, .ty "bool", _, .type "bool", _, rfl, .ty _, ty, kBool _, _, rfl, _, rfl, ?_⟩
    refine iteT ?_
    refine ⟨_, rfl, _, rfl, _, _, rfl, rfl, _, rfl, ?_⟩
    rw [decide_eq_true h1]
    refine iteT ⟨_, rfl, _, _, rfl, rfl, ?_⟩
    show Q (.bl (decide (n ≤ hi))) H
    rw [decide_eq_true h2]
    exact q
def spMany (C : Addr) : Sp := fun vs H Q _ => ∃ (N : Addr → Prop) (o : Addr) (ps : List Pt), vs = [.ref o] ∧ StA N H o C ps ∧ Q (num ps.length) H
theorem ok_many (T : Txt K mg) (OC : PtC K C) (M : MAt K C "many" "Parts.many" s_Parts_many ["self"]) : Met P w K mg base 1 C "many" (spMany C) [] := by
  refine M.met OC.cl sc_Parts_many (fun vs H Q E h => ?_) (fun f cdv A outer s H vs Q E hr h => ?_)
  · obtain ⟨N, o, ps, rfl, _⟩ := h
    rfl
  · obtain ⟨N, o, ps, rfl, r, q⟩ := h
    obtain ⟨dx, d, e, g, fs, kd, ke, kg, e1, l1, l2, l3, l4, nl, e2, e3, e4, dp, de, dg, lf, No, Nd, Ne, Ng, n1, n2, n3⟩ := r.ex
    refine ⟨_, (pss_one (ps_ret (pe_callB call_lenD (by rfl) T.b_len boot_len_ (pa_cons (pe_fld (pv 0) rfl) pa_nil)))), ?_⟩
    refine ⟨_, rfl, o, C, dx, fs, .ref d, rfl, e1, OC.cl, OC.n_parts, l1, d, kd, rfl, e2, ?_⟩
    rw [dp.len]
    exact q
def spNeed (C : Addr) : Sp := fun vs H Q _ => ∃ (N : Addr → Prop) (o : Addr) (ps : List Pt) (i : Nat), vs = [.ref o, num i] ∧ StA N H o C ps ∧ i < ps.length ∧ Q .non H
theorem ok_need (T : Txt K mg) (OC : PtC K C) (c_is_whole : C8.Cal P w K mg base 1 "is_whole" spWhI []) (M : MAt K C "_need_part" "Parts._need_part" s_Parts__need_part ["self", "number"]) : Met P w K mg base 2 C "_need_part" (spNeed C) [] := by
  refine M.met OC.cl sc_Parts__need_part (fun vs H Q E h => ?_) (fun f cdv A outer s H vs Q E hr h => ?_)
  · obtain ⟨N, o, ps, i, rfl, _⟩ := h
    rfl
  · obtain ⟨N, o, ps, i, rfl, r, hi, q⟩ := h
    obtain ⟨dx, d, e, g, fs, kd, ke, kg, e1, l1, l2, l3, l4, nl, e2, e3, e4, dp, de, dg, lf, No, Nd, Ne, Ng, n1, n2, n3⟩ := r.ex
    obtain ⟨t, t1, t2⟩ := dp.at_ i _ (List.getElem?_eq_getElem hi)
    refine ⟨_, (pss_one (ps_if (PW.pt (pw_or (pt_not (pt_val (C8.pe_c c_is_whole hr (by decide) (by rfl) (pa_cons (pv 1) (pa_cons pe_int (pa_cons (pe_op op_sub (pe_fld (pv 0) rfl) pe_int) pa_nil)))))) (pw_or1 (pt_cmp (pc_dnotin (hu_of hr) (pv 1) (pe_fld (pv 0) rfl))))))
          (pss_one ps_never) pss_nil)), ?_⟩
    refine ⟨_, rfl, _, rfl, o, C, dx, fs, num ps.length, rfl, e1, OC.cl, OC.n_given, l2, _, _, rfl, rfl, ?_⟩
    refine ⟨(i : Nat), 0, (ps.length : Int) - 1, rfl, by omega, by omega, _, rfl, iteF ?_⟩
    refine ⟨_, rfl, _, rfl, o, C, dx, fs, .ref d, rfl, e1, OC.cl, OC.n_parts, l1, d, _, rfl, DGet.k (k := Sum.inl (i : Int)) e2, _, rfl, ?_⟩
    rw [t1]
    exact iteF q
def spPart (C : Addr) : Sp := fun vs H Q _ => ∃ (N : Addr → Prop) (o : Addr) (ps : List Pt) (i : Nat) (p : Pt), vs = [.ref o, num i] ∧ StA N H o C ps ∧ ps[i]? = some p ∧ ∀ t, H t = some (.tup (ptV p)) → Q (.ref t) H
theorem ok_part (T : Txt K mg) (OC : PtC K C) (m__need_part : Met P w K mg base 2 C "_need_part" (spNeed C) []) (M : MAt K C "part" "Parts.part" s_Parts_part ["self", "number"]) : Met P w K mg base 3 C "part" (spPart C) [] := by
  refine M.met OC.cl sc_Parts_part (fun vs H Q E h => ?_) (fun f cdv A outer s H vs Q E hr h => ?_)
  · obtain ⟨N, o, ps, i, p, rfl, _⟩ := h
    rfl
  · obtain ⟨N, o, ps, i, p, rfl, r, hi, q⟩ := h
    obtain ⟨dx, d, e, g, fs, kd, ke, kg, e1, l1, l2, l3, l4, nl, e2, e3, e4, dp, de, dg, lf, No, Nd, Ne, Ng, n1, n2, n3⟩ := r.ex
    obtain ⟨t, t1, t2⟩ := dp.at_ i p hi
    have hil : i < ps.length := by
      by_cases z : i < ps.length
      · exact z
      · rw [List.getElem?_eq_none (by omega)] at hi
        cases hi
    refine ⟨_, (pss_cons (ps_expr (pe_mt m__need_part hr (by decide) (pv 0) (pa_cons (pv 1) pa_nil)))
      (pss_one (ps_ret (pe_dget (hu_of hr) (pe_fld (pv 0) rfl) (pv 1) (fun _ _ => rfl))))), ?_⟩
    refine ⟨_, rfl, o, dx, fs, rfl, e1, nl _ (by decide), _, rfl, N, o, ps, i, rfl, r, hil, ?_⟩
    refine ⟨_, rfl, o, C, dx, fs, .ref d, rfl, e1, OC.cl, OC.n_parts, l1, _, rfl, d, _, rfl, (by rw [← t1]; exact DGet.k (k := Sum.inl (i : Int)) e2), q t t2⟩
end
end K32
set_option maxHeartbeats 1000000
namespace K32
open PySem PySem.Spec PyProof.Rows L2 Gd
open C8 (clsBody Met pe_mt pe_mt0)
theorem put_new {kvs : List (Key × V)} {k : Key} {v : V} (h : valV kvs k = none) : putK kvs k v = kvs ++ [(k, v)] := by
  unfold putK
  rw [if_neg]
  rw [valV_any, h]
  decide
theorem key_ne {k j : Nat} (h : k ≠ j) : ¬ ((Sum.inl ((k : Nat) : Int) : Key) = Sum.inl ((j : Nat) : Int)) := fun z => h (by
  have := Sum.inl.inj z
  omega)
theorem DicP.put {H : Hp} {kvs : List (Key × V)} {ps : List Pt} (h : DicP H kvs ps) {t : Addr} {p : Pt} (e : H t = some (.tup (ptV p))) : DicP H (putK kvs (Sum.inl ((ps.length : Nat) : Int)) (.ref t)) (ps ++ [p]) := by
  have hn := h.no ps.length (Nat.le_refl _)
  rw [put_new hn]
  refine ⟨?_, fun i x hx => ?_, fun k hk => ?_⟩
  · rw [List.map_append, h.keys, List.length_append]
    show _ = (List.range (ps.length + 1)).map _
    rw [List.range_succ, List.map_append]
    rfl
  · rw [valV_snoc _ _ _ _ hn]
    by_cases z : i = ps.length
    · subst z
      rw [if_pos rfl]
      rw [List.getElem?_append_right (Nat.le_refl _), Nat.sub_self] at hx
      cases (Option.some.inj hx)
      exact ⟨t, rfl, e⟩
    · rw [if_neg (key_ne z)]
      have hl : i < ps.length := by
        by_cases y : i < ps.length
        · exact y
        · rw [List.getElem?_eq_none (by rw [List.length_append]; show ps.length + 1 ≤ i; omega)] at hx
          cases hx
      rw [List.getElem?_append_left hl] at hx
      exact h.at_ i x hx
  · rw [List.length_append] at hk
    have hk : ps.length + 1 ≤ k := hk
    rw [valV_snoc _ _ _ _ hn, if_neg (key_ne (by omega))]
    exact h.no k (by omega)
theorem DicN.put {kvs : List (Key × V)} {n : Nat} (h : DicN kvs n) : DicN (putK kvs (Sum.inl ((n : Nat) : Int)) (num 0)) (n + 1) := by
  have hn := h.no n (Nat.le_refl _)
  rw [put_new hn]
  refine ⟨by rw [List.length_append, h.len]; rfl, fun i hi => ?_, fun k hk => ?_⟩
  · rw [valV_snoc _ _ _ _ hn]
    by_cases z : i = n
    · subst z
      rw [if_pos rfl]
      exact ⟨0, rfl⟩
    · rw [if_neg (key_ne z)]
      obtain ⟨c, c1⟩ := h.at_ i (by omega)
      exact ⟨c, c1⟩
  · rw [valV_snoc _ _ _ _ hn, if_neg (key_ne (by omega))]
    exact h.no k (by omega)
section
variable {P : Program} {w : World} {K : PySem.W.Frag} {mg : Str → Option Value} {base : Heap} {C : Addr}
def spMade (C : Addr) : Sp := fun vs H Q _ => ∃ (N : Addr → Prop) (o t : Addr) (ps : List Pt) (p : Pt), vs = [.ref o, .ref t] ∧ StA N H o C ps ∧ H t = some (.tup (ptV p)) ∧ ps.length < 1000 ∧
  ∀ H', StA N H' o C (ps ++ [p]) → (∀ c u, ¬ N c → H c = some u → H' c = some u) → KT H H' → Q (num ps.length) H'
theorem ok_made (T : Txt K mg) (OC : PtC K C) (M : MAt K C "_made" "Parts._made" s_Parts__made ["self", "part"]) : Met P w K mg base 1 C "_made" (spMade C) [] := by
  refine M.met OC.cl sc_Parts__made (fun vs H Q E h => ?_) (fun f cdv A outer s H vs Q E hr h => ?_)
  · obtain ⟨N, o, t, ps, p, rfl, _⟩ := h
    rfl
  · obtain ⟨N, o, t, ps, p, rfl, r, ht, hn, q⟩ := h
    obtain ⟨dx, d, e, g, fs, kd, ke, kg, e1, l1, l2, l3, l4, nl, e2, e3, e4, dp, de, dg, lf, No, Nd, Ne, Ng, n1, n2, n3⟩ := r.ex
    refine ⟨_, (pss_cons (ps_set (i := 2) sc_Parts__made.nd rfl (Or.inl rfl) (pe_fld (pv 0) rfl))
      (pss_cons (ps_fldaug (pv 0) pe_int in_add)
      (pss_cons (ps_dput (hu_of hr) (pe_fld (pv 0) rfl) (pv 2) (pv 1) rfl)
      (pss_cons (ps_dput (hu_of hr) (pe_fld (pv 0) rfl) (pv 2) pe_int rfl)
      (pss_cons (ps_dput (hu_of hr) (pe_fld (pv 0) rfl) (pv 2) pe_int rfl)
      (pss_one (ps_ret (pv 2)))))))), ?_⟩
    refine ⟨_, rfl, o, C, dx, fs, num ps.length, rfl, e1, OC.cl, OC.n_given, l2, ?_⟩
    have od : o ≠ d := fun z => by rw [z, e2] at e1; cases e1
    have oe : o ≠ e := fun z => by rw [z, e3] at e1; cases e1
    have og : o ≠ g := fun z => by rw [z, e4] at e1; cases e1
    refine ⟨_, rfl, o, C, dx, fs, num ps.length, rfl, e1, OC.cl, OC.n_given, l2, _, _, rfl, rfl, dx, fs, e1, by omega, ?_⟩
    have hlen := putF_len (v := .int ((ps.length : Int) + 1)) l2
    have ka : ∀ c u, c ≠ o → H c = some u → (upd H o (.ins C dx (putF "_given" (.int ((ps.length : Int) + 1)) fs))) c = some u := fun c u hc z => by
      rw [upd_ne hc]
      exact z
    have oa : (upd H o (.ins C dx (putF "_given" (.int ((ps.length : Int) + 1)) fs))) o = some (.ins C dx (putF "_given" (.int ((ps.length : Int) + 1)) fs)) := upd_same
    have q1 : (putF "_given" (.int ((ps.length : Int) + 1)) fs).lookup ("_parts" : Str) = some (.ref d) := by rw [lookup_putF, if_neg (by decide)]; exact l1
    have q2 : (putF "_given" (.int ((ps.length : Int) + 1)) fs).lookup ("_given" : Str) = some (num (ps.length + 1)) := by rw [lookup_putF, if_pos rfl]; rfl
    have q3 : (putF "_given" (.int ((ps.length : Int) + 1)) fs).lookup ("_pointing" : Str) = some (.ref e) := by rw [lookup_putF, if_neg (by decide)]; exact l3
    have q4 : (putF "_given" (.int ((ps.length : Int) + 1)) fs).lookup ("_held" : Str) = some (.ref g) := by rw [lookup_putF, if_neg (by decide)]; exact l4
    have ql : ∀ f, f ∉ fields → (putF "_given" (.int ((ps.length : Int) + 1)) fs).lookup f = none := fun g hg => by
      rw [lookup_putF, if_neg (fun z => hg (by rw [z]; decide))]
      exact nl g hg
    generalize putF "_given" (.int ((ps.length : Int) + 1)) fs = fa at *
    generalize upd H o (.ins C dx fa) = Ha at *
    have a2 := ka _ _ od.symm e2
    have a3 := ka _ _ oe.symm e3
    have a4 := ka _ _ og.symm e4
    have at_ : Ha t = some (.tup (ptV p)) := ka _ _ (fun z => by rw [z, e1] at ht; cases ht) ht
    have kpl := dp.len
    refine ⟨_, rfl, _, rfl, o, C, dx, fa, .ref d, rfl, oa, OC.cl, OC.n_parts, q1, _, rfl, d, _, rfl, DPut.k (k := Sum.inl (ps.length : Int)) a2 (small1000 (by omega)), ?_⟩
    have kb : ∀ c u, c ≠ d → Ha c = some u → (upd Ha d (.dK (putK kd (Sum.inl (ps.length : Int)) (.ref t)))) c = some u := fun c u hc z => by
      rw [upd_ne hc]
      exact z
    have db : (upd Ha d (.dK (putK kd (Sum.inl (ps.length : Int)) (.ref t)))) d = some (.dK (putK kd (Sum.inl (ps.length : Int)) (.ref t))) := upd_same
    generalize upd Ha d (.dK (putK kd (Sum.inl (ps.length : Int)) (.ref t))) = Hb at *
    have ob := kb _ _ od oa
    have b3 := kb _ _ n1.symm a3
    have b4 := kb _ _ n2.symm a4
    have dn1 := de.len
    have dn2 := dg.len
    refine ⟨_, rfl, o, C, dx, fa, .ref e, rfl, ob, OC.cl, OC.n_pointing, q3, _, rfl, e, _, rfl, DPut.k (k := Sum.inl (ps.length : Int)) b3 (small1000 (by omega)), ?_⟩
    have kc : ∀ c u, c ≠ e → Hb c = some u → (upd Hb e (.dK (putK ke (Sum.inl (ps.length : Int)) (.int 0)))) c = some u := fun c u hc z => by
      rw [upd_ne hc]
      exact z
    have ec : (upd Hb e (.dK (putK ke (Sum.inl (ps.length : Int)) (.int 0)))) e = some (.dK (putK ke (Sum.inl (ps.length : Int)) (.int 0))) := upd_same
    generalize upd Hb e (.dK (putK ke (Sum.inl (ps.length : Int)) (.int 0))) = Hc at *
    have oc := kc _ _ oe ob
    have c2 := kc _ _ n1 db
    have c4 := kc _ _ n3.symm b4
    refine ⟨_, rfl, o, C, dx, fa, .ref g, rfl, oc, OC.cl, OC.n_held, q4, _, rfl, g, _, rfl, DPut.k (k := Sum.inl (ps.length : Int)) c4 (small1000 (by omega)), ?_⟩
    have kd' : ∀ c u, c ≠ g → Hc c = some u → (upd Hc g (.dK (putK kg (Sum.inl (ps.length : Int)) (.int 0)))) c = some u := fun c u hc z => by
      rw [upd_ne hc]
      exact z
    have gd : (upd Hc g (.dK (putK kg (Sum.inl (ps.length : Int)) (.int 0)))) g = some (.dK (putK kg (Sum.inl (ps.length : Int)) (.int 0))) := upd_same
    generalize upd Hc g (.dK (putK kg (Sum.inl (ps.length : Int)) (.int 0))) = Hd at *
    have kt : KT H Hd := fun c ys z => kd' c _ (fun w => by rw [w, e4] at z; cases z) (kc c _ (fun w => by rw [w, e3] at z; cases z) (kb c _ (fun w => by rw [w, e2] at z; cases z) (ka c _ (fun w => by rw [w, e1] at z; cases z) z)))
    have pl : (ps ++ [p]).length = ps.length + 1 := by rw [List.length_append]; rfl
    refine ⟨_, rfl, q Hd ⟨⟨dx, d, e, g, fa, _, _, _, kd' _ _ og oc, q1, by rw [pl]; exact q2, q3, q4, ql, kd' _ _ n2 c2, kd' _ _ n3 ec, gd, (dp.kp kt).put (kt _ _ ht), by rw [pl]; exact de.put, by rw [pl]; exact dg.put, by omega, No, Nd, Ne, Ng, n1, n2, n3⟩, by rw [pl]; omega⟩ (fun c u hc z => ?_) kt⟩
    exact kd' _ _ (fun w => hc (w ▸ Ng)) (kc _ _ (fun w => hc (w ▸ Ne)) (kb _ _ (fun w => hc (w ▸ Nd)) (ka _ _ (fun w => hc (w ▸ No)) z)))
end
end K32
set_option maxHeartbeats 1000000
namespace K32
open PySem PySem.Spec PyProof.Rows L2 Gd
open C8 (clsBody Met pe_mt pe_mt0)
def big30 : Int := 10 ^ 30 - 1
section
variable {P : Program} {w : World} {K : PySem.W.Frag} {mg : Str → Option Value} {base : Heap} {C : Addr}
def spWorth : Sp := fun vs H Q _ => ∃ n : Int, vs = [.int n] ∧ -big30 ≤ n ∧ n ≤ big30 ∧ Q (.bl true) H
theorem ok_worth (T : Txt K mg) (c_is_whole : C8.Cal P w K mg base 1 "is_whole" spWhI []) (D : DefAt K mg "is_worth" s_is_worth ["thing"]) : C8.Cal P w K mg base 2 "is_worth" spWorth [] := by
  obtain ⟨f, fd, F, m, b⟩ := D.ex
  refine ⟨f, fd, _, [], F.ok sc_is_worth (fun vs H Q E h => ?_) (fun cdv A outer s H vs Q E hr h => ?_), m, F.kp, b, .nil⟩
  · obtain ⟨n, rfl, _⟩ := h
    rfl
  · obtain ⟨n, rfl, h1, h2, q⟩ := h
    refine ⟨_, (pss_one (ps_ret (C8.pe_c c_is_whole hr (by decide) (by rfl) (pa_cons (pv 0) (pa_cons (pe_un un_neg (pe_gi rfl T.g_MOST_WORTH)) (pa_cons (pe_gi rfl T.g_MOST_WORTH) pa_nil)))))), ?_⟩
    exact ⟨_, rfl, _, rfl, n, -big30, big30, rfl, h1, h2, q⟩
def spLeaf (C : Addr) : Sp := fun vs H Q _ => ∃ (N : Addr → Prop) (o : Addr) (ps : List Pt) (p : Nat) (wt : Int), vs = [.ref o, num p, .int wt] ∧ StA N H o C ps ∧ p ≤ 15 ∧ -big30 ≤ wt ∧ wt ≤ big30 ∧ ps.length < 1000 ∧
  ∀ H', StA N H' o C (ps ++ [.leaf p wt]) → (∀ c u, ¬ N c → H c = some u → H' c = some u) → KT H H' → Q (num ps.length) H'
theorem ok_leaf (T : Txt K mg) (OC : PtC K C) (c_is_whole : C8.Cal P w K mg base 1 "is_whole" spWhI []) (c_is_worth : C8.Cal P w K mg base 2 "is_worth" spWorth []) (m__made : Met P w K mg base 1 C "_made" (spMade C) []) (M : MAt K C "leaf" "Parts.leaf" s_Parts_leaf ["self", "place", "worth"]) : Met P w K mg base 3 C "leaf" (spLeaf C) [] := by
  refine M.met OC.cl sc_Parts_leaf (fun vs H Q E h => ?_) (fun f cdv A outer s H vs Q E hr h => ?_)
  · obtain ⟨N, o, ps, p, wt, rfl, _⟩ := h
    rfl
  · obtain ⟨N, o, ps, p, wt, rfl, r, hp, h1, h2, hn, q⟩ := h
    obtain ⟨dx, fs, e1, nl⟩ := r.ins
    refine ⟨_, (pss_cons (ps_if (pt_not (pt_val (C8.pe_c c_is_whole hr (by decide) (by rfl) (pa_cons (pv 1) (pa_cons pe_int (pa_cons (pe_op op_sub (pe_gi rfl T.g_MOST_PLACES) pe_int) pa_nil))))))
          (pss_one ps_never) pss_nil)
      (pss_cons (ps_if (pt_not (pt_val (C8.pe_c c_is_worth hr (by decide) (by rfl) (pa_cons (pv 2) pa_nil))))
          (pss_one ps_never) pss_nil)
      (pss_one (ps_ret (pe_mt m__made hr (by decide) (pv 0) (pa_cons (pe_tup (pa_cons pe_str (pa_cons (pv 1) (pa_cons (pv 2) pa_nil)))) pa_nil)))))), ?_⟩
    refine ⟨_, rfl, _, _, rfl, rfl, (p : Nat), 0, 15, rfl, by omega, by omega, _, rfl, iteF ?_⟩
    refine ⟨_, rfl, wt, rfl, h1, h2, _, rfl, iteF ?_⟩
    refine ⟨_, rfl, o, dx, fs, rfl, e1, nl _ (by decide), _, rfl, _, rfl, (by show 3 ≤ sizeLine; decide), fun t ht => ?_⟩
    have s1 := same_new (o := .tup (ptV (.leaf p wt))) ht
    have et : (upd H t (.tup (ptV (.leaf p wt)))) t = some (.tup (ptV (.leaf p wt))) := upd_same
    exact ⟨N, o, t, ps, .leaf p wt, rfl, r.same s1, et, hn, fun H' r' k kt => q H' r' (fun c u hc z => k c u hc (s1 _ _ z)) fun c ys z => kt c ys (s1 _ _ z)⟩
def spEnds : Sp := fun vs H Q _ => ∃ (t : Addr) (p : Pt), vs = [.ref t] ∧ H t = some (.tup (ptV p)) ∧ ∀ (u : Addr) (H' : Hp), H u = none → Same H H' → H' u = some (.tup [num (lowP p), num (highP p)]) → Q (.ref u) H'
theorem ok_ends (T : Txt K mg) (D : DefAt K mg "stretch_of" s_stretch_of ["part"]) : C8.Cal P w K mg base 1 "stretch_of" spEnds [] := by
  obtain ⟨f, fd, F, m, b⟩ := D.ex
  refine ⟨f, fd, _, [], F.ok sc_stretch_of (fun vs H Q E h => ?_) (fun cdv A outer s H vs Q E hr h => ?_), m, F.kp, b, .nil⟩
  · obtain ⟨t, p, rfl, _⟩ := h
    rfl
  · obtain ⟨t, p, rfl, ht, q⟩ := h
    refine ⟨_, (pss_cons (ps_if (pt_cmpR op_eq (pe_ix ix_tup (pv 0) pe_int (fun _ _ => rfl)) pe_str (nomark _))
          (pss_one (ps_ret (pe_tup (pa_cons (pe_ix ix_tup (pv 0) pe_int (fun _ _ => rfl)) (pa_cons (pe_op op_add (pe_ix ix_tup (pv 0) pe_int (fun _ _ => rfl)) pe_int) pa_nil))))) pss_nil)
      (pss_one (ps_ret (pe_tup (pa_cons (pe_ix ix_tup (pv 0) pe_int (fun _ _ => rfl)) (pa_cons (pe_ix ix_tup (pv 0) pe_int (fun _ _ => rfl)) pa_nil)))))), ?_⟩
    cases p with
    | leaf p wt =>
      refine ⟨_, rfl, t, _, _, .str "leaf", rfl, rfl, SqT.of ht, rfl, rfl, _, rfl, ite2 (fun _ => ?_) (fun z => absurd (by decide) z)⟩
      refine ⟨_, rfl, t, _, _, num p, rfl, rfl, SqT.of ht, rfl, _, rfl, t, _, _, num p, rfl, rfl, SqT.of ht, rfl, _, _, rfl, rfl, (by show 2 ≤ sizeLine; decide), fun u hu => ?_⟩
      exact q u _ hu (same_new hu) upd_same
    | fork lo hi l r =>
      refine ⟨_, rfl, t, _, _, .str "fork", rfl, rfl, SqT.of ht, rfl, rfl, _, rfl, ite2 (fun z => absurd z (by decide)) (fun _ => ?_)⟩
      refine ⟨_, rfl, t, _, _, num lo, rfl, rfl, SqT.of ht, rfl, _, rfl, t, _, _, num hi, rfl, rfl, SqT.of ht, rfl, (by show 2 ≤ sizeLine; decide), fun u hu => ?_⟩
      exact q u _ hu (same_new hu) upd_same
end
end K32
set_option maxHeartbeats 1000000
namespace K32
open PySem PySem.Spec PyProof.Rows L2 Gd
open C8 (clsBody Met pe_mt pe_mt0)
theorem can2 (a b : Nat) : PyData.canLay0 (.tuple [.int (a : Nat), .int (b : Nat)]) = true := by simp [PyData.canLay0, PyData.canLayAll0]
theorem sh2 (a b : Nat) : SeqAt.shaped (.tuple [.int (a : Nat), .int (b : Nat)]) = true := by
  unfold SeqAt.shaped
  simp [PyData.canLay0, PyData.canLayAll0, PyData.depth, PyData.depthAll]
theorem DicN.up {kvs : List (Key × V)} {n i : Nat} (h : DicN kvs n) (hi : i < n) (c : Nat) : DicN (putK kvs (Sum.inl ((i : Nat) : Int)) (num c)) n := by
  obtain ⟨c0, e0⟩ := h.at_ i hi
  have hl : (putK kvs (Sum.inl ((i : Nat) : Int)) (num c)).length = kvs.length := by
    unfold putK
    rw [valV_any, e0]
    simp
  refine ⟨by rw [hl, h.len], fun j hj => ?_, fun k hk => ?_⟩
  · rw [valV_put]
    by_cases z : j = i
    · subst z
      rw [if_pos rfl]
      exact ⟨c, rfl⟩
    · rw [if_neg (key_ne z)]
      exact h.at_ j hj
  · rw [valV_put, if_neg (key_ne (by omega))]
    exact h.no k hk
theorem lt_of {ps : List Pt} {i : Nat} {p : Pt} (h : ps[i]? = some p) : i < ps.length := by
  by_cases z : i < ps.length
  · exact z
  · rw [List.getElem?_eq_none (by omega)] at h
    cases h
section
variable {P : Program} {w : World} {K : PySem.W.Frag} {mg : Str → Option Value} {base : Heap} {C : Addr}
def spHalf (C : Addr) : Sp := fun vs H Q _ => ∃ (N : Addr → Prop) (o s : Addr) (ps : List Pt) (i : Nat) (p : Pt), vs = [.ref o, num i, .ref s] ∧ StA N H o C ps ∧ ps[i]? = some p ∧ H s = some (.tup [num (lowP p), num (highP p)]) ∧ ∀ H', Same H H' → Q .non H'
theorem ok_half (T : Txt K mg) (OC : PtC K C) (m__need_part : Met P w K mg base 2 C "_need_part" (spNeed C) []) (c_stretch_of : C8.Cal P w K mg base 1 "stretch_of" spEnds []) (M : MAt K C "_need_half" "Parts._need_half" s_Parts__need_half ["self", "number", "stretch"]) : Met P w K mg base 3 C "_need_half" (spHalf C) [] := by
  refine M.met OC.cl sc_Parts__need_half (fun vs H Q E h => ?_) (fun f cdv A outer s H vs Q E hr h => ?_)
  · obtain ⟨N, o, s0, ps, i, p, rfl, _⟩ := h
    rfl
  · obtain ⟨N, o, s0, ps, i, p, rfl, r, hi, hs, q⟩ := h
    obtain ⟨dx, d, e, g, fs, kd, ke, kg, e1, l1, l2, l3, l4, nl, e2, e3, e4, dp, de, dg, lf, No, Nd, Ne, Ng, n1, n2, n3⟩ := r.ex
    obtain ⟨t, t1, t2⟩ := dp.at_ i p hi
    refine ⟨_, (pss_cons (ps_expr (pe_mt m__need_part hr (by decide) (pv 0) (pa_cons (pv 1) pa_nil)))
      (pss_one (ps_if (pt_cmpR (op_neD (hu64 hr)) (C8.pe_c c_stretch_of hr (by decide) (by rfl) (pa_cons (pe_dget (hu_of hr) (pe_fld (pv 0) rfl) (pv 1) (fun _ _ => rfl)) pa_nil)) (pv 2) (nomark _))
          (pss_one ps_never) pss_nil))), ?_⟩
    refine ⟨_, rfl, o, dx, fs, rfl, e1, nl _ (by decide), _, rfl, N, o, ps, i, rfl, r, lt_of hi, ?_⟩
    refine ⟨_, rfl, o, C, dx, fs, .ref d, rfl, e1, OC.cl, OC.n_parts, l1, _, rfl, d, _, rfl, (by rw [← t1]; exact DGet.k (k := Sum.inl (i : Int)) e2), t, p, rfl, t2, fun u H1 hu s1 eu => ?_⟩
    refine ⟨_, rfl, _, _, .tup (SqT.of eu) (.cons (.int _) (.cons (.int _) .nil)), .tup (SqT.of (s1 _ _ hs)) (.cons (.int _) (.cons (.int _) .nil)), sh2 _ _, sh2 _ _, _, rfl, ?_⟩
    rw [PySem.SeqAt.eqv_refl _ (can2 _ _)]
    exact iteF (q H1 s1)
def spFork (C : Addr) : Sp := fun vs H Q _ => ∃ (N : Addr → Prop) (o : Addr) (ps : List Pt) (lo hi l r : Nat) (a b : Pt), vs = [.ref o, num lo, num hi, num l, num r] ∧ StA N H o C ps ∧ lo + 2 ≤ hi ∧ hi ≤ 16 ∧ ps[l]? = some a ∧ ps[r]? = some b ∧ lowP a = lo ∧ highP a = (lo + hi) / 2 ∧ lowP b = (lo + hi) / 2 ∧ highP b = hi ∧ ps.length < 1000 ∧
  ∀ H', StA N H' o C (ps ++ [.fork lo hi l r]) → (∀ c u, ¬ N c → H c = some u → H' c = some u) → KT H H' → Q (num ps.length) H'
theorem ok_fork (T : Txt K mg) (OC : PtC K C) (c_is_whole : C8.Cal P w K mg base 1 "is_whole" spWhI []) (m__need_half : Met P w K mg base 3 C "_need_half" (spHalf C) []) (m__made : Met P w K mg base 1 C "_made" (spMade C) []) (M : MAt K C "fork" "Parts.fork" s_Parts_fork ["self", "low", "high", "left", "right"]) : Met P w K mg base 4 C "fork" (spFork C) [] := by
  refine M.met OC.cl sc_Parts_fork (fun vs H Q E h => ?_) (fun f cdv A outer s H vs Q E hr h => ?_)
  · obtain ⟨N, o, ps, lo, hi, l, r, a, b, rfl, _⟩ := h
    rfl
  · obtain ⟨N, o, ps, lo, hi, l, r, a, b, rfl, x, h1, h2, ha, hb, a1, a2, b1, b2, hn, q⟩ := h
    obtain ⟨dx, fs, e1, nl⟩ := x.ins
    refine ⟨_, (pss_cons (ps_if (PW.pt (pw_or (pt_not (pt_val (C8.pe_c c_is_whole hr (by decide) (by rfl) (pa_cons (pv 1) (pa_cons pe_int (pa_cons (pe_gi rfl T.g_MOST_PLACES) pa_nil)))))) (pw_or1 (pt_not (pt_val (C8.pe_c c_is_whole hr (by decide) (by rfl) (pa_cons (pv 2) (pa_cons (pe_op op_add (pv 1) pe_int) (pa_cons (pe_gi rfl T.g_MOST_PLACES) pa_nil)))))))))
          (pss_one ps_never) pss_nil)
      (pss_cons (ps_set (i := 5) sc_Parts_fork.nd rfl (Or.inl rfl) (pe_op op_fdiv (pe_op op_add (pv 1) (pv 2)) pe_int))
      (pss_cons (ps_expr (pe_mt m__need_half hr (by decide) (pv 0) (pa_cons (pv 3) (pa_cons (pe_tup (pa_cons (pv 1) (pa_cons (pv 5) pa_nil))) pa_nil))))
      (pss_cons (ps_expr (pe_mt m__need_half hr (by decide) (pv 0) (pa_cons (pv 4) (pa_cons (pe_tup (pa_cons (pv 5) (pa_cons (pv 2) pa_nil))) pa_nil))))
      (pss_cons (ps_daug (hu_of hr) (pe_fld (pv 0) rfl) (pv 3) pe_int in_add (fun _ _ _ => rfl))
      (pss_cons (ps_daug (hu_of hr) (pe_fld (pv 0) rfl) (pv 4) pe_int in_add (fun _ _ _ => rfl))
      (pss_one (ps_ret (pe_mt m__made hr (by decide) (pv 0) (pa_cons (pe_tup (pa_cons pe_str (pa_cons (pv 1) (pa_cons (pv 2) (pa_cons (pv 3) (pa_cons (pv 4) pa_nil)))))) pa_nil)))))))))), ?_⟩
    refine ⟨_, rfl, (lo : Nat), 0, 16, rfl, by omega, by omega, _, rfl, iteF ?_⟩
    refine ⟨_, rfl, _, rfl, _, _, rfl, rfl, (hi : Nat), (lo : Nat) + 2, 16, rfl, by omega, by omega, _, rfl, iteF ?_⟩
    refine ⟨_, rfl, _, rfl, _, _, rfl, rfl, _, _, rfl, rfl, ⟨by decide, by decide⟩, ?_⟩
    have em : V.int ((((lo : Nat) : Int) + ((hi : Nat) : Int)) / 2) = num ((lo + hi) / 2) := by
      show V.int _ = V.int _
      congr 1
    rw [show ((fun (i j : Int) => V.int (i / j)) (((lo : Nat) : Int) + ((hi : Nat) : Int)) 2) = num ((lo + hi) / 2) from em]
    refine ⟨_, rfl, o, dx, fs, rfl, e1, nl _ (by decide), _, rfl, _, rfl, _, rfl, (by show 2 ≤ sizeLine; decide), fun t1 ht1 => ?_⟩
    have s1 := same_new (o := .tup [num lo, num ((lo + hi) / 2)]) ht1
    have et1 : (upd H t1 (.tup [num lo, num ((lo + hi) / 2)])) t1 = some (.tup [num lo, num ((lo + hi) / 2)]) := upd_same
    generalize upd H t1 (.tup [num lo, num ((lo + hi) / 2)]) = H1 at *
    refine ⟨N, o, t1, ps, l, a, rfl, x.same s1, ha, by rw [a1, a2]; exact et1, fun H2 s2 => ?_⟩
    have s12 := s1.trans s2
    refine ⟨_, rfl, o, dx, fs, rfl, s12 _ _ e1, nl _ (by decide), _, rfl, _, rfl, _, rfl, (by show 2 ≤ sizeLine; decide), fun t2 ht2 => ?_⟩
    have s3 := same_new (o := .tup [num ((lo + hi) / 2), num hi]) ht2
    have et2 : (upd H2 t2 (.tup [num ((lo + hi) / 2), num hi])) t2 = some (.tup [num ((lo + hi) / 2), num hi]) := upd_same
    generalize upd H2 t2 (.tup [num ((lo + hi) / 2), num hi]) = H3 at *
    refine ⟨N, o, t2, ps, r, b, rfl, x.same (s12.trans s3), hb, by rw [b1, b2]; exact et2, fun H4 s4 => ?_⟩
    have s04 := s12.trans (s3.trans s4)
    have x4 := x.same s04
    clear x e1 nl s1 s2 s3 s4 s12 et1 et2
    obtain ⟨dx, d, e, g, fs, kd, ke, kg, e1, l1, l2, l3, l4, nl, e2, e3, e4, dp, de, dg, lf, No, Nd, Ne, Ng, n1, n2, n3⟩ := x4.ex
    obtain ⟨cl, hcl⟩ := de.at_ l (lt_of ha)
    refine ⟨_, rfl, o, C, dx, fs, .ref e, rfl, e1, OC.cl, OC.n_pointing, l3, ?_⟩
    have few := x4.few
    have dn1 := de.len
    refine ⟨_, rfl, e, num cl, rfl, (by rw [← hcl]; exact DGet.k (k := Sum.inl (l : Int)) e3), _, _, rfl, rfl, _, DPut.k (k := Sum.inl (l : Int)) e3 (small1000 (by omega)), ?_⟩
    have ka : ∀ c u, c ≠ e → H4 c = some u → (upd H4 e (.dK (putK ke (Sum.inl (l : Int)) (.int ((cl : Int) + 1))))) c = some u := fun c u hc z => by
      rw [upd_ne hc]
      exact z
    have ea : (upd H4 e (.dK (putK ke (Sum.inl (l : Int)) (.int ((cl : Int) + 1))))) e = some (.dK (putK ke (Sum.inl (l : Int)) (.int ((cl : Int) + 1)))) := upd_same
    have de2 : DicN (putK ke (Sum.inl (l : Int)) (.int ((cl : Int) + 1))) ps.length := de.up (lt_of ha) (cl + 1)
    generalize upd H4 e (.dK (putK ke (Sum.inl (l : Int)) (.int ((cl : Int) + 1)))) = H5 at *
    generalize putK ke (Sum.inl (l : Int)) (.int ((cl : Int) + 1)) = ke2 at *
    have oe : o ≠ e := fun z => by rw [z, e3] at e1; cases e1
    have f1 := ka _ _ oe e1
    have f2 := ka _ _ n1 e2
    have f4 := ka _ _ n3.symm e4
    obtain ⟨cr, hcr⟩ := de2.at_ r (lt_of hb)
    have dn2 := de2.len
    refine ⟨_, rfl, o, C, dx, fs, .ref e, rfl, f1, OC.cl, OC.n_pointing, l3, ?_⟩
    refine ⟨_, rfl, e, num cr, rfl, (by rw [← hcr]; exact DGet.k (k := Sum.inl (r : Int)) ea), _, _, rfl, rfl, _, DPut.k (k := Sum.inl (r : Int)) ea (small1000 (by omega)), ?_⟩
    have kb : ∀ c u, c ≠ e → H5 c = some u → (upd H5 e (.dK (putK ke2 (Sum.inl (r : Int)) (.int ((cr : Int) + 1))))) c = some u := fun c u hc z => by
      rw [upd_ne hc]
      exact z
    have eb : (upd H5 e (.dK (putK ke2 (Sum.inl (r : Int)) (.int ((cr : Int) + 1))))) e = some (.dK (putK ke2 (Sum.inl (r : Int)) (.int ((cr : Int) + 1)))) := upd_same
    have de3 : DicN (putK ke2 (Sum.inl (r : Int)) (.int ((cr : Int) + 1))) ps.length := de2.up (lt_of hb) (cr + 1)
    generalize upd H5 e (.dK (putK ke2 (Sum.inl (r : Int)) (.int ((cr : Int) + 1)))) = H6 at *
    generalize putK ke2 (Sum.inl (r : Int)) (.int ((cr : Int) + 1)) = ke3 at *
    have k46 : ∀ c u, c ≠ e → H4 c = some u → H6 c = some u := fun c u hc z => kb c u hc (ka c u hc z)
    have kt46 : KT H4 H6 := fun c ys z => k46 c _ (fun w => by rw [w, e3] at z; cases z) z
    have x6 : StA N H6 o C ps := ⟨⟨dx, d, e, g, fs, kd, ke3, kg, kb _ _ oe f1, l1, l2, l3, l4, nl, kb _ _ n1 f2, eb, kb _ _ n3.symm f4, dp.kp kt46, de3, dg, lf, No, Nd, Ne, Ng, n1, n2, n3⟩, few⟩
    refine ⟨_, rfl, o, dx, fs, rfl, kb _ _ oe f1, nl _ (by decide), _, rfl, _, rfl, _, rfl, _, rfl, (by show 5 ≤ sizeLine; decide), fun t ht => ?_⟩
    have s7 := same_new (o := .tup (ptV (.fork lo hi l r))) ht
    have et : (upd H6 t (.tup (ptV (.fork lo hi l r)))) t = some (.tup (ptV (.fork lo hi l r))) := upd_same
    refine ⟨N, o, t, ps, .fork lo hi l r, rfl, x6.same s7, et, hn, fun H' r' k kt => q H' r' (fun c u hc z => k c u hc (s7 _ _ (k46 c u (fun w => hc (w ▸ Ne)) (s04 _ _ z)))) fun c ys z => kt c ys (s7 _ _ (kt46 c ys (s04 _ _ z)))⟩
end
end K32
set_option maxHeartbeats 1000000
namespace K32
open PySem PySem.Spec PyProof.Rows L2 Gd
open C8 (clsBody Met pe_mt pe_mt0)
theorem yesI {σ : L2.St} {H : Hp} {A B : Hp → Prop} (h : A H) : tYes σ H (fun b H3 => if b = true then A H3 else B H3) := by
  show if true = true then A H else B H
  rw [if_pos rfl]
  exact h
section
variable {P : Program} {w : World} {K : PySem.W.Frag} {mg : Str → Option Value} {base : Heap} {C : Addr}
def spWorths : Sp := fun vs H Q _ => ∃ (a : Addr) (ws : List Int), vs = [.ref a] ∧ (H a = some (.lst (ws.map V.int)) ∨ H a = some (.tup (ws.map V.int))) ∧ 1 ≤ ws.length ∧ ws.length ≤ 16 ∧ (∀ x, x ∈ ws → -big30 ≤ x ∧ x ≤ big30) ∧ ∀ H', Same H H' → Q (.bl true) H'
theorem ok_worths (T : Txt K mg) (c_is_worth : C8.Cal P w K mg base 2 "is_worth" spWorth []) (D : DefAt K mg "is_worths" s_is_worths ["thing"]) : C8.Cal P w K mg base 3 "is_worths" spWorths [] := by
  obtain ⟨f, fd, F, m, b⟩ := D.ex
  refine ⟨f, fd, _, [], F.ok sc_is_worths (fun vs H Q E h => ?_) (fun cdv A outer s H vs Q E hr h => ?_), m, F.kp, b, .nil⟩
  · obtain ⟨a, ws, rfl, _⟩ := h
    rfl
  · obtain ⟨a, ws, rfl, ha, h1, h2, hw, q⟩ := h
    have hlen : (ws.map V.int).length = ws.length := List.length_map _
    rcases ha with ha | ha
    · refine ⟨_, (pss_cons (ps_if (PW.pt (pw_or (pt_not (pt_val (pe_callB call_isiT (by rfl) T.b_isinstance boot_isinstance_ (pa_cons (pv 0) (pa_cons (pe_tup (pa_cons (pe_bltn (v := .ty "list") (by rfl) T.t_list boot_list_ rfl) (pa_cons (pe_bltn (v := .ty "tuple") (by rfl) T.t_tuple boot_tuple_ rfl) pa_nil))) pa_nil))))) (pw_or1 (pt_not (pt_chain op_le op_le pe_int (pe_callB call_len (by rfl) T.b_len boot_len_ (pa_cons (pv 0) pa_nil)) (pe_gi rfl T.g_MOST_PLACES))))))
          (pss_one (ps_ret pe_bl)) pss_nil)
      (pss_one (ps_ret (pe_callB (cr_all rfl) (by rfl) T.b_all boot_all_ (pa_cons (pe_lc (own := [("worth", 1)]) (g := gName 1) (tt := tYes) rfl sc_is_worths.nd (pi_list (pv 0)) (blkOk_by (own := [("worth", 1)]) (N := ["thing", "worth"]) (sc := defScope s_is_worths) (by decide +kernel)) (fun _ _ _ _ _ => pg_name (i := 1) sc_is_worths.nd rfl (Or.inl rfl)) (fun _ _ _ _ _ => pts_nil) (fun _ _ _ _ _ => (C8.pe_c c_is_worth hr (by decide) (by rfl) (pa_cons (pv 1) pa_nil)))) pa_nil))))), ?_⟩
      refine ⟨_, rfl, (by show 2 ≤ sizeLine; decide), fun p hp => ?_⟩
      have sm := same_new (o := .tup [.ty "list", .ty "tuple"]) hp
      have hp1 : (upd H p (.tup [.ty "list", .ty "tuple"])) p = some (.tup [.ty "list", .ty "tuple"]) := upd_same
      generalize upd H p (.tup [.ty "list", .ty "tuple"]) = H1 at *
      have a1 := sm _ _ ha
      refine ⟨_, p, _, _, _, true, rfl, hp1, .cons (.ty _) (.cons (.ty _) .nil), tyL (SqL.of a1), kSeq (.list []), _, rfl, iteF ?_⟩
      refine ⟨_, rfl, .ref a, _, rfl, .inl ⟨_, SqL.of a1, rfl⟩, _, _, rfl, rfl, _, rfl, ?_⟩
      rw [hlen, if_pos (decide_eq_true (by omega : (1 : Int) ≤ (ws.length : Nat)))]
      refine ⟨_, _, rfl, rfl, _, rfl, ?_⟩
      rw [show decide (((ws.length : Nat) : Int) ≤ 16) = true from decide_eq_true (by omega)]
      refine iteF ?_
      refine ⟨_, rfl, a, rfl, ⟨_, SqL.of a1⟩, fun D hD => ?_⟩
      refine lc_it (walk_list (xs := ws.map V.int)) (fun i H' => Same H1 H' ∧ H' D = some (.lst (((ws.take i).map fun _ => true).map V.bl))) ⟨same_new hD, upd_same⟩ (fun i H' _ hP => SqL.of (hP.1 _ _ a1)) (fun i x H2 H3 hi hP hY => ?_) (fun H2 hP => ?_)
      · obtain ⟨s2, d2⟩ := hP
        obtain ⟨rfl, hx⟩ := hY
        rw [List.getElem?_map] at hx
        obtain ⟨n, hn, rfl⟩ : ∃ n, ws[i]? = some n ∧ x = .int n := by
          cases z : ws[i]? with
          | none =>
            rw [z] at hx
            cases hx
          | some n =>
            rw [z] at hx
            exact ⟨n, rfl, (Option.some.inj hx).symm⟩
        obtain ⟨b1, b2⟩ := hw n (List.mem_of_getElem? hn)
        refine ⟨rfl, yesI ?_⟩
        refine ⟨_, rfl, n, rfl, b1, b2, _, d2, ?_, fun c u z => ?_, ?_⟩
        · rw [List.length_map, List.length_map, List.length_take]
          exact small1000 (by omega)
        · rw [upd_ne (ne_of_none z hD)]
          exact s2 _ _ z
        · rw [upd_same, List.take_add_one, hn]
          simp
      · obtain ⟨s2, d2⟩ := hP
        rw [hlen, List.take_length] at d2
        refine ⟨D, ws.map fun _ => true, rfl, SqL.of d2, ?_⟩
        rw [show (ws.map fun _ => true).all id = true from by simp]
        exact q H2 (sm.trans s2)
    · refine ⟨_, (pss_cons (ps_if (PW.pt (pw_or (pt_not (pt_val (pe_callB call_isiT (by rfl) T.b_isinstance boot_isinstance_ (pa_cons (pv 0) (pa_cons (pe_tup (pa_cons (pe_bltn (v := .ty "list") (by rfl) T.t_list boot_list_ rfl) (pa_cons (pe_bltn (v := .ty "tuple") (by rfl) T.t_tuple boot_tuple_ rfl) pa_nil))) pa_nil))))) (pw_or1 (pt_not (pt_chain op_le op_le pe_int (pe_callB call_len (by rfl) T.b_len boot_len_ (pa_cons (pv 0) pa_nil)) (pe_gi rfl T.g_MOST_PLACES))))))
          (pss_one (ps_ret pe_bl)) pss_nil)
      (pss_one (ps_ret (pe_callB (cr_all rfl) (by rfl) T.b_all boot_all_ (pa_cons (pe_lc (own := [("worth", 1)]) (g := gName 1) (tt := tYes) rfl sc_is_worths.nd (pi_tup (pv 0)) (blkOk_by (own := [("worth", 1)]) (N := ["thing", "worth"]) (sc := defScope s_is_worths) (by decide +kernel)) (fun _ _ _ _ _ => pg_name (i := 1) sc_is_worths.nd rfl (Or.inl rfl)) (fun _ _ _ _ _ => pts_nil) (fun _ _ _ _ _ => (C8.pe_c c_is_worth hr (by decide) (by rfl) (pa_cons (pv 1) pa_nil)))) pa_nil))))), ?_⟩
      refine ⟨_, rfl, (by show 2 ≤ sizeLine; decide), fun p hp => ?_⟩
      have sm := same_new (o := .tup [.ty "list", .ty "tuple"]) hp
      have hp1 : (upd H p (.tup [.ty "list", .ty "tuple"])) p = some (.tup [.ty "list", .ty "tuple"]) := upd_same
      generalize upd H p (.tup [.ty "list", .ty "tuple"]) = H1 at *
      have a1 := sm _ _ ha
      refine ⟨_, p, _, _, _, true, rfl, hp1, .cons (.ty _) (.cons (.ty _) .nil), tyT (SqT.of a1), kSeq (.tuple []), _, rfl, iteF ?_⟩
      refine ⟨_, rfl, .ref a, _, rfl, .inr ⟨_, SqT.of a1, rfl⟩, _, _, rfl, rfl, _, rfl, ?_⟩
      rw [hlen, if_pos (decide_eq_true (by omega : (1 : Int) ≤ (ws.length : Nat)))]
      refine ⟨_, _, rfl, rfl, _, rfl, ?_⟩
      rw [show decide (((ws.length : Nat) : Int) ≤ 16) = true from decide_eq_true (by omega)]
      refine iteF ?_
      refine ⟨_, rfl, a, rfl, ⟨_, SqT.of a1⟩, fun D hD => ?_⟩
      refine lc_it (walk_tup (xs := ws.map V.int)) (fun i H' => Same H1 H' ∧ H' D = some (.lst (((ws.take i).map fun _ => true).map V.bl))) ⟨same_new hD, upd_same⟩ (fun i H' _ hP => SqT.of (hP.1 _ _ a1)) (fun i x H2 H3 hi hP hY => ?_) (fun H2 hP => ?_)
      · obtain ⟨s2, d2⟩ := hP
        obtain ⟨rfl, hx⟩ := hY
        rw [List.getElem?_map] at hx
        obtain ⟨n, hn, rfl⟩ : ∃ n, ws[i]? = some n ∧ x = .int n := by
          cases z : ws[i]? with
          | none =>
            rw [z] at hx
            cases hx
          | some n =>
            rw [z] at hx
            exact ⟨n, rfl, (Option.some.inj hx).symm⟩
        obtain ⟨b1, b2⟩ := hw n (List.mem_of_getElem? hn)
        refine ⟨rfl, yesI ?_⟩
        refine ⟨_, rfl, n, rfl, b1, b2, _, d2, ?_, fun c u z => ?_, ?_⟩
        · rw [List.length_map, List.length_map, List.length_take]
          exact small1000 (by omega)
        · rw [upd_ne (ne_of_none z hD)]
          exact s2 _ _ z
        · rw [upd_same, List.take_add_one, hn]
          simp
      · obtain ⟨s2, d2⟩ := hP
        rw [hlen, List.take_length] at d2
        refine ⟨D, ws.map fun _ => true, rfl, SqL.of d2, ?_⟩
        rw [show (ws.map fun _ => true).all id = true from by simp]
        exact q H2 (sm.trans s2)
end
end K32
set_option maxHeartbeats 1000000
namespace K32
open PySem PySem.Spec PyProof.Rows L2 Gd
open C8 (clsBody Met pe_mt pe_mt0)
/-- the parts behind a stretch laid; its root is the last one -/
def blt (ws : List Int) : Nat → List Pt → Nat → Nat → List Pt
  | 0, ps, lo, _ => ps ++ [.leaf lo (ws.getD lo 0)]
  | f + 1, ps, lo, hi => if hi - lo = 1 then ps ++ [.leaf lo (ws.getD lo 0)] else
    blt ws f (blt ws f ps lo ((lo + hi) / 2)) ((lo + hi) / 2) hi ++ [.fork lo hi ((blt ws f ps lo ((lo + hi) / 2)).length - 1) ((blt ws f (blt ws f ps lo ((lo + hi) / 2)) ((lo + hi) / 2) hi).length - 1)]
theorem blt_one (ws : List Int) (f : Nat) (ps : List Pt) {lo hi : Nat} (h : hi - lo = 1) : blt ws f ps lo hi = ps ++ [.leaf lo (ws.getD lo 0)] := by
  cases f with
  | zero => rfl
  | succ f =>
    unfold blt
    rw [if_pos h]
theorem blt_facts (ws : List Int) : ∀ (f : Nat) (ps : List Pt) (lo hi : Nat), lo < hi → hi - lo ≤ 2 ^ f → (blt ws f ps lo hi).length + 1 = ps.length + 2 * (hi - lo) ∧ (∀ i, i < ps.length → (blt ws f ps lo hi)[i]? = ps[i]?) ∧ ∃ p, (blt ws f ps lo hi)[(blt ws f ps lo hi).length - 1]? = some p ∧ lowP p = lo ∧ highP p = hi := by
  have one : ∀ (ps : List Pt) (lo hi : Nat), lo < hi → hi - lo = 1 → (ps ++ [Pt.leaf lo (ws.getD lo 0)]).length + 1 = ps.length + 2 * (hi - lo) ∧ (∀ i, i < ps.length → (ps ++ [Pt.leaf lo (ws.getD lo 0)])[i]? = ps[i]?) ∧ ∃ p, (ps ++ [Pt.leaf lo (ws.getD lo 0)])[(ps ++ [Pt.leaf lo (ws.getD lo 0)]).length - 1]? = some p ∧ lowP p = lo ∧ highP p = hi := fun ps lo hi hl h1 => by
    refine ⟨by rw [List.length_append, h1]; rfl, fun i hi => List.getElem?_append_left hi, .leaf lo (ws.getD lo 0), ?_, rfl, ?_⟩
    · rw [List.length_append]
      show (ps ++ [_])[ps.length]? = _
      rw [List.getElem?_append_right (Nat.le_refl _), Nat.sub_self]
      rfl
    · show lo + 1 = hi
      omega
  intro f
  induction f with
  | zero =>
    intro ps lo hi hl hh
    have h1 : hi - lo = 1 := by
      have : (2 : Nat) ^ 0 = 1 := rfl
      omega
    rw [blt_one ws 0 ps h1]
    exact one ps lo hi hl h1
  | succ f ih =>
    intro ps lo hi hl hh
    by_cases h1 : hi - lo = 1
    · rw [blt_one ws (f + 1) ps h1]
      exact one ps lo hi hl h1
    · unfold blt
      rw [if_neg h1]
      have e2 : (2 : Nat) ^ (f + 1) = 2 * 2 ^ f := by rw [Nat.pow_succ]; omega
      obtain ⟨a1, a2, a3⟩ := ih ps lo ((lo + hi) / 2) (by omega) (by omega)
      generalize blt ws f ps lo ((lo + hi) / 2) = p1 at *
      obtain ⟨b1, b2, b3⟩ := ih p1 ((lo + hi) / 2) hi (by omega) (by omega)
      generalize blt ws f p1 ((lo + hi) / 2) hi = p2 at *
      refine ⟨by rw [List.length_append]; show p2.length + 1 + 1 = _; omega, fun i hi => ?_, .fork lo hi (p1.length - 1) (p2.length - 1), ?_, rfl, rfl⟩
      · rw [List.getElem?_append_left (by omega), b2 i (by omega), a2 i hi]
      · rw [List.length_append]
        show (p2 ++ [_])[p2.length]? = _
        rw [List.getElem?_append_right (Nat.le_refl _), Nat.sub_self]
        rfl
section
variable {P : Program} {w : World} {K : PySem.W.Frag} {mg : Str → Option Value} {base : Heap} {C : Addr}
def spHalves : Sp := fun vs H Q _ => ∃ (t : Addr) (lo hi l r : Nat), vs = [.ref t] ∧ H t = some (.tup (ptV (.fork lo hi l r))) ∧ ∀ (u : Addr) (H' : Hp), H u = none → Same H H' → H' u = some (.lst [num l, num r]) → Q (.ref u) H'
theorem ok_halves (T : Txt K mg) (D : DefAt K mg "halves_of" s_halves_of ["part"]) : C8.Cal P w K mg base 1 "halves_of" spHalves [] := by
  obtain ⟨f, fd, F, m, b⟩ := D.ex
  refine ⟨f, fd, _, [], F.ok sc_halves_of (fun vs H Q E h => ?_) (fun cdv A outer s H vs Q E hr h => ?_), m, F.kp, b, .nil⟩
  · obtain ⟨t, lo, hi, l, r, rfl, _⟩ := h
    rfl
  · obtain ⟨t, lo, hi, l, r, rfl, ht, q⟩ := h
    refine ⟨_, (pss_cons (ps_if (pt_cmpR op_eq (pe_ix ix_tup (pv 0) pe_int (fun _ _ => rfl)) pe_str (nomark _))
          (pss_one (ps_ret (pe_lst pa_nil))) pss_nil)
      (pss_one (ps_ret (pe_lst (pa_cons (pe_ix ix_tup (pv 0) pe_int (fun _ _ => rfl)) (pa_cons (pe_ix ix_tup (pv 0) pe_int (fun _ _ => rfl)) pa_nil)))))), ?_⟩
    refine ⟨_, rfl, t, _, _, .str "fork", rfl, rfl, SqT.of ht, rfl, rfl, _, rfl, ite2 (fun z => absurd z (by decide)) (fun _ => ?_)⟩
    refine ⟨_, rfl, t, _, _, num l, rfl, rfl, SqT.of ht, rfl, _, rfl, t, _, _, num r, rfl, rfl, SqT.of ht, rfl, (by show 2 ≤ sizeLine; decide), fun u hu => ?_⟩
    exact q u _ hu (same_new hu) upd_same
/-- worths, as a list or a tuple -/
def WsAt (H : Hp) (a : Addr) (ws : List Int) (tup : Bool) : Prop := H a = some (if tup = true then .tup (ws.map V.int) else .lst (ws.map V.int))
def spB (C : Addr) (tup : Bool) : Nat → Sp
  | 0 => fun _ _ _ _ => False
  | h + 1 => fun vs H Q _ => ∃ (N : Addr → Prop) (o a : Addr) (ps : List Pt) (ws : List Int) (lo hi : Nat), vs = [.ref o, .ref a, num lo, num hi] ∧ StA N H o C ps ∧ WsAt H a ws tup ∧ ¬ N a ∧ (∀ x, x ∈ ws → -big30 ≤ x ∧ x ≤ big30) ∧ lo < hi ∧ hi ≤ ws.length ∧ ws.length ≤ 16 ∧ hi - lo ≤ 2 ^ h ∧ ps.length + 2 * (hi - lo) ≤ 1000 ∧
    ∀ H', StA N H' o C (blt ws h ps lo hi) → (∀ c u, ¬ N c → H c = some u → H' c = some u) → KT H H' → Q (num ((blt ws h ps lo hi).length - 1)) H'
theorem ok_bs (tup : Bool) (T : Txt K mg) (OC : PtC K C) (m_leaf : Met P w K mg base 3 C "leaf" (spLeaf C) []) (m_fork : Met P w K mg base 4 C "fork" (spFork C) []) (D : DefAt K mg "_built_stretch" s__built_stretch ["parts", "worths", "low", "high"]) : ∀ h : Nat, C8.Cal P w K mg base (5 + h) "_built_stretch" (spB C tup h) [] := by
  obtain ⟨f, fd, F, m, b⟩ := D.ex
  intro h
  induction h with
  | zero =>
    refine ⟨f, fd, _, [], F.ok sc__built_stretch (fun vs H Q E h => h.elim) (fun cdv A outer s H vs Q E hr h => h.elim), m, F.kp, b, .nil⟩
  | succ h c__built_stretch =>
    refine ⟨f, fd, _, [], F.ok sc__built_stretch (fun vs H Q E h => ?_) (fun cdv A outer s H vs Q E hr h => ?_), m, F.kp, b, .nil⟩
    · obtain ⟨N, o, a, ps, ws, lo, hi, rfl, _⟩ := h
      rfl
    · obtain ⟨N, o, a, ps, ws, lo, hi, rfl, x, ha, na, hw, h1, h2, h3, h4, h5, q⟩ := h
      obtain ⟨dx, fs, e1, nl⟩ := x.ins
      have hlo : lo < ws.length := by omega
      have hwl : (ws.map V.int)[lo]? = some (.int (ws.getD lo 0)) := by
        rw [List.getElem?_map, List.getElem?_eq_getElem hlo, List.getD_eq_getElem?_getD, List.getElem?_eq_getElem hlo]
        rfl
      have hwm : ws.getD lo 0 ∈ ws := by
        rw [List.getD_eq_getElem?_getD, List.getElem?_eq_getElem hlo]
        exact List.getElem_mem hlo
      cases tup with
      | false =>
        refine ⟨_, (pss_cons (ps_if (pt_cmpR op_eq (pe_op op_sub (pv 3) (pv 2)) pe_int (nomark _))
          (pss_one (ps_ret (pe_mt m_leaf hr (show 3 ≤ 5 + h from by omega) (pv 0) (pa_cons (pv 2) (pa_cons (pe_ix ix_list (pv 1) (pv 2) (fun _ _ => rfl)) pa_nil))))) pss_nil)
      (pss_cons (ps_set (i := 4) sc__built_stretch.nd rfl (Or.inl rfl) (pe_op op_fdiv (pe_op op_add (pv 2) (pv 3)) pe_int))
      (pss_cons (ps_set (i := 5) sc__built_stretch.nd rfl (Or.inl rfl) (C8.pe_c c__built_stretch hr (show 5 + h ≤ 5 + h from Nat.le_refl _) (by rfl) (pa_cons (pv 0) (pa_cons (pv 1) (pa_cons (pv 2) (pa_cons (pv 4) pa_nil))))))
      (pss_cons (ps_set (i := 6) sc__built_stretch.nd rfl (Or.inl rfl) (C8.pe_c c__built_stretch hr (show 5 + h ≤ 5 + h from Nat.le_refl _) (by rfl) (pa_cons (pv 0) (pa_cons (pv 1) (pa_cons (pv 4) (pa_cons (pv 3) pa_nil))))))
      (pss_one (ps_ret (pe_mt m_fork hr (show 4 ≤ 5 + h from by omega) (pv 0) (pa_cons (pv 2) (pa_cons (pv 3) (pa_cons (pv 5) (pa_cons (pv 6) pa_nil))))))))))), ?_⟩
        refine ⟨_, rfl, _, rfl, _, _, rfl, rfl, rfl, _, rfl, ite2 (fun hc => ?_) (fun hc => ?_)⟩
        · have h1' : hi - lo = 1 := by
            have := V.int.inj (of_decide_eq_true hc)
            omega
          refine ⟨_, rfl, o, dx, fs, rfl, e1, nl _ (by decide), _, rfl, _, rfl, _, rfl, a, _, _, .int (ws.getD lo 0), rfl, rfl, SqL.of ha, atI_nat hwl, ?_⟩
          obtain ⟨b1, b2⟩ := hw _ hwm
          rw [blt_one ws h ps h1'] at q
          refine ⟨N, o, ps, lo, ws.getD lo 0, rfl, x, by omega, b1, b2, by omega, fun H' x' k kt => ?_⟩
          have := q H' x' k kt
          rw [List.length_append] at this
          exact this
        · have hn1 : ¬ hi - lo = 1 := fun z => hc (decide_eq_true (by show V.int _ = V.int _; congr 1; omega))
          obtain ⟨g, rfl⟩ : ∃ g, h = g + 1 := by
            cases h with
            | zero =>
              have : (2 : Nat) ^ 0 = 1 := rfl
              omega
            | succ g => exact ⟨g, rfl⟩
          have e2 : (2 : Nat) ^ (g + 1) = 2 * 2 ^ g := by rw [Nat.pow_succ]; omega
          have em : V.int ((((lo : Nat) : Int) + ((hi : Nat) : Int)) / 2) = num ((lo + hi) / 2) := by
            show V.int _ = V.int _
            congr 1
          refine ⟨_, rfl, _, rfl, _, _, rfl, rfl, _, _, rfl, rfl, ⟨by decide, by decide⟩, ?_⟩
          rw [show ((fun (i j : Int) => V.int (i / j)) (((lo : Nat) : Int) + ((hi : Nat) : Int)) 2) = num ((lo + hi) / 2) from em]
          obtain ⟨a1, a2, pa, a3, a4, a5⟩ := blt_facts ws g ps lo ((lo + hi) / 2) (by omega) (by omega)
          refine ⟨_, rfl, _, rfl, _, rfl, _, rfl, N, o, a, ps, ws, lo, (lo + hi) / 2, rfl, x, ha, na, hw, by omega, by omega, h3, by omega, by omega, fun H1 x1 k1 kt1 => ?_⟩
          unfold blt at q
          rw [if_neg hn1] at q
          generalize blt ws g ps lo ((lo + hi) / 2) = p1 at *
          obtain ⟨b1, b2, pb, b3, b4, b5⟩ := blt_facts ws g p1 ((lo + hi) / 2) hi (by omega) (by omega)
          have ha1 : WsAt H1 a ws false := k1 _ _ na ha
          refine ⟨_, rfl, _, rfl, _, rfl, _, rfl, N, o, a, p1, ws, (lo + hi) / 2, hi, rfl, x1, ha1, na, hw, by omega, by omega, h3, by omega, by omega, fun H2 x2 k2 kt2 => ?_⟩
          generalize blt ws g p1 ((lo + hi) / 2) hi = p2 at *
          obtain ⟨dx2, fs2, e3, nl2⟩ := x2.ins
          have a3' : p2[p1.length - 1]? = some pa := by rw [b2 _ (by omega)]; exact a3
          refine ⟨_, rfl, o, dx2, fs2, rfl, e3, nl2 _ (by decide), _, rfl, _, rfl, _, rfl, _, rfl, N, o, p2, lo, hi, p1.length - 1, p2.length - 1, pa, pb, rfl, x2, by omega, by omega, a3', b3, a4, a5, b4, b5, by omega, fun H3 x3 k3 kt3 => ?_⟩
          have := q H3 x3 (fun c u hc z => k3 c u hc (k2 c u hc (k1 c u hc z))) fun c ys z => kt3 c ys (kt2 c ys (kt1 c ys z))
          rw [List.length_append] at this
          exact this
      | true =>
        refine ⟨_, (pss_cons (ps_if (pt_cmpR op_eq (pe_op op_sub (pv 3) (pv 2)) pe_int (nomark _))
          (pss_one (ps_ret (pe_mt m_leaf hr (show 3 ≤ 5 + h from by omega) (pv 0) (pa_cons (pv 2) (pa_cons (pe_ix ix_tup (pv 1) (pv 2) (fun _ _ => rfl)) pa_nil))))) pss_nil)
      (pss_cons (ps_set (i := 4) sc__built_stretch.nd rfl (Or.inl rfl) (pe_op op_fdiv (pe_op op_add (pv 2) (pv 3)) pe_int))
      (pss_cons (ps_set (i := 5) sc__built_stretch.nd rfl (Or.inl rfl) (C8.pe_c c__built_stretch hr (show 5 + h ≤ 5 + h from Nat.le_refl _) (by rfl) (pa_cons (pv 0) (pa_cons (pv 1) (pa_cons (pv 2) (pa_cons (pv 4) pa_nil))))))
      (pss_cons (ps_set (i := 6) sc__built_stretch.nd rfl (Or.inl rfl) (C8.pe_c c__built_stretch hr (show 5 + h ≤ 5 + h from Nat.le_refl _) (by rfl) (pa_cons (pv 0) (pa_cons (pv 1) (pa_cons (pv 4) (pa_cons (pv 3) pa_nil))))))
      (pss_one (ps_ret (pe_mt m_fork hr (show 4 ≤ 5 + h from by omega) (pv 0) (pa_cons (pv 2) (pa_cons (pv 3) (pa_cons (pv 5) (pa_cons (pv 6) pa_nil))))))))))), ?_⟩
        refine ⟨_, rfl, _, rfl, _, _, rfl, rfl, rfl, _, rfl, ite2 (fun hc => ?_) (fun hc => ?_)⟩
        · have h1' : hi - lo = 1 := by
            have := V.int.inj (of_decide_eq_true hc)
            omega
          refine ⟨_, rfl, o, dx, fs, rfl, e1, nl _ (by decide), _, rfl, _, rfl, _, rfl, a, _, _, .int (ws.getD lo 0), rfl, rfl, SqT.of ha, atI_nat hwl, ?_⟩
          obtain ⟨b1, b2⟩ := hw _ hwm
          rw [blt_one ws h ps h1'] at q
          refine ⟨N, o, ps, lo, ws.getD lo 0, rfl, x, by omega, b1, b2, by omega, fun H' x' k kt => ?_⟩
          have := q H' x' k kt
          rw [List.length_append] at this
          exact this
        · have hn1 : ¬ hi - lo = 1 := fun z => hc (decide_eq_true (by show V.int _ = V.int _; congr 1; omega))
          obtain ⟨g, rfl⟩ : ∃ g, h = g + 1 := by
            cases h with
            | zero =>
              have : (2 : Nat) ^ 0 = 1 := rfl
              omega
            | succ g => exact ⟨g, rfl⟩
          have e2 : (2 : Nat) ^ (g + 1) = 2 * 2 ^ g := by rw [Nat.pow_succ]; omega
          have em : V.int ((((lo : Nat) : Int) + ((hi : Nat) : Int)) / 2) = num ((lo + hi) / 2) := by
            show V.int _ = V.int _
            congr 1
          refine ⟨_, rfl, _, rfl, _, _, rfl, rfl, _, _, rfl, rfl, ⟨by decide, by decide⟩, ?_⟩
          rw [show ((fun (i j : Int) => V.int (i / j)) (((lo : Nat) : Int) + ((hi : Nat) : Int)) 2) = num ((lo + hi) / 2) from em]
          obtain ⟨a1, a2, pa, a3, a4, a5⟩ := blt_facts ws g ps lo ((lo + hi) / 2) (by omega) (by omega)
          refine ⟨_, rfl, _, rfl, _, rfl, _, rfl, N, o, a, ps, ws, lo, (lo + hi) / 2, rfl, x, ha, na, hw, by omega, by omega, h3, by omega, by omega, fun H1 x1 k1 kt1 => ?_⟩
          unfold blt at q
          rw [if_neg hn1] at q
          generalize blt ws g ps lo ((lo + hi) / 2) = p1 at *
          obtain ⟨b1, b2, pb, b3, b4, b5⟩ := blt_facts ws g p1 ((lo + hi) / 2) hi (by omega) (by omega)
          have ha1 : WsAt H1 a ws true := kt1 _ _ ha
          refine ⟨_, rfl, _, rfl, _, rfl, _, rfl, N, o, a, p1, ws, (lo + hi) / 2, hi, rfl, x1, ha1, na, hw, by omega, by omega, h3, by omega, by omega, fun H2 x2 k2 kt2 => ?_⟩
          generalize blt ws g p1 ((lo + hi) / 2) hi = p2 at *
          obtain ⟨dx2, fs2, e3, nl2⟩ := x2.ins
          have a3' : p2[p1.length - 1]? = some pa := by rw [b2 _ (by omega)]; exact a3
          refine ⟨_, rfl, o, dx2, fs2, rfl, e3, nl2 _ (by decide), _, rfl, _, rfl, _, rfl, _, rfl, N, o, p2, lo, hi, p1.length - 1, p2.length - 1, pa, pb, rfl, x2, by omega, by omega, a3', b3, a4, a5, b4, b5, by omega, fun H3 x3 k3 kt3 => ?_⟩
          have := q H3 x3 (fun c u hc z => k3 c u hc (k2 c u hc (k1 c u hc z))) fun c ys z => kt3 c ys (kt2 c ys (kt1 c ys z))
          rw [List.length_append] at this
          exact this
end
end K32
set_option maxHeartbeats 1000000
namespace K32
open PySem PySem.Spec PyProof.Rows L2 Gd
open C8 (clsBody Met pe_mt pe_mt0)
/-- a store whose forks stand on their halves -/
def Wf (ps : List Pt) : Prop := ∀ (i : Nat) (p : Pt), ps[i]? = some p → match p with
  | .leaf q _ => q ≤ 15
  | .fork lo hi l r => lo + 2 ≤ hi ∧ hi ≤ 16 ∧ l < i ∧ r < i ∧ ∃ a b, ps[l]? = some a ∧ ps[r]? = some b ∧ lowP a = lo ∧ highP a = (lo + hi) / 2 ∧ lowP b = (lo + hi) / 2 ∧ highP b = hi
/-- the way from a root down to a place -/
def down (ps : List Pt) : Nat → Nat → Nat → List Nat
  | 0, i, _ => [i]
  | f + 1, i, pl => match ps[i]? with
    | some (.fork lo hi l r) => i :: down ps f (if pl < (lo + hi) / 2 then l else r) pl
    | _ => [i]
theorem none_of' {H H' : Hp} {p : Addr} (sm : Same H H') (h : H' p = none) : H p = none := by
  cases e : H p with
  | none => rfl
  | some u =>
    rw [sm p u e] at h
    cases h
theorem down_leaf {ps : List Pt} {i pl q : Nat} {wt : Int} (h : ps[i]? = some (.leaf q wt)) : ∀ f, down ps f i pl = [i]
  | 0 => rfl
  | f + 1 => by
    unfold down
    rw [h]
theorem down_fork {ps : List Pt} {i pl lo hi l r f : Nat} (h : ps[i]? = some (.fork lo hi l r)) : down ps (f + 1) i pl = i :: down ps f (if pl < (lo + hi) / 2 then l else r) pl := by
  rw [down, h]
section
variable {P : Program} {w : World} {K : PySem.W.Frag} {mg : Str → Option Value} {base : Heap} {C : Addr}
def spBuilt (C : Addr) : Sp := fun vs H Q _ => ∃ (tup : Bool) (N : Addr → Prop) (o a : Addr) (ps : List Pt) (ws : List Int), vs = [.ref o, .ref a] ∧ StA N H o C ps ∧ WsAt H a ws tup ∧ ¬ N a ∧ (∀ x, x ∈ ws → -big30 ≤ x ∧ x ≤ big30) ∧ 1 ≤ ws.length ∧ ws.length ≤ 16 ∧ ps.length ≤ 960 ∧
  ∀ H', StA N H' o C (blt ws 4 ps 0 ws.length) → (∀ c u, ¬ N c → H c = some u → H' c = some u) → KT H H' → Q (num ((blt ws 4 ps 0 ws.length).length - 1)) H'
theorem ok_built (T : Txt K mg) (c_is_worths : C8.Cal P w K mg base 3 "is_worths" spWorths []) (cb : ∀ tup : Bool, C8.Cal P w K mg base 10 "_built_stretch" (spB C tup 5) []) (D : DefAt K mg "built" s_built ["parts", "worths"]) : C8.Cal P w K mg base 11 "built" (spBuilt C) [] := by
  obtain ⟨f, fd, F, m, b⟩ := D.ex
  refine ⟨f, fd, _, [], F.ok sc_built (fun vs H Q E h => ?_) (fun cdv A outer s H vs Q E hr h => ?_), m, F.kp, b, .nil⟩
  · obtain ⟨tup, N, o, a, ps, ws, rfl, _⟩ := h
    rfl
  · obtain ⟨tup, N, o, a, ps, ws, rfl, x, ha, na, hw, h1, h2, h3, q⟩ := h
    have c__built_stretch := cb tup
    refine ⟨_, (pss_cons (ps_if (pt_not (pt_val (C8.pe_c c_is_worths hr (by decide) (by rfl) (pa_cons (pv 1) pa_nil))))
          (pss_one ps_never) pss_nil)
      (pss_one (ps_ret (C8.pe_c c__built_stretch hr (by decide) (by rfl) (pa_cons (pv 0) (pa_cons (pv 1) (pa_cons pe_int (pa_cons (pe_callB call_len (by rfl) T.b_len boot_len_ (pa_cons (pv 1) pa_nil)) pa_nil)))))))), ?_⟩
    have hor : H a = some (.lst (ws.map V.int)) ∨ H a = some (.tup (ws.map V.int)) := by
      cases tup with
      | false => exact .inl ha
      | true => exact .inr ha
    refine ⟨_, rfl, a, ws, rfl, hor, h1, h2, hw, fun H1 s1 => ⟨_, rfl, iteF ?_⟩⟩
    have ha1 : WsAt H1 a ws tup := s1 _ _ ha
    have hlen : LenV K (.ref a) H1 ws.length := by
      cases tup with
      | false => exact .inl ⟨_, SqL.of ha1, (List.length_map _).symm⟩
      | true => exact .inr ⟨_, SqT.of ha1, (List.length_map _).symm⟩
    refine ⟨_, rfl, _, rfl, _, rfl, .ref a, _, rfl, hlen, N, o, a, ps, ws, 0, ws.length, rfl, x.same s1, ha1, na, hw, by omega, Nat.le_refl _, h2, (by have : (2 : Nat) ^ 4 = 16 := rfl; omega), by omega, fun H2 x2 k2 kt2 => ?_⟩
    exact q H2 x2 (fun c u hc z => k2 c u hc (s1 _ _ z)) fun c ys z => kt2 c ys (s1 _ _ z)
def spDown (C : Addr) : Sp := fun vs H Q _ => ∃ (N : Addr → Prop) (o : Addr) (ps : List Pt) (i pl : Nat) (p : Pt), vs = [.ref o, num i, num pl] ∧ StA N H o C ps ∧ Wf ps ∧ ps[i]? = some p ∧ lowP p ≤ pl ∧ pl < highP p ∧ ∀ (a : Addr) (H' : Hp), H a = none → Same H H' → H' a = some (.lst ((down ps 16 i pl).map num)) → Q (.ref a) H'
theorem ok_down (T : Txt K mg) (OC : PtC K C) (c_is_whole : C8.Cal P w K mg base 1 "is_whole" spWhI []) (c_stretch_of : C8.Cal P w K mg base 1 "stretch_of" spEnds []) (c_halves_of : C8.Cal P w K mg base 1 "halves_of" spHalves []) (m_part : Met P w K mg base 3 C "part" (spPart C) []) (D : DefAt K mg "way_down" s_way_down ["parts", "root", "place"]) : C8.Cal P w K mg base 4 "way_down" (spDown C) [] := by
  obtain ⟨f, fd, F, m, b⟩ := D.ex
  refine ⟨f, fd, _, [], F.ok sc_way_down (fun vs H Q E h => ?_) (fun cdv A outer s H vs Q E hr h => ?_), m, F.kp, b, .nil⟩
  · obtain ⟨N, o, ps, i, pl, p, rfl, _⟩ := h
    rfl
  · obtain ⟨N, o, ps, i, pl, p, rfl, x, wf, hi, h1, h2, q⟩ := h
    obtain ⟨dx, fs, e1, nl⟩ := x.ins
    refine ⟨_, (pss_cons (ps_asg (C8.pe_c c_stretch_of hr (by decide) (by rfl) (pa_cons (pe_mt m_part hr (by decide) (pv 0) (pa_cons (pv 1) pa_nil)) pa_nil)) (pg_tup (by rfl) (pgs_cons (pg_name (i := 3) sc_way_down.nd rfl (Or.inl rfl)) (pgs_cons (pg_name (i := 4) sc_way_down.nd rfl (Or.inl rfl)) pgs_nil))))
      (pss_cons (ps_if (pt_not (pt_val (C8.pe_c c_is_whole hr (by decide) (by rfl) (pa_cons (pv 2) (pa_cons (pv 3) (pa_cons (pe_op op_sub (pv 4) pe_int) pa_nil))))))
          (pss_one ps_never) pss_nil)
      (pss_cons (ps_set (i := 5) sc_way_down.nd rfl (Or.inl rfl) (pe_lst (pa_cons (pv 1) pa_nil)))
      (pss_cons (ps_while PassesOwn.never (pt_cmpR op_gt (pe_op op_sub (pv 4) (pv 3)) pe_int (nomark _))
          (pss_cons (ps_asg (C8.pe_c c_halves_of hr (by decide) (by rfl) (pa_cons (pe_mt m_part hr (by decide) (pv 0) (pa_cons (pe_ix ix_list (pv 5) (pe_un un_neg pe_int) (fun _ _ => rfl)) pa_nil)) pa_nil)) (pg_unl (by rfl) (pgs_cons (pg_name (i := 6) sc_way_down.nd rfl (Or.inl rfl)) (pgs_cons (pg_name (i := 7) sc_way_down.nd rfl (Or.inl rfl)) pgs_nil))))
          (pss_cons (ps_set (i := 8) sc_way_down.nd rfl (Or.inl rfl) (pe_op op_fdiv (pe_op op_add (pv 3) (pv 4)) pe_int))
          (pss_one (ps_if (pt_cmpR op_lt (pv 2) (pv 8) (nomark _))
              (pss_cons (ps_set (i := 4) sc_way_down.nd rfl (Or.inl rfl) (pv 8))
              (pss_one (ps_expr (pe_bm PySem.F.plainAttrs_list PySem.F.slot_list_append PySem.F.type_list_append mt_append (pv 5) (pa_cons (pv 6) pa_nil))))) 
              (pss_cons (ps_set (i := 3) sc_way_down.nd rfl (Or.inl rfl) (pv 8))
              (pss_one (ps_expr (pe_bm PySem.F.plainAttrs_list PySem.F.slot_list_append PySem.F.type_list_append mt_append (pv 5) (pa_cons (pv 7) pa_nil))))))))))
      (pss_one (ps_ret (pv 5))))))), ?_⟩
    refine ⟨_, rfl, o, dx, fs, rfl, e1, nl _ (by decide), _, rfl, N, o, ps, i, p, rfl, x, hi, fun t ht => ?_⟩
    refine ⟨t, p, rfl, ht, fun u H1 hu s1 eu => ?_⟩
    refine ⟨u, _, rfl, SqT.of eu, rfl, _, _, rfl, _, _, rfl, rfl, ?_⟩
    have hp16 : highP p ≤ 16 := by
      have := wf i p hi
      cases p with
      | leaf q wt =>
        show q + 1 ≤ 16
        have h : q ≤ 15 := this
        omega
      | fork lo hi l r => exact this.2.1
    refine ⟨_, rfl, _, rfl, _, rfl, _, _, rfl, rfl, (pl : Nat), (lowP p : Nat), (highP p : Nat) - 1, rfl, by omega, by omega, _, rfl, iteF ?_⟩
    refine ⟨_, rfl, (by show 1 ≤ sizeLine; decide), fun a ha => ?_⟩
    have s2 := same_new (o := .lst [num i]) ha
    have ea : (upd H1 a (.lst [num i])) a = some (.lst [num i]) := upd_same
    have ha0 : H a = none := none_of' s1 ha
    generalize upd H1 a (.lst [num i]) = H2 at *
    refine ⟨fun m σ H' => ∃ (cur f : Nat) (pre : List Nat) (c : Pt) (y6 y7 y8 : Option V), σ = [some (.ref o), some (num i), some (num pl), some (num (lowP c)), some (num (highP c)), some (.ref a), y6, y7, y8] ∧ H' a = some (.lst ((pre ++ [cur]).map num)) ∧ ps[cur]? = some c ∧ lowP c ≤ pl ∧ pl < highP c ∧ Same H H' ∧ pre ++ down ps f cur pl = down ps 16 i pl ∧ highP c - lowP c ≤ f ∧ pre.length + f = 16 ∧ m = highP c - lowP c,
      ⟨_, i, 16, [], p, none, none, none, rfl, ea, hi, h1, h2, s1.trans s2, rfl, by omega, rfl, rfl⟩, ?_⟩
    rintro m σ H3 ⟨cur, f0, pre, c, y6, y7, y8, rfl, ea3, hc, c1, c2, s3, hd, hf, hpre, rfl⟩
    refine ⟨_, rfl, _, rfl, _, _, rfl, rfl, _, _, rfl, rfl, _, rfl, ?_⟩
    refine ite2 (fun hg => ?_) (fun hg => ?_)
    · have hg2 : 1 < highP c - lowP c := by
        have := of_decide_eq_true hg
        omega
      obtain ⟨lo', hi', l, r, rfl⟩ : ∃ lo' hi' l r, c = .fork lo' hi' l r := by
        cases c with
        | leaf q wt =>
          have : q + 1 - q = 1 := by omega
          exact absurd hg2 (by show ¬ 1 < q + 1 - q; omega)
        | fork lo hi l r => exact ⟨lo, hi, l, r, rfl⟩
      obtain ⟨w1, w2, w3, w4, pa, pb, hl, hr', p1, p2, p3, p4⟩ := wf cur _ hc
      have c1 : lo' ≤ pl := c1
      have c2 : pl < hi' := c2
      have hf : hi' - lo' ≤ f0 := hf
      obtain ⟨f0, rfl⟩ : ∃ g, f0 = g + 1 := ⟨f0 - 1, by omega⟩
      rw [down_fork hc] at hd
      rw [List.map_append] at ea3
      refine ⟨_, fun σ' H'' z => z, ?_⟩
      refine ⟨_, rfl, o, dx, fs, rfl, s3 _ _ e1, nl _ (by decide), _, rfl, _, rfl, a, _, _, num cur, rfl, rfl, SqL.of ea3, atI_last _ _, N, o, ps, cur, _, rfl, x.same s3, hc, fun t2 ht2 => ?_⟩
      refine ⟨t2, lo', hi', l, r, rfl, ht2, fun u2 H4 hu2 s4 eu2 => ⟨u2, _, rfl, SqL.of eu2, rfl, _, _, rfl, _, _, rfl, rfl, ?_⟩⟩
      have em : V.int ((((lo' : Nat) : Int) + ((hi' : Nat) : Int)) / 2) = num ((lo' + hi') / 2) := by
        show V.int _ = V.int _
        congr 1
      have s34 := s3.trans s4
      have ea4 := s4 _ _ ea3
      refine ⟨_, rfl, _, rfl, _, _, rfl, rfl, _, _, rfl, rfl, ⟨by decide, by decide⟩, ?_⟩
      rw [show ((fun (i j : Int) => V.int (i / j)) (((lowP (Pt.fork lo' hi' l r) : Nat) : Int) + ((highP (Pt.fork lo' hi' l r) : Nat) : Int)) 2) = num ((lo' + hi') / 2) from em]
      refine ⟨_, rfl, _, rfl, _, _, rfl, rfl, _, rfl, ite2 (fun hm => ?_) (fun hm => ?_)⟩
      · have hm2 : pl < (lo' + hi') / 2 := by
          have := of_decide_eq_true hm
          omega
        rw [if_pos hm2] at hd
        refine ⟨_, rfl, ?_⟩
        refine ⟨_, rfl, .inl ⟨rfl, _, SqL.of ea4⟩, _, rfl, a, _, _, rfl, rfl, ea4, small1000 (by rw [List.length_append, List.length_map]; show pre.length + 1 ≤ 1000; omega), ?_⟩
        refine ⟨highP pa - lowP pa, by rw [p1, p2]; show _ < hi' - lo'; omega, l, f0, pre ++ [cur], pa, _, _, _, by rw [p1, p2]; rfl, ?_, hl, by rw [p1]; omega, by rw [p2]; omega, fun c u z => ?_, ?_, by rw [p1, p2]; omega, by rw [List.length_append]; show pre.length + 1 + f0 = 16; omega, rfl⟩
        · rw [upd_same, List.map_append, List.map_append]
          rfl
        · rw [upd_ne (ne_of_none z ha0)]
          exact s34 _ _ z
        · rw [← hd, List.append_assoc]
          rfl
      · have hm2 : ¬ pl < (lo' + hi') / 2 := fun z => hm (decide_eq_true (by omega))
        rw [if_neg hm2] at hd
        refine ⟨_, rfl, ?_⟩
        refine ⟨_, rfl, .inl ⟨rfl, _, SqL.of ea4⟩, _, rfl, a, _, _, rfl, rfl, ea4, small1000 (by rw [List.length_append, List.length_map]; show pre.length + 1 ≤ 1000; omega), ?_⟩
        refine ⟨highP pb - lowP pb, by rw [p3, p4]; show _ < hi' - lo'; omega, r, f0, pre ++ [cur], pb, _, _, _, by rw [p3, p4]; rfl, ?_, hr', by rw [p3]; omega, by rw [p4]; omega, fun c u z => ?_, ?_, by rw [p3, p4]; omega, by rw [List.length_append]; show pre.length + 1 + f0 = 16; omega, rfl⟩
        · rw [upd_same, List.map_append, List.map_append]
          rfl
        · rw [upd_ne (ne_of_none z ha0)]
          exact s34 _ _ z
        · rw [← hd, List.append_assoc]
          rfl
    · have hg2 : ¬ 1 < highP c - lowP c := fun z => hg (decide_eq_true (by omega))
      obtain ⟨q0, wt, rfl⟩ : ∃ q0 wt, c = .leaf q0 wt := by
        cases c with
        | leaf q wt => exact ⟨q, wt, rfl⟩
        | fork lo hi l r =>
          have w1 := (wf cur _ hc).1
          exact absurd (by show 1 < hi - lo; omega) hg2
      rw [down_leaf hc] at hd
      rw [hd] at ea3
      exact ⟨_, rfl, q a H3 ha0 s3 ea3⟩
end
end K32
set_option maxHeartbeats 1000000
namespace K32
open PySem PySem.Spec PyProof.Rows L2 Gd
open C8 (clsBody Met pe_mt pe_mt0)
/-- a step of a way down -/
structure Way (ps : List Pt) (pl : Nat) (xs : List Nat) : Prop where
  pos : 0 < xs.length
  stp : ∀ j e e2 : Nat, xs[j]? = some e → xs[j + 1]? = some e2 → ∃ lo hi l r, ps[e]? = some (.fork lo hi l r) ∧ e2 = (if pl < (lo + hi) / 2 then l else r)
  fin : ∀ e : Nat, xs[xs.length - 1]? = some e → ∃ wt, ps[e]? = some (.leaf pl wt)
theorem down_way {ps : List Pt} (wf : Wf ps) {pl : Nat} : ∀ (f i : Nat) (p : Pt), ps[i]? = some p → lowP p ≤ pl → pl < highP p → highP p - lowP p ≤ f → Way ps pl (down ps f i pl) ∧ (down ps f i pl)[0]? = some i ∧ (down ps f i pl).length ≤ f
  | 0, i, p, hi, h1, h2, h3 => by omega
  | f + 1, i, p, hi, h1, h2, h3 => by
    cases p with
    | leaf q wt =>
      rw [down_leaf hi]
      have h1 : q ≤ pl := h1
      have h2 : pl < q + 1 := h2
      obtain rfl : q = pl := by omega
      refine ⟨⟨Nat.succ_pos _, fun j e e2 a b => (by simp at b), fun e he => ?_⟩, rfl, by show 1 ≤ f + 1; omega⟩
      cases (Option.some.inj he)
      exact ⟨wt, hi⟩
    | fork lo hi' l r =>
      obtain ⟨w1, w2, w3, w4, pa, pb, hl, hr, p1, p2, p3, p4⟩ := wf i _ hi
      have h1 : lo ≤ pl := h1
      have h2 : pl < hi' := h2
      have h3 : hi' - lo ≤ f + 1 := h3
      rw [down_fork hi]
      obtain ⟨pc, hc, c1, c2, c3⟩ : ∃ pc, ps[if pl < (lo + hi') / 2 then l else r]? = some pc ∧ lowP pc ≤ pl ∧ pl < highP pc ∧ highP pc - lowP pc ≤ f := by
        by_cases z : pl < (lo + hi') / 2
        · rw [if_pos z]
          exact ⟨pa, hl, by omega, by omega, by omega⟩
        · rw [if_neg z]
          exact ⟨pb, hr, by omega, by omega, by omega⟩
      obtain ⟨w, d0, dl⟩ := down_way wf f _ pc hc c1 c2 c3
      generalize he : (if pl < (lo + hi') / 2 then l else r) = nx at *
      generalize down ps f nx pl = ys at *
      refine ⟨⟨Nat.succ_pos _, fun j e e2 a b => ?_, fun e he2 => ?_⟩, rfl, by show ys.length + 1 ≤ f + 1; omega⟩
      · cases j with
        | zero =>
          cases (Option.some.inj a)
          have b : ys[0]? = some e2 := b
          rw [d0] at b
          cases (Option.some.inj b)
          exact ⟨lo, hi', l, r, hi, he.symm⟩
        | succ j => exact w.stp j e e2 a b
      · have hp := w.pos
        have e1 : (i :: ys).length - 1 = (ys.length - 1) + 1 := by
          show ys.length + 1 - 1 = _
          omega
        rw [e1] at he2
        exact w.fin e he2
/-- one fork laid anew -/
def putS (ps : List Pt) (pl : Nat) (acc : List Pt) (e : Nat) : List Pt := match ps[e]? with
  | some (.fork lo hi l r) => acc ++ [if pl < (lo + hi) / 2 then .fork lo hi (acc.length - 1) r else .fork lo hi l (acc.length - 1)]
  | _ => acc
theorem putS_fork {ps : List Pt} {pl e lo hi l r : Nat} {acc : List Pt} (h : ps[e]? = some (.fork lo hi l r)) : putS ps pl acc e = acc ++ [if pl < (lo + hi) / 2 then .fork lo hi (acc.length - 1) r else .fork lo hi l (acc.length - 1)] := by
  unfold putS
  rw [h]
/-- the forks of a way laid anew, from the lowest to the root -/
def putP (ps : List Pt) (pl : Nat) (wt : Int) (xs : List Nat) (k : Nat) : List Pt := ((xs.dropLast.reverse).take k).foldl (putS ps pl) (ps ++ [.leaf pl wt])
theorem rev_at {xs : List Nat} {k : Nat} (h : k < xs.length - 1) : (xs.dropLast.reverse)[k]? = xs[xs.length - 2 - k]? := by
  have hl : xs.dropLast.length = xs.length - 1 := List.length_dropLast
  rw [List.getElem?_reverse (by omega), hl, List.getElem?_dropLast, if_pos (by omega)]
  congr 1
theorem putP_succ {ps : List Pt} {pl : Nat} {wt : Int} {xs : List Nat} {k e : Nat} (he : (xs.dropLast.reverse)[k]? = some e) : putP ps pl wt xs (k + 1) = putS ps pl (putP ps pl wt xs k) e := by
  unfold putP
  rw [List.take_add_one, he, List.foldl_append]
  rfl
theorem StA.cut {N : Addr → Prop} {H : Hp} {o C : Addr} {ps : List Pt} (r : StA N H o C ps) : StA (fun c => N c ∧ H c ≠ none) H o C ps := by
  obtain ⟨dx, d, e, g, fs, kd, ke, kg, e1, l1, l2, l3, l4, nl, e2, e3, e4, dp, de, dg, lf, No, Nd, Ne, Ng, n1, n2, n3⟩ := r.ex
  exact ⟨⟨dx, d, e, g, fs, kd, ke, kg, e1, l1, l2, l3, l4, nl, e2, e3, e4, dp, de, dg, lf, ⟨No, by rw [e1]; simp⟩, ⟨Nd, by rw [e2]; simp⟩, ⟨Ne, by rw [e3]; simp⟩, ⟨Ng, by rw [e4]; simp⟩, n1, n2, n3⟩, r.few⟩
theorem StA.mono {N M : Addr → Prop} {H : Hp} {o C : Addr} {ps : List Pt} (r : StA N H o C ps) (s : ∀ c, N c → M c) : StA M H o C ps := by
  obtain ⟨dx, d, e, g, fs, kd, ke, kg, e1, l1, l2, l3, l4, nl, e2, e3, e4, dp, de, dg, lf, No, Nd, Ne, Ng, n1, n2, n3⟩ := r.ex
  exact ⟨⟨dx, d, e, g, fs, kd, ke, kg, e1, l1, l2, l3, l4, nl, e2, e3, e4, dp, de, dg, lf, s _ No, s _ Nd, s _ Ne, s _ Ng, n1, n2, n3⟩, r.few⟩
theorem num_inj {a b : Nat} (h : num a = num b) : a = b := by
  have := V.int.inj h
  omega
section
variable {P : Program} {w : World} {K : PySem.W.Frag} {mg : Str → Option Value} {base : Heap} {C : Addr}
def spPut (C : Addr) : Sp := fun vs H Q _ => ∃ (N : Addr → Prop) (o : Addr) (ps : List Pt) (i pl : Nat) (p : Pt) (wt : Int), vs = [.ref o, num i, num pl, .int wt] ∧ StA N H o C ps ∧ Wf ps ∧ ps[i]? = some p ∧ lowP p ≤ pl ∧ pl < highP p ∧ -big30 ≤ wt ∧ wt ≤ big30 ∧ ps.length ≤ 960 ∧
  ∀ H', StA N H' o C (putP ps pl wt (down ps 16 i pl) ((down ps 16 i pl).length - 1)) → (∀ c u, ¬ N c → H c = some u → H' c = some u) → KT H H' → Q (num ((putP ps pl wt (down ps 16 i pl) ((down ps 16 i pl).length - 1)).length - 1)) H'
theorem ok_put (T : Txt K mg) (OC : PtC K C) (c_way_down : C8.Cal P w K mg base 4 "way_down" (spDown C) []) (m_leaf : Met P w K mg base 3 C "leaf" (spLeaf C) []) (m_fork : Met P w K mg base 4 C "fork" (spFork C) []) (m_part : Met P w K mg base 3 C "part" (spPart C) []) (D : DefAt K mg "put_down" s_put_down ["parts", "root", "place", "worth"]) : C8.Cal P w K mg base 5 "put_down" (spPut C) [] := by
  obtain ⟨f, fd, F, m, b⟩ := D.ex
  refine ⟨f, fd, _, [], F.ok sc_put_down (fun vs H Q E h => ?_) (fun cdv A outer s H vs Q E hr h => ?_), m, F.kp, b, .nil⟩
  · obtain ⟨N, o, ps, i, pl, p, wt, rfl, _⟩ := h
    rfl
  · obtain ⟨N, o, ps, i, pl, p, wt, rfl, x, wf, hi, h1, h2, w1, w2, few, q⟩ := h
    refine ⟨_, (pss_cons (ps_set (i := 4) sc_put_down.nd rfl (Or.inl rfl) (C8.pe_c c_way_down hr (by decide) (by rfl) (pa_cons (pv 0) (pa_cons (pv 1) (pa_cons (pv 2) pa_nil)))))
      (pss_cons (ps_set (i := 5) sc_put_down.nd rfl (Or.inl rfl) (pe_mt m_leaf hr (by decide) (pv 0) (pa_cons (pv 2) (pa_cons (pv 3) pa_nil))))
      (pss_cons (ps_for PassesOwn.never rfl (pi_revR (by rfl) T.b_reversed (prg_1 (by rfl) T.b_range (pe_op op_sub (pe_callB call_len (by rfl) T.b_len boot_len_ (pa_cons (pv 4) pa_nil)) pe_int))) (pg_name (i := 6) sc_put_down.nd rfl (Or.inl rfl))
          (pss_cons (ps_asg (pe_mt m_part hr (by decide) (pv 0) (pa_cons (pe_ix ix_list (pv 4) (pv 6) (fun _ _ => rfl)) pa_nil)) (pg_tup (by rfl) (pgs_cons (pg_name (i := 7) sc_put_down.nd rfl (Or.inl rfl)) (pgs_cons (pg_name (i := 8) sc_put_down.nd rfl (Or.inl rfl)) (pgs_cons (pg_name (i := 9) sc_put_down.nd rfl (Or.inl rfl)) (pgs_cons (pg_name (i := 10) sc_put_down.nd rfl (Or.inl rfl)) (pgs_cons (pg_name (i := 11) sc_put_down.nd rfl (Or.inl rfl)) pgs_nil)))))))
          (pss_one (ps_if (pt_cmpR op_eq (pe_ix ix_list (pv 4) (pe_op op_add (pv 6) pe_int) (fun _ _ => rfl)) (pv 10) (nomark _))
              (pss_one (ps_set (i := 5) sc_put_down.nd rfl (Or.inl rfl) (pe_mt m_fork hr (by decide) (pv 0) (pa_cons (pv 8) (pa_cons (pv 9) (pa_cons (pv 5) (pa_cons (pv 11) pa_nil))))))) 
              (pss_one (ps_set (i := 5) sc_put_down.nd rfl (Or.inl rfl) (pe_mt m_fork hr (by decide) (pv 0) (pa_cons (pv 8) (pa_cons (pv 9) (pa_cons (pv 10) (pa_cons (pv 5) pa_nil)))))))))))
      (pss_one (ps_ret (pv 5)))))), ?_⟩
    have hp16 : highP p ≤ 16 := by
      have := wf i p hi
      cases p with
      | leaf q wt =>
        show q + 1 ≤ 16
        have h : q ≤ 15 := this
        omega
      | fork lo hi l r => exact this.2.1
    obtain ⟨W, x0, xl⟩ := down_way wf (pl := pl) 16 i p hi h1 h2 (by omega)
    refine ⟨_, rfl, _, rfl, _, rfl, N, o, ps, i, pl, p, rfl, x, wf, hi, h1, h2, fun a H1 ha s1 ea => ?_⟩
    generalize down ps 16 i pl = xs at *
    have xpos := W.pos
    have x' := x.cut
    have hNa : ¬ (N a ∧ H a ≠ none) := fun h => h.2 ha
    generalize hM : (fun c => N c ∧ H c ≠ none) = M at x'
    have hMa : ¬ M a := by rw [← hM]; exact hNa
    have hMN : ∀ c, M c → N c := fun c h => by rw [← hM] at h; exact h.1
    clear hM hNa
    obtain ⟨dx, fs, e1, nl⟩ := x'.ins
    refine ⟨_, rfl, o, dx, fs, rfl, s1 _ _ e1, nl _ (by decide), _, rfl, _, rfl, M, o, ps, pl, wt, rfl, x'.same s1, by omega, w1, w2, by omega, fun H2 x2 k2 kt2 => ?_⟩
    have ea2 := k2 _ _ hMa ea
    obtain ⟨cE, hcE⟩ : ∃ c, xs[xs.length - 1]? = some c := ⟨_, List.getElem?_eq_getElem (by omega)⟩
    obtain ⟨wE, hwE⟩ := W.fin cE hcE
    refine ⟨_, rfl, .ref a, _, rfl, .inl ⟨_, SqL.of ea2, rfl⟩, _, _, rfl, rfl, _, rfl, by decide, by decide, by rw [List.length_map]; omega, by rw [List.length_map]; omega, ?_⟩
    rw [List.length_map]
    refine for_it (walk_rangeC (lo := 0 + (((((xs.length : Nat) : Int) - 1 - 0).toNat : Nat) : Int) - 1) (c := -1) (n := (((xs.length : Nat) : Int) - 1 - 0).toNat)) (fun k σ H' => ∃ (c : Nat) (pc pt : Pt) (y6 y7 y8 y9 y10 y11 : Option V), σ = [some (.ref o), some (num i), some (num pl), some (.int wt), some (.ref a), some (num ((putP ps pl wt xs k).length - 1)), y6, y7, y8, y9, y10, y11] ∧ StA M H' o C (putP ps pl wt xs k) ∧ H' a = some (.lst (xs.map num)) ∧ (∀ c u, ¬ M c → H c = some u → H' c = some u) ∧ KT H H' ∧ (putP ps pl wt xs k).length = ps.length + 1 + k ∧ (∀ (j : Nat) (q : Pt), ps[j]? = some q → (putP ps pl wt xs k)[j]? = some q) ∧ xs[xs.length - 1 - k]? = some c ∧ ps[c]? = some pc ∧ (putP ps pl wt xs k)[(putP ps pl wt xs k).length - 1]? = some pt ∧ lowP pt = lowP pc ∧ highP pt = highP pc)
      ⟨cE, .leaf pl wE, .leaf pl wt, none, none, none, none, none, none, ?_, x2, ea2, fun c u hc z => k2 c u hc (s1 _ _ z), fun c ys z => kt2 c ys (s1 _ _ z), by show (ps ++ [_]).length = _; rw [List.length_append]; rfl, fun j q hj => ?_, hcE, hwE, ?_, rfl, rfl⟩ (fun _ _ _ _ _ => trivial) (fun k v σ H3 H4 hk hP hY => ?_) (fun σ H3 hP => ?_)
    · show _ = [some (V.ref o), some (num i), some (num pl), some (.int wt), some (.ref a), some (num ((ps ++ [Pt.leaf pl wt]).length - 1)), none, none, none, none, none, none]
      rw [List.length_append]
      rfl
    · show (ps ++ [_])[j]? = _
      rw [List.getElem?_append_left (lt_of hj)]
      exact hj
    · show (ps ++ [Pt.leaf pl wt])[(ps ++ [Pt.leaf pl wt]).length - 1]? = _
      rw [List.length_append]
      show (ps ++ [Pt.leaf pl wt])[ps.length]? = _
      rw [List.getElem?_append_right (Nat.le_refl _), Nat.sub_self]
      rfl
    · obtain ⟨c, pc, pt, y6, y7, y8, y9, y10, y11, rfl, x3, ea3, k3, kt3, pl3, pre, hc, hpc, hpt, t1, t2⟩ := hP
      obtain ⟨rfl, rfl⟩ := hY
      have hk' : k < xs.length - 1 := by omega
      obtain ⟨e, he⟩ : ∃ e, xs[xs.length - 2 - k]? = some e := ⟨_, List.getElem?_eq_getElem (by omega)⟩
      obtain ⟨lo, hi', l, r, hf, ce⟩ := W.stp (xs.length - 2 - k) e c he (by rw [show xs.length - 2 - k + 1 = xs.length - 1 - k from by omega]; exact hc)
      obtain ⟨v1, v2, v3, v4, pa, pb, hl, hr', p1, p2, p3, p4⟩ := wf e _ hf
      have hs := putP_succ (ps := ps) (pl := pl) (wt := wt) (xs := xs) (k := k) (e := e) (by rw [rev_at hk']; exact he)
      rw [putS_fork hf] at hs
      rw [hs]
      generalize putP ps pl wt xs k = qs at *
      have ev : V.int (0 + (((((xs.length : Nat) : Int) - 1 - 0).toNat : Nat) : Int) - 1 + ((k : Nat) : Int) * -1) = num (xs.length - 2 - k) := by
        show V.int _ = V.int _
        congr 1
        omega
      obtain ⟨dx3, fs3, e3, nl3⟩ := x3.ins
      have ia : atI (xs.map num) (0 + (((((xs.length : Nat) : Int) - 1 - 0).toNat : Nat) : Int) - 1 + ((k : Nat) : Int) * -1) = some (num e) := by
        rw [show (0 + (((((xs.length : Nat) : Int) - 1 - 0).toNat : Nat) : Int) - 1 + ((k : Nat) : Int) * -1) = ((xs.length - 2 - k : Nat) : Int) from by omega]
        exact atI_nat (by rw [List.getElem?_map, he]; rfl)
      have ib : atI (xs.map num) (0 + (((((xs.length : Nat) : Int) - 1 - 0).toNat : Nat) : Int) - 1 + ((k : Nat) : Int) * -1 + 1) = some (num c) := by
        rw [show (0 + (((((xs.length : Nat) : Int) - 1 - 0).toNat : Nat) : Int) - 1 + ((k : Nat) : Int) * -1 + 1) = ((xs.length - 1 - k : Nat) : Int) from by omega]
        exact atI_nat (by rw [List.getElem?_map, hc]; rfl)
      refine ⟨_, rfl, o, dx3, fs3, rfl, e3, nl3 _ (by decide), _, rfl, _, rfl, a, _, _, num e, rfl, rfl, SqL.of ea3, ia, M, o, qs, e, .fork lo hi' l r, rfl, x3, pre _ _ hf, fun t ht => ⟨t, _, rfl, SqT.of ht, rfl, _, _, rfl, _, _, rfl, _, _, rfl, _, _, rfl, _, _, rfl, rfl, ?_⟩⟩
      have xs16 : qs.length < 1000 := by omega
      by_cases hm : pl < (lo + hi') / 2
      · rw [if_pos hm] at ce ⊢
        subst ce
        obtain rfl : pc = pa := Option.some.inj (hpc.symm.trans hl)
        refine ⟨_, rfl, _, rfl, _, _, rfl, rfl, a, _, _, num c, rfl, rfl, SqL.of ea3, ib, _, rfl, rfl, _, rfl, ite2 (fun _ => ?_) (fun z => absurd (decide_eq_true rfl) z)⟩
        refine ⟨_, rfl, o, dx3, fs3, rfl, e3, nl3 _ (by decide), _, rfl, _, rfl, _, rfl, _, rfl, M, o, qs, lo, hi', qs.length - 1, r, pt, pb, rfl, x3, v1, v2, hpt, pre _ _ hr', by omega, by omega, by omega, by omega, by omega, fun H5 x5 k5 kt5 => ?_⟩
        refine ⟨e, .fork lo hi' c r, .fork lo hi' (qs.length - 1) r, some (.int (0 + (((((xs.length : Nat) : Int) - 1 - 0).toNat : Nat) : Int) - 1 + ((k : Nat) : Int) * -1)), some (.str "fork"), some (num lo), some (num hi'), some (num c), some (num r), ?_, x5, k5 _ _ hMa ea3, fun c u hc z => k5 c u hc (k3 c u hc z), fun c ys z => kt5 c ys (kt3 c ys z), by rw [List.length_append]; show qs.length + 1 = _; omega, fun j q hj => ?_, by rw [show xs.length - 1 - (k + 1) = xs.length - 2 - k from by omega]; exact he, hf, ?_, rfl, rfl⟩
        · rw [List.length_append]
          rfl
        · rw [List.getElem?_append_left (lt_of (pre j q hj))]
          exact pre j q hj
        · rw [List.length_append]
          show (qs ++ [_])[qs.length]? = _
          rw [List.getElem?_append_right (Nat.le_refl _), Nat.sub_self]
          rfl
      · rw [if_neg hm] at ce ⊢
        subst ce
        obtain rfl : pc = pb := Option.some.inj (hpc.symm.trans hr')
        have nlr : c ≠ l := fun z => by
          rw [z, hl] at hpc
          cases (Option.some.inj hpc)
          omega
        refine ⟨_, rfl, _, rfl, _, _, rfl, rfl, a, _, _, num c, rfl, rfl, SqL.of ea3, ib, _, rfl, rfl, _, rfl, ite2 (fun z => absurd (num_inj (of_decide_eq_true z)) nlr) (fun _ => ?_)⟩
        refine ⟨_, rfl, o, dx3, fs3, rfl, e3, nl3 _ (by decide), _, rfl, _, rfl, _, rfl, _, rfl, M, o, qs, lo, hi', l, qs.length - 1, pa, pt, rfl, x3, v1, v2, pre _ _ hl, hpt, by omega, by omega, by omega, by omega, by omega, fun H5 x5 k5 kt5 => ?_⟩
        refine ⟨e, .fork lo hi' l c, .fork lo hi' l (qs.length - 1), some (.int (0 + (((((xs.length : Nat) : Int) - 1 - 0).toNat : Nat) : Int) - 1 + ((k : Nat) : Int) * -1)), some (.str "fork"), some (num lo), some (num hi'), some (num l), some (num c), ?_, x5, k5 _ _ hMa ea3, fun c u hc z => k5 c u hc (k3 c u hc z), fun c ys z => kt5 c ys (kt3 c ys z), by rw [List.length_append]; show qs.length + 1 = _; omega, fun j q hj => ?_, by rw [show xs.length - 1 - (k + 1) = xs.length - 2 - k from by omega]; exact he, hf, ?_, rfl, rfl⟩
        · rw [List.length_append]
          rfl
        · rw [List.getElem?_append_left (lt_of (pre j q hj))]
          exact pre j q hj
        · rw [List.length_append]
          show (qs ++ [_])[qs.length]? = _
          rw [List.getElem?_append_right (Nat.le_refl _), Nat.sub_self]
          rfl
    · obtain ⟨c, pc, pt, y6, y7, y8, y9, y10, y11, rfl, x3, ea3, k3, kt3, pl3, pre, hc, hpc, hpt, t1, t2⟩ := hP
      have en : (((xs.length : Nat) : Int) - 1 - 0).toNat = xs.length - 1 := by omega
      rw [en] at x3
      have := q H3 (x3.mono hMN) (fun c u hc z => k3 c u (fun h => hc (hMN c h)) z) kt3
      rw [en]
      exact ⟨_, rfl, this⟩
end
end K32
set_option maxHeartbeats 1000000
namespace K32
open PySem PySem.Spec PyProof.Rows L2 Gd
open C8 (clsBody Met pe_mt pe_mt0)
abbrev kl : Key := Sum.inr "left"
abbrev ks : Key := Sum.inr "seed"
abbrev kt : Key := Sum.inr "turn"
abbrev kr : Key := Sum.inr "row"
abbrev kg : Key := Sum.inr "given"
theorem putK_old {κ : Type} [DecidableEq κ] {kvs : List (κ × V)} {k : κ} {v x : V} (h : valV kvs k = some x) : (putK kvs k v).length = kvs.length := by
  unfold putK
  rw [if_pos (by rw [valV_any, h]; rfl), List.length_map]
/-- the box of a cell, at most so many numbers drawn -/
def BoxD (H : Hp) (b : Addr) (n : Int) : Prop := ∃ (x y z : Int) (kvs : List (Key × V)), H b = some (.dK kvs) ∧ kvs.length = 3 ∧ valV kvs kl = some (.int x) ∧ valV kvs ks = some (.int y) ∧ valV kvs kt = some (.int z) ∧ 0 ≤ x ∧ 0 ≤ y ∧ y < 2147483647 ∧ 0 ≤ z ∧ z ≤ n
theorem BoxD.kp {H H' : Hp} {b : Addr} {n : Int} (h : BoxD H b n) (k : ∀ u, H b = some u → H' b = some u) : BoxD H' b n := by
  obtain ⟨x, y, z, kvs, h1, h2⟩ := h
  exact ⟨x, y, z, kvs, k _ h1, h2⟩
theorem BoxD.some {H : Hp} {b : Addr} {n : Int} (h : BoxD H b n) : ∃ u, H b = some u := by
  obtain ⟨x, y, z, kvs, h1, h2⟩ := h
  exact ⟨_, h1⟩
theorem BoxD.up {H : Hp} {b : Addr} {n m : Int} (h : BoxD H b n) (k : n ≤ m) : BoxD H b m := by
  obtain ⟨x, y, z, kvs, h1, h2, h3, h4, h5, h6, h7, h8, h9, h10⟩ := h
  exact ⟨x, y, z, kvs, h1, h2, h3, h4, h5, h6, h7, h8, h9, by omega⟩
theorem BoxD.ne {H : Hp} {b p : Addr} {n : Int} (h : BoxD H b n) (e : H p = none) : p ≠ b := fun z => by
  obtain ⟨u, hu⟩ := h.some
  rw [z, hu] at e
  cases e
theorem dgs {H : Hp} {a : Addr} {kvs : List (Key × V)} {k : Str} {v : V} (e : H a = some (.dK kvs)) (h : valV kvs (Sum.inr k) = some v) : DGet H a (.str k) (some v) := h ▸ DGet.k (k := Sum.inr k) e
section
variable {P : Program} {w : World} {K : PySem.W.Frag} {mg : Str → Option Value} {base : Heap} {C : Addr}
theorem ok_cell (T : Txt K mg) (D : DefAt K mg "_law_cell_at" s__law_cell_at ["_law_script", "_law_k"]) : CalG P w K mg base 1 "_law_cell_at" (Gd.spCell K) := by
  refine D.cal sc__law_cell_at (fun vs H Q E h => ?_) (fun f cdv A outer s H vs Q E hG hr h => ?_)
  · obtain ⟨a, ns, k, rfl, _⟩ := h
    rfl
  · obtain ⟨a, ns, k, rfl, hS, hl, hk, q⟩ := h
    refine ⟨_, (pss_cons (ps_if (pt_cmpR op_lt (pv 1) (pe_callB call_len (by rfl) T.b_len boot_len_ (pa_cons (pv 0) pa_nil)) (nomark _))
          (pss_one (ps_ret (pe_ix ix_list (pv 0) (pv 1) (fun _ _ => rfl)))) pss_nil)
      (pss_one (ps_ret (pe_op op_add (pe_op op_mul pe_int (pv 1)) pe_int)))), ?_⟩
    refine ⟨_, rfl, _, rfl, _, _, rfl, .inl ⟨_, hS, rfl⟩, _, _, rfl, rfl, _, rfl, ?_⟩
    refine ite2 (fun e => ?_) (fun e => ?_)
    · have e2 := of_decide_eq_true e
      rw [List.length_map] at e2
      obtain ⟨n, hn⟩ := atI_ints hk e2
      exact ⟨_, rfl, _, rfl, _, _, _, _, rfl, rfl, hS, hn, q n⟩
    · exact ⟨_, rfl, _, _, rfl, rfl, .inl ⟨by decide, by decide⟩, _, _, rfl, rfl, q _⟩
def spBoxD : Sp := fun vs H Q _ => ∃ n : Int, vs = [.int n] ∧ ∀ (b : Addr) (H' : Hp), H b = none → BoxD H' b 0 → (∀ c, c ≠ b → H' c = H c) → Q (.ref b) H'
theorem ok_box (T : Txt K mg) (D : DefAt K mg "_law_box" s__law_box ["_law_cell"]) : CalG P w K mg base 1 "_law_box" spBoxD := by
  refine D.cal sc__law_box (fun vs H Q E h => ?_) (fun f cdv A outer s H vs Q E hG hr h => ?_)
  · obtain ⟨n, rfl, _⟩ := h
    rfl
  · obtain ⟨n, rfl, q⟩ := h
    refine ⟨_, (pss_one (ps_ret (pe_disp (pps_cons pe_str (pe_callB (call_max2 rfl) (by rfl) T.b_max boot_max_ (pa_cons pe_int (pa_cons (pe_op op_sub (pv 0) (pe_op op_pow pe_int pe_int)) pa_nil))) (pps_cons pe_str (pe_op op_mod (pv 0) pe_int) (pps_cons pe_str pe_int pps_nil))) (by rfl) (by rfl) (fun z => by cases z) (by decide)))), ?_⟩
    intro b hb
    refine ⟨_, rfl, _, _, rfl, rfl, ⟨by decide, by decide, by decide⟩, _, _, rfl, rfl, _, _, rfl, ?_⟩
    refine ⟨_, rfl, _, _, rfl, rfl, (by show (0 : Int) < 2147483647; decide), ?_⟩
    refine ⟨upd_same, [(kl, _), (ks, _), (kt, .int 0)], rfl, (by show 3 ≤ 15; decide), ?_⟩
    refine q b _ hb ⟨_, _, _, _, upd_same, rfl, valV_pos rfl, (valV_neg (show ¬ kl = ks by decide)).trans (valV_pos rfl), (valV_neg (show ¬ kl = kt by decide)).trans ((valV_neg (show ¬ ks = kt by decide)).trans (valV_pos rfl)), ?_, ?_, ?_, by decide, by decide⟩ fun c hc => ?_
    · split <;> omega
    · exact Int.emod_nonneg _ (by decide)
    · exact Int.emod_lt_of_pos _ (by decide)
    · rw [upd_ne hc, upd_ne hc]
def spTakeD : Sp := fun vs H Q _ => ∃ (b : Addr) (m n : Int), vs = [.ref b, .int m] ∧ BoxD H b n ∧ n ≤ 1000000 ∧ 0 < m ∧ m ≤ 1000000000 ∧
  ∀ (d : Int) (H' : Hp), 0 ≤ d → d < m → BoxD H' b (n + 1) → (∀ c, c ≠ b → H' c = H c) → Q (.int d) H'
theorem ok_take (T : Txt K mg) (D : DefAt K mg "_law_take" s__law_take ["_law_box_here", "_law_many"]) : CalG P w K mg base 1 "_law_take" spTakeD := by
  refine D.cal sc__law_take (fun vs H Q E h => ?_) (fun f cdv A outer s H vs Q E hG hr h => ?_)
  · obtain ⟨b, m, n, rfl, _⟩ := h
    rfl
  · obtain ⟨b, m, n, rfl, hB, hn, hm0, hm1, q⟩ := h
    obtain ⟨x, y, z, kvs, hb, hl3, vl, vs, vt, hx, hy0, hy1, hz0, hz1⟩ := hB
    refine ⟨_, (pss_cons (ps_if (pt_cmpR op_gt (pe_dget (hu_of hr) (pv 0) pe_str (fun _ _ => rfl)) pe_int (nomark _))
          (pss_cons (ps_set (i := 2) sc__law_take.nd rfl (Or.inl rfl) (pe_op op_mod (pe_dget (hu_of hr) (pv 0) pe_str (fun _ _ => rfl)) (pv 1)))
          (pss_cons (ps_dput (hu_of hr) (pv 0) pe_str (pe_op op_fdiv (pe_dget (hu_of hr) (pv 0) pe_str (fun _ _ => rfl)) (pv 1)) rfl)
          (pss_one (ps_ret (pv 2))))) pss_nil)
      (pss_cons (ps_dput (hu_of hr) (pv 0) pe_str (pe_op op_add (pe_dget (hu_of hr) (pv 0) pe_str (fun _ _ => rfl)) pe_int) rfl)
      (pss_cons (ps_set (i := 3) sc__law_take.nd rfl (Or.inl rfl) (pe_op op_mod (pe_op op_pow (pe_op op_add (pe_dget (hu_of hr) (pv 0) pe_str (fun _ _ => rfl)) (pe_op op_mul pe_int (pe_dget (hu_of hr) (pv 0) pe_str (fun _ _ => rfl)))) pe_int) pe_int))
      (pss_cons (ps_set (i := 3) sc__law_take.nd rfl (Or.inl rfl) (pe_op op_mod (pe_op op_pow (pe_op op_add (pv 3) (pe_op op_mul pe_int (pe_dget (hu_of hr) (pv 0) pe_str (fun _ _ => rfl)))) pe_int) pe_int))
      (pss_one (ps_ret (pe_op op_mod (pe_op op_fdiv (pv 3) pe_int) (pv 1)))))))), ?_⟩
    refine ⟨_, rfl, b, _, rfl, dgs hb vl, _, _, rfl, rfl, _, rfl, ?_⟩
    refine ite2 (fun e => ?_) (fun e => ?_)
    · have e2 := of_decide_eq_true e
      refine ⟨_, rfl, b, _, rfl, dgs hb vl, _, rfl, _, _, rfl, rfl, hm0, ?_⟩
      refine ⟨_, rfl, b, _, rfl, dgs hb vl, _, rfl, _, _, rfl, rfl, ⟨hm0, by omega⟩, ?_⟩
      refine ⟨_, rfl, b, _, rfl, DPut.k (k := kl) hb (small1000 (by omega)), ?_⟩
      refine ⟨_, rfl, ?_⟩
      refine q _ _ (Int.emod_nonneg _ (by omega)) (Int.emod_lt_of_pos _ hm0) ⟨x / m, y, z, _, upd_same, ?_, ?_, ?_, ?_, ?_, hy0, hy1, hz0, by omega⟩ fun c hc => upd_ne hc
      · rw [putK_old vl]
        exact hl3
      · rw [valV_put, if_pos rfl]
      · rw [valV_put, if_neg (by decide)]
        exact vs
      · rw [valV_put, if_neg (by decide)]
        exact vt
      · exact Int.ediv_nonneg (by omega) (by omega)
    · refine ⟨_, rfl, b, _, rfl, dgs hb vt, _, _, rfl, rfl, ?_⟩
      refine ⟨_, rfl, b, _, rfl, DPut.k (k := kt) hb (small1000 (by omega)), ?_⟩
      have hb1 : (upd H b (.dK (putK kvs kt (.int (z + 1))))) b = some (.dK (putK kvs kt (.int (z + 1)))) := upd_same
      have vl1 : valV (putK kvs kt (.int (z + 1))) kl = some (.int x) := by rw [valV_put, if_neg (by decide)]; exact vl
      have vs1 : valV (putK kvs kt (.int (z + 1))) ks = some (.int y) := by rw [valV_put, if_neg (by decide)]; exact vs
      have vt1 : valV (putK kvs kt (.int (z + 1))) kt = some (.int (z + 1)) := by rw [valV_put, if_pos rfl]
      have hl1 : (putK kvs kt (.int (z + 1))).length = 3 := by rw [putK_old vt]; exact hl3
      generalize putK kvs kt (.int (z + 1)) = kv1 at *
      refine ⟨_, rfl, b, _, rfl, dgs hb1 vs1, _, rfl, b, _, rfl, dgs hb1 vt1, _, _, rfl, rfl, .inl ⟨by omega, by omega⟩, _, _, rfl, rfl, ?_⟩
      refine ⟨_, _, rfl, rfl, ⟨by decide, by decide, by omega⟩, _, _, rfl, rfl, (by show (0 : Int) < 2147483629; decide), ?_⟩
      generalize hA : (y + 7919 * (z + 1)) ^ (3 : Int).toNat % 2147483629 = A
      have a0 : 0 ≤ A := hA ▸ Int.emod_nonneg _ (by decide)
      have a1 : A < 2147483629 := hA ▸ Int.emod_lt_of_pos _ (by decide)
      clear hA
      refine ⟨_, rfl, _, rfl, b, _, rfl, dgs hb1 vt1, _, _, rfl, rfl, .inl ⟨by omega, by omega⟩, _, _, rfl, rfl, ?_⟩
      refine ⟨_, _, rfl, rfl, ⟨by decide, by decide, by omega⟩, _, _, rfl, rfl, (by show (0 : Int) < 2147483587; decide), ?_⟩
      refine ⟨_, rfl, _, _, rfl, rfl, ⟨by decide, by decide⟩, ?_⟩
      refine ⟨_, rfl, _, _, rfl, rfl, hm0, ?_⟩
      exact q _ _ (Int.emod_nonneg _ (by omega)) (Int.emod_lt_of_pos _ hm0) ⟨_, _, _, _, hb1, hl1, vl1, vs1, vt1, hx, hy0, hy1, by omega, by omega⟩ fun c hc => upd_ne hc
end
end K32
set_option maxHeartbeats 1000000
namespace K32
open PySem PySem.Spec PyProof.Rows L2 Gd
open C8 (clsBody Met pe_mt pe_mt0)
section
variable {P : Program} {w : World} {K : PySem.W.Frag} {mg : Str → Option Value} {base : Heap} {C : Addr}
def spInit (C : Addr) : Sp := fun vs H Q _ => ∃ (o dx : Addr), vs = [.ref o] ∧ H o = some (.ins C dx []) ∧
  ∀ (H' : Hp) (N' : Addr → Prop), StA N' H' o C [] → (∀ c u, c ≠ o → H c = some u → H' c = some u) → (∀ c, N' c → c = o ∨ H c = none) → Q .non H'
theorem fn_init {f : Addr} {fd : FuncData} (T : Txt K mg) (OC : PtC K C) (F : Fun K "__init__" "Parts.__init__" s_Parts___init__ f fd) : FnOk P w K mg base CX0 1 f fd ["self"] (spInit C) := by
  refine F.ok sc_Parts___init__ (fun vs H Q E h => ?_) (fun cdv A outer s H vs Q E hr h => ?_)
  · obtain ⟨o, dx, rfl, _⟩ := h
    rfl
  · obtain ⟨o, dx, rfl, e1, q⟩ := h
    refine ⟨_, (pss_cons (ps_fld (pv 0) pe_dnewK rfl)
      (pss_cons (ps_fld (pv 0) pe_int rfl)
      (pss_cons (ps_fld (pv 0) pe_dnewK rfl)
      (pss_one (ps_fld (pv 0) pe_dnewK rfl))))), ?_⟩
    intro d hd
    have od : o ≠ d := fun e => by rw [← e, e1] at hd; cases hd
    refine ⟨_, rfl, o, C, dx, [], rfl, kep e1 hd, OC.cl, OC.n_parts, by decide, ?_⟩
    have k1 : ∀ c u, c ≠ o → H c = some u → (upd (upd H d (.dK [])) o (.ins C dx (putF "_parts" (.ref d) []))) c = some u := fun c u h z => by
      rw [upd_ne h]
      exact kep z hd
    have n1 : ∀ c, (upd (upd H d (.dK [])) o (.ins C dx (putF "_parts" (.ref d) []))) c = none → H c = none := fun c z => upd_none (upd_none z)
    have a1o : (upd (upd H d (.dK [])) o (.ins C dx (putF "_parts" (.ref d) []))) o = some (.ins C dx (putF "_parts" (.ref d) [])) := upd_same
    have a1d : (upd (upd H d (.dK [])) o (.ins C dx (putF "_parts" (.ref d) []))) d = some (.dK []) := by
      rw [upd_ne od.symm, upd_same]
    generalize upd (upd H d (.dK [])) o (.ins C dx (putF "_parts" (.ref d) [])) = A1 at *
    have p1 : (putF "_parts" (.ref d) ([] : List (Str × V))).length ≤ 1 := length_putF _ _ _
    refine ⟨_, rfl, o, C, dx, _, rfl, a1o, OC.cl, OC.n_given, Nat.lt_of_le_of_lt p1 (by decide), ?_⟩
    have p2 : (putF "_given" (.int 0) (putF "_parts" (.ref d) ([] : List (Str × V)))).length ≤ 2 := Nat.le_trans (length_putF _ _ _) (Nat.succ_le_succ p1)
    have k2 : ∀ c u, c ≠ o → A1 c = some u → (upd A1 o (.ins C dx (putF "_given" (.int 0) (putF "_parts" (.ref d) [])))) c = some u := fun c u h z => by
      rw [upd_ne h]
      exact z
    have a2o : (upd A1 o (.ins C dx (putF "_given" (.int 0) (putF "_parts" (.ref d) [])))) o = some (.ins C dx (putF "_given" (.int 0) (putF "_parts" (.ref d) []))) := upd_same
    have n2 : ∀ c, (upd A1 o (.ins C dx (putF "_given" (.int 0) (putF "_parts" (.ref d) [])))) c = none → A1 c = none := fun c z => upd_none z
    generalize upd A1 o (.ins C dx (putF "_given" (.int 0) (putF "_parts" (.ref d) []))) = A2 at *
    have a2d := k2 _ _ od.symm a1d
    intro e he
    have oe : o ≠ e := fun z => by rw [← z, a2o] at he; cases he
    have de : d ≠ e := fun z => by rw [← z, a2d] at he; cases he
    refine ⟨_, rfl, o, C, dx, _, rfl, kep a2o he, OC.cl, OC.n_pointing, Nat.lt_of_le_of_lt p2 (by decide), ?_⟩
    have p3 : (putF "_pointing" (.ref e) (putF "_given" (.int 0) (putF "_parts" (.ref d) ([] : List (Str × V))))).length ≤ 3 := Nat.le_trans (length_putF _ _ _) (Nat.succ_le_succ p2)
    have k3 : ∀ c u, c ≠ o → A2 c = some u → (upd (upd A2 e (.dK [])) o (.ins C dx (putF "_pointing" (.ref e) (putF "_given" (.int 0) (putF "_parts" (.ref d) []))))) c = some u := fun c u h z => by
      rw [upd_ne h]
      exact kep z he
    have n3 : ∀ c, (upd (upd A2 e (.dK [])) o (.ins C dx (putF "_pointing" (.ref e) (putF "_given" (.int 0) (putF "_parts" (.ref d) []))))) c = none → A2 c = none := fun c z => upd_none (upd_none z)
    have a3o : (upd (upd A2 e (.dK [])) o (.ins C dx (putF "_pointing" (.ref e) (putF "_given" (.int 0) (putF "_parts" (.ref d) []))))) o = some (.ins C dx (putF "_pointing" (.ref e) (putF "_given" (.int 0) (putF "_parts" (.ref d) [])))) := upd_same
    have a3e : (upd (upd A2 e (.dK [])) o (.ins C dx (putF "_pointing" (.ref e) (putF "_given" (.int 0) (putF "_parts" (.ref d) []))))) e = some (.dK []) := by
      rw [upd_ne oe.symm, upd_same]
    generalize upd (upd A2 e (.dK [])) o (.ins C dx (putF "_pointing" (.ref e) (putF "_given" (.int 0) (putF "_parts" (.ref d) [])))) = A3 at *
    have a3d := k3 _ _ od.symm a2d
    intro g hg
    have og : o ≠ g := fun z => by rw [← z, a3o] at hg; cases hg
    have dg : d ≠ g := fun z => by rw [← z, a3d] at hg; cases hg
    have eg : e ≠ g := fun z => by rw [← z, a3e] at hg; cases hg
    refine ⟨_, rfl, o, C, dx, _, rfl, kep a3o hg, OC.cl, OC.n_held, Nat.lt_of_le_of_lt p3 (by decide), ?_⟩
    have p4 : (putF "_held" (.ref g) (putF "_pointing" (.ref e) (putF "_given" (.int 0) (putF "_parts" (.ref d) ([] : List (Str × V)))))).length ≤ 4 := Nat.le_trans (length_putF _ _ _) (Nat.succ_le_succ p3)
    have z0 : DicN ([] : List (Key × V)) 0 := ⟨rfl, fun i hi => absurd hi (by omega), fun k hk => rfl⟩
    refine q _ (fun c => c = o ∨ c = d ∨ c = e ∨ c = g) ⟨⟨dx, d, e, g, _, [], [], [], upd_same, ?_, ?_, ?_, ?_, fun f hf => ?_, ?_, ?_, ?_, ⟨rfl, fun i p hp => (by cases hp), fun k hk => rfl⟩, z0, z0, Nat.le_trans p4 (by decide), .inl rfl, .inr (.inl rfl), .inr (.inr (.inl rfl)), .inr (.inr (.inr rfl)), de, dg, eg⟩, by decide⟩ (fun c u hc z => ?_) fun c hc => ?_
    · rw [lookup_putF, if_neg (by decide), lookup_putF, if_neg (by decide), lookup_putF, if_neg (by decide), lookup_putF, if_pos rfl]
    · rw [lookup_putF, if_neg (by decide), lookup_putF, if_neg (by decide), lookup_putF, if_pos rfl]
      rfl
    · rw [lookup_putF, if_neg (by decide), lookup_putF, if_pos rfl]
    · rw [lookup_putF, if_pos rfl]
    · have hm2 : f ≠ "_held" ∧ f ≠ "_pointing" ∧ f ≠ "_given" ∧ f ≠ "_parts" := ⟨fun e => hf (by rw [e]; decide), fun e => hf (by rw [e]; decide), fun e => hf (by rw [e]; decide), fun e => hf (by rw [e]; decide)⟩
      rw [lookup_putF, if_neg hm2.1, lookup_putF, if_neg hm2.2.1, lookup_putF, if_neg hm2.2.2.1, lookup_putF, if_neg hm2.2.2.2]
      rfl
    · rw [upd_ne od.symm]
      exact kep a3d hg
    · rw [upd_ne oe.symm]
      exact kep a3e hg
    · rw [upd_ne og.symm, upd_same]
    · rw [upd_ne hc]
      exact kep (k3 _ _ hc (k2 _ _ hc (k1 _ _ hc z))) hg
    · rcases hc with rfl | rfl | rfl | rfl
      · exact .inl rfl
      · exact .inr hd
      · exact .inr (n1 _ (n2 _ he))
      · exact .inr (n1 _ (n2 _ (n3 _ hg)))
end
end K32
set_option maxHeartbeats 1000000
namespace K32
open PySem PySem.Spec PyProof.Rows L2 Gd
open C8 (clsBody Met pe_mt pe_mt0)
theorem perm_eq : ∀ {xs ys : List Int}, xs.Perm ys → xs.Pairwise (· ≤ ·) → ys.Pairwise (· ≤ ·) → xs = ys
  | [], ys, h, _, _ => by rw [List.nil_perm.mp h]
  | x :: xs, [], h, _, _ => by
    have := h.length_eq
    cases this
  | x :: xs, y :: ys, h, hx, hy => by
    obtain ⟨x1, x2⟩ := List.pairwise_cons.mp hx
    obtain ⟨y1, y2⟩ := List.pairwise_cons.mp hy
    have e : x = y := by
      have a : y ∈ x :: xs := h.mem_iff.mpr (List.mem_cons_self ..)
      have b : x ∈ y :: ys := h.mem_iff.mp (List.mem_cons_self ..)
      rcases List.mem_cons.mp a with a | a
      · exact a.symm
      · rcases List.mem_cons.mp b with b | b
        · exact b
        · have := x1 _ a
          have := y1 _ b
          omega
    subst e
    rw [perm_eq (List.Perm.cons_inv h) x2 y2]
theorem range_up (n : Nat) : ((List.range n).map fun i => ((i : Nat) : Int)).Pairwise (· ≤ ·) := by
  refine List.pairwise_map.mpr ?_
  refine (List.pairwise_lt_range (n := n)).imp fun {a b} h => ?_
  omega
section
variable {P : Program} {w : World} {K : PySem.W.Frag} {mg : Str → Option Value} {base : Heap} {C : Addr}
def spNums (C : Addr) : Sp := fun vs H Q _ => ∃ (N : Addr → Prop) (o : Addr) (ps : List Pt), vs = [.ref o] ∧ StA N H o C ps ∧ ∀ (a : Addr) (H' : Hp), H a = none → Same H H' → H' a = some (.lst ((List.range ps.length).map num)) → Q (.ref a) H'
theorem ok_nums (T : Txt K mg) (OC : PtC K C) (M : MAt K C "numbers" "Parts.numbers" s_Parts_numbers ["self"]) : Met P w K mg base 1 C "numbers" (spNums C) [] := by
  refine M.met OC.cl sc_Parts_numbers (fun vs H Q E h => ?_) (fun f cdv A outer s H vs Q E hr h => ?_)
  · obtain ⟨N, o, ps, rfl, _⟩ := h
    rfl
  · obtain ⟨N, o, ps, rfl, r, q⟩ := h
    obtain ⟨dx, d, e, g, fs, kd, ke, kg, e1, l1, l2, l3, l4, nl, e2, e3, e4, dp, de, dg, lf, No, Nd, Ne, Ng, n1, n2, n3⟩ := r.ex
    refine ⟨_, (pss_one (ps_ret (pe_callB (Gq.call_sortDI (by rfl)) (by rfl) T.b_sorted (by decide +kernel) (pa_cons (pe_fld (pv 0) rfl) pa_nil)))), ?_⟩
    have few := r.few
    refine ⟨_, rfl, o, C, dx, fs, .ref d, rfl, e1, OC.cl, OC.n_parts, l1, d, kd, (List.range ps.length).map (fun i => ((i : Nat) : Int)), rfl, .inl e2, ?_, ?_, fun out a pm up ha => ?_⟩
    · rw [List.map_map]
      exact dp.keys
    · rw [List.length_map, List.length_range]
      omega
    · rw [perm_eq pm up (range_up _), List.map_map]
      exact q a _ ha (same_new ha) upd_same
end
end K32
set_option maxHeartbeats 1000000
namespace K32
open PySem PySem.Spec PyProof.Rows L2 Gd
open C8 (clsBody Met pe_mt pe_mt0)
theorem p30 : (10 : Int) ^ (30 : Int).toNat = 1000000000000000000000000000000 := by decide
theorem p29 : (10 : Int) ^ (29 : Int).toNat = 100000000000000000000000000000 := by decide
theorem p23 : (10 : Int) ^ (23 : Int).toNat = 100000000000000000000000 := by decide
theorem p8 : (10 : Int) ^ (8 : Int).toNat = 100000000 := by decide
theorem p7 : (10 : Int) ^ (7 : Int).toNat = 10000000 := by decide
theorem b30 : big30 = 999999999999999999999999999999 := by decide
section
variable {P : Program} {w : World} {K : PySem.W.Frag} {mg : Str → Option Value} {base : Heap} {C : Addr}
def spWt : Sp := fun vs H Q _ => ∃ (b : Addr) (m : Int), vs = [.ref b] ∧ BoxD H b m ∧ m ≤ 900000 ∧ ∀ (wt : Int) (H' : Hp), -big30 ≤ wt → wt ≤ big30 → BoxD H' b (m + 4) → (∀ c u, c ≠ b → H c = some u → H' c = some u) → Q (.int wt) H'
theorem ok_wt (T : Txt K mg) (c__law_take : CalG P w K mg base 1 "_law_take" spTakeD) (D : DefAt K mg "_law_worth" s__law_worth ["_law_box_here"]) : CalG P w K mg base 2 "_law_worth" spWt := by
  refine D.cal sc__law_worth (fun vs H Q E h => ?_) (fun f cdv A outer s H vs Q E hG hr h => ?_)
  · obtain ⟨b, m, rfl, _⟩ := h
    rfl
  · obtain ⟨b, m, rfl, hB, hm, q⟩ := h
    refine ⟨_, (pss_cons (ps_set (i := 1) sc__law_worth.nd rfl (Or.inl rfl) (pe_g c__law_take hG (hr.mono (by decide)) (by rfl) (pa_cons (pv 0) (pa_cons pe_int pa_nil))))
      (pss_cons (ps_set (i := 2) sc__law_worth.nd rfl (Or.inl rfl) (pe_op op_add (pe_op op_add (pe_op op_mul (pe_g c__law_take hG (hr.mono (by decide)) (by rfl) (pa_cons (pv 0) (pa_cons (pe_op op_pow pe_int pe_int) pa_nil))) (pe_op op_pow pe_int pe_int)) (pe_op op_mul (pe_g c__law_take hG (hr.mono (by decide)) (by rfl) (pa_cons (pv 0) (pa_cons (pe_op op_pow pe_int pe_int) pa_nil))) (pe_op op_pow pe_int pe_int))) (pe_g c__law_take hG (hr.mono (by decide)) (by rfl) (pa_cons (pv 0) (pa_cons (pe_op op_pow pe_int pe_int) pa_nil)))))
      (pss_one (ps_ret (pe_ix ix_list (pe_lst (pa_cons (pe_op op_sub (pe_op op_mod (pv 2) pe_int) pe_int) (pa_cons (pe_ix ix_list (pe_lst (pa_cons (pe_op op_sub (pe_op op_pow pe_int pe_int) pe_int) (pa_cons (pe_op op_sub pe_int (pe_op op_pow pe_int pe_int)) (pa_cons pe_int pa_nil)))) (pe_op op_mod (pv 2) pe_int) (fun _ _ => rfl)) (pa_cons (pe_op op_sub (pv 2) (pe_op op_pow pe_int pe_int)) pa_nil)))) (pv 1) (fun _ _ => rfl)))))), ?_⟩
    refine ⟨_, rfl, b, 3, m, rfl, hB, by omega, by decide, by decide, fun way H1 w0 w1 hB1 k1 => ?_⟩
    refine ⟨_, rfl, _, _, rfl, rfl, ⟨by decide, by decide, by decide⟩, b, 10 ^ (7 : Int).toNat, m + 1, rfl, hB1, by omega, by rw [p7]; decide, by rw [p7]; decide, fun x H2 x0 x1 hB2 k2 => ?_⟩
    rw [p7] at x1
    refine ⟨_, _, rfl, rfl, ⟨by decide, by decide, by decide⟩, _, _, rfl, rfl, .inl ⟨by omega, by omega⟩, ?_⟩
    refine ⟨_, rfl, _, _, rfl, rfl, ⟨by decide, by decide, by decide⟩, b, 10 ^ (7 : Int).toNat, m + 1 + 1, rfl, hB2, by omega, by rw [p7]; decide, by rw [p7]; decide, fun y H3 y0 y1 hB3 k3 => ?_⟩
    rw [p7] at y1
    refine ⟨_, _, rfl, rfl, ⟨by decide, by decide, by decide⟩, _, _, rfl, rfl, .inl ⟨by omega, by omega⟩, _, _, rfl, rfl, ?_⟩
    refine ⟨_, rfl, _, _, rfl, rfl, ⟨by decide, by decide, by decide⟩, b, 10 ^ (7 : Int).toNat, m + 1 + 1 + 1, rfl, hB3, by omega, by rw [p7]; decide, by rw [p7]; decide, fun z H4 z0 z1 hB4 k4 => ?_⟩
    rw [p7] at z1
    refine ⟨_, _, rfl, rfl, ?_⟩
    have nb0 : 0 ≤ x * 10 ^ (23 : Int).toNat + y * 10 ^ (8 : Int).toNat + z := by
      rw [p23, p8]
      omega
    have nb1 : x * 10 ^ (23 : Int).toNat + y * 10 ^ (8 : Int).toNat + z < 1000000000000000000000000000000 := by
      rw [p23, p8]
      omega
    rw [show ((fun (i j : Int) => V.int (i + j)) (x * 10 ^ (23 : Int).toNat + y * 10 ^ (8 : Int).toNat) z) = V.int (x * 10 ^ (23 : Int).toNat + y * 10 ^ (8 : Int).toNat + z) from rfl]
    generalize x * 10 ^ (23 : Int).toNat + y * 10 ^ (8 : Int).toNat + z = nr at *
    have k04 : ∀ c u, c ≠ b → H c = some u → H4 c = some u := fun c u hc w => (k4 c hc).trans ((k3 c hc).trans ((k2 c hc).trans ((k1 c hc).trans w)))
    refine ⟨_, rfl, _, _, rfl, rfl, (by decide : (0 : Int) < 19), _, _, rfl, rfl, _, _, rfl, rfl, ⟨by decide, by decide, by decide⟩, _, _, rfl, rfl, _, _, rfl, rfl, ⟨by decide, by decide, by decide⟩, _, _, rfl, rfl, (by show 3 ≤ sizeLine; decide), fun p1 hp1 => ?_⟩
    have s5 := same_new (o := .lst [.int (10 ^ (30 : Int).toNat - 1), .int (1 - 10 ^ (30 : Int).toNat), .int 0]) hp1
    have e5 : (upd H4 p1 (.lst [.int (10 ^ (30 : Int).toNat - 1), .int (1 - 10 ^ (30 : Int).toNat), .int 0])) p1 = some (.lst [.int (10 ^ (30 : Int).toNat - 1), .int (1 - 10 ^ (30 : Int).toNat), .int 0]) := upd_same
    generalize upd H4 p1 (.lst [.int (10 ^ (30 : Int).toNat - 1), .int (1 - 10 ^ (30 : Int).toNat), .int 0]) = H5 at *
    obtain ⟨w2, hw2, hat2⟩ : ∃ w2 : Int, (-big30 ≤ w2 ∧ w2 ≤ big30) ∧ atI [V.int (10 ^ (30 : Int).toNat - 1), V.int (1 - 10 ^ (30 : Int).toNat), V.int 0] (nr % 3) = some (.int w2) := by
      rcases (by omega : nr % 3 = 0 ∨ nr % 3 = 1 ∨ nr % 3 = 2) with h | h | h
      · rw [h]
        exact ⟨_, by rw [b30, p30]; decide, rfl⟩
      · rw [h]
        exact ⟨_, by rw [b30, p30]; decide, rfl⟩
      · rw [h]
        exact ⟨_, by rw [b30]; decide, rfl⟩
    refine ⟨_, rfl, _, _, rfl, rfl, (by decide : (0 : Int) < 3), p1, _, _, .int w2, rfl, rfl, SqL.of e5, hat2, ?_⟩
    refine ⟨_, rfl, _, _, rfl, rfl, ⟨by decide, by decide, by decide⟩, _, _, rfl, rfl, (by show 3 ≤ sizeLine; decide), fun p2 hp2 => ?_⟩
    have s6 := same_new (o := .lst [.int (nr % 19 - 9), .int w2, .int (nr - 10 ^ (29 : Int).toNat)]) hp2
    have e6 : (upd H5 p2 (.lst [.int (nr % 19 - 9), .int w2, .int (nr - 10 ^ (29 : Int).toNat)])) p2 = some (.lst [.int (nr % 19 - 9), .int w2, .int (nr - 10 ^ (29 : Int).toNat)]) := upd_same
    generalize upd H5 p2 (.lst [.int (nr % 19 - 9), .int w2, .int (nr - 10 ^ (29 : Int).toNat)]) = H6 at *
    obtain ⟨w3, hw3, hat3⟩ : ∃ w3 : Int, (-big30 ≤ w3 ∧ w3 ≤ big30) ∧ atI [V.int (nr % 19 - 9), V.int w2, V.int (nr - 10 ^ (29 : Int).toNat)] way = some (.int w3) := by
      rcases (by omega : way = 0 ∨ way = 1 ∨ way = 2) with rfl | rfl | rfl
      · exact ⟨_, by rw [b30]; omega, rfl⟩
      · exact ⟨_, hw2, rfl⟩
      · exact ⟨_, by rw [b30, p29]; omega, rfl⟩
    have s46 := s5.trans s6
    refine ⟨_, rfl, p2, _, _, .int w3, rfl, rfl, SqL.of e6, hat3, q w3 H6 hw3.1 hw3.2 ((hB4.kp fun u w => s46 _ _ w).up (by omega)) fun c u hc w => s46 _ _ (k04 c u hc w)⟩
end
end K32
set_option maxHeartbeats 1000000
namespace K32
open PySem PySem.Spec PyProof.Rows L2 Gd
open C8 (clsBody Met pe_mt pe_mt0)
section
variable {P : Program} {w : World} {K : PySem.W.Frag} {mg : Str → Option Value} {base : Heap} {C : Addr}
def spWts : Sp := fun vs H Q _ => ∃ (b : Addr) (m : Int), vs = [.ref b] ∧ BoxD H b m ∧ m ≤ 800000 ∧ ∀ (a : Addr) (ws : List Int) (H' : Hp), H a = none → H' a = some (.lst (ws.map V.int)) → 1 ≤ ws.length → ws.length ≤ 16 → (∀ x, x ∈ ws → -big30 ≤ x ∧ x ≤ big30) → BoxD H' b (m + 100) → (∀ c u, c ≠ b → H c = some u → H' c = some u) → Q (.ref a) H'
theorem ok_wts (T : Txt K mg) (c__law_take : CalG P w K mg base 1 "_law_take" spTakeD) (c__law_worth : CalG P w K mg base 2 "_law_worth" spWt) (D : DefAt K mg "_law_worths" s__law_worths ["_law_box_here"]) : CalG P w K mg base 3 "_law_worths" spWts := by
  refine D.cal sc__law_worths (fun vs H Q E h => ?_) (fun f cdv A outer s H vs Q E hG hr h => ?_)
  · obtain ⟨b, m, rfl, _⟩ := h
    rfl
  · obtain ⟨b, m, rfl, hB, hm, q⟩ := h
    refine ⟨_, (pss_cons (ps_set (i := 1) sc__law_worths.nd rfl (Or.inl rfl) (pe_ix ix_list (pe_lst (pa_cons (pe_op op_add pe_int (pe_g c__law_take hG (hr.mono (by decide)) (by rfl) (pa_cons (pv 0) (pa_cons pe_int pa_nil)))) (pa_cons pe_int (pa_cons (pe_op op_add pe_int (pe_g c__law_take hG (hr.mono (by decide)) (by rfl) (pa_cons (pv 0) (pa_cons pe_int pa_nil)))) pa_nil)))) (pe_g c__law_take hG (hr.mono (by decide)) (by rfl) (pa_cons (pv 0) (pa_cons pe_int pa_nil))) (fun _ _ => rfl)))
      (pss_one (ps_ret (pe_lc (own := [("_law_k", 2)]) (g := gName 2) (tt := tYes) rfl sc__law_worths.nd (pi_range1 rfl T.b_range (pa_cons (pv 1) pa_nil)) (blkOk_by (own := [("_law_k", 2)]) (N := ["_law_box_here", "_law_size", "_law_k"]) (sc := defScope s__law_worths) (by decide +kernel)) (fun _ _ _ _ _ => pg_name (i := 2) sc__law_worths.nd rfl (Or.inl rfl)) (fun _ _ _ _ _ => pts_nil) (fun _ _ _ _ _ => (pe_g c__law_worth hG (hr.mono (by decide)) (by rfl) (pa_cons (pv 0) pa_nil))))))), ?_⟩
    refine ⟨_, rfl, b, 16, m, rfl, hB, by omega, by decide, by decide, fun x H1 x0 x1 hB1 k1 => ?_⟩
    refine ⟨_, _, rfl, rfl, _, rfl, b, 3, m + 1, rfl, hB1, by omega, by decide, by decide, fun y H2 y0 y1 hB2 k2 => ?_⟩
    refine ⟨_, _, rfl, rfl, (by show 3 ≤ sizeLine; decide), fun p1 hp1 => ?_⟩
    have s3 := same_new (o := .lst [.int (1 + x), .int 16, .int (1 + y)]) hp1
    have e3 : (upd H2 p1 (.lst [.int (1 + x), .int 16, .int (1 + y)])) p1 = some (.lst [.int (1 + x), .int 16, .int (1 + y)]) := upd_same
    have hB3 := hB2.kp fun u z => s3 _ _ z
    have pb := hB2.ne hp1
    generalize upd H2 p1 (.lst [.int (1 + x), .int 16, .int (1 + y)]) = H3 at *
    refine ⟨_, rfl, b, 3, m + 1 + 1, rfl, hB3, by omega, by decide, by decide, fun z H4 z0 z1 hB4 k4 => ?_⟩
    obtain ⟨n, hn, hat⟩ : ∃ n : Int, (1 ≤ n ∧ n ≤ 16) ∧ atI [V.int (1 + x), V.int 16, V.int (1 + y)] z = some (.int n) := by
      rcases (by omega : z = 0 ∨ z = 1 ∨ z = 2) with rfl | rfl | rfl
      · exact ⟨_, ⟨by omega, by omega⟩, rfl⟩
      · exact ⟨_, ⟨by omega, by omega⟩, rfl⟩
      · exact ⟨_, ⟨by omega, by omega⟩, rfl⟩
    refine ⟨p1, _, _, .int n, rfl, rfl, SqL.of ((k4 _ pb).trans e3), hat, ?_⟩
    have k04 : ∀ c u, c ≠ b → H c = some u → H4 c = some u := fun c u hc w => (k4 c hc).trans (s3 _ _ ((k2 c hc).trans ((k1 c hc).trans w)))
    refine ⟨_, rfl, _, rfl, by omega, by omega, fun B hB' => ?_⟩
    have nB : B ≠ b := hB4.ne hB'
    have hB0 : H B = none := by
      cases e : H B with
      | none => rfl
      | some u =>
        rw [k04 B u nB e] at hB'
        cases hB'
    refine lc_it (walk_range (lo := 0) (n := n.toNat)) (fun k H' => ∃ ws : List Int, H' B = some (.lst (ws.map V.int)) ∧ ws.length = k ∧ (∀ x, x ∈ ws → -big30 ≤ x ∧ x ≤ big30) ∧ BoxD H' b (m + 3 + 4 * (k : Nat)) ∧ (∀ c u, c ≠ b → H c = some u → H' c = some u)) ⟨[], upd_same, rfl, (fun x hx => by cases hx), ?_, fun c u hc w => ?_⟩ (fun k H' _ hP => trivial) (fun k v H5 H6 hk hP hY => ?_) (fun H5 hP => ?_)
    · exact (hB4.kp fun u w => by rw [upd_ne nB.symm]; exact w).up (by omega)
    · rw [upd_ne (ne_of_none w hB0)]
      exact k04 c u hc w
    · obtain ⟨ws, d5, hl, hw, hB5, k5⟩ := hP
      obtain ⟨rfl, rfl⟩ := hY
      refine ⟨rfl, yesI ?_⟩
      refine ⟨_, rfl, b, m + 3 + 4 * (k : Nat), rfl, hB5, by omega, fun wt H7 a1 a2 hB7 k7 => ?_⟩
      refine ⟨_, k7 _ _ nB d5, ?_, ws ++ [wt], ?_, by rw [List.length_append, hl]; rfl, fun x hx => ?_, ?_, fun c u hc w => ?_⟩
      · rw [List.length_map]
        exact small1000 (by omega)
      · rw [upd_same, List.map_append]
        rfl
      · rcases List.mem_append.mp hx with h | h
        · exact hw x h
        · rw [List.mem_singleton.mp h]
          exact ⟨a1, a2⟩
      · exact (hB7.kp fun u w => by rw [upd_ne nB.symm]; exact w).up (by omega)
      · rw [upd_ne (ne_of_none w hB0)]
        exact k7 c u hc (k5 c u hc w)
    · obtain ⟨ws, d5, hl, hw, hB5, k5⟩ := hP
      exact q B ws H5 hB0 d5 (by omega) (by omega) hw (hB5.up (by omega)) k5
end
end K32
set_option maxHeartbeats 1000000
namespace K32
open PySem PySem.Spec PyProof.Rows L2 Gd
open C8 (clsBody Met pe_mt pe_mt0)
/-- the law's list of parts -/
def Mo (H : Hp) (m : Addr) (ps : List Pt) : Prop := ∃ xs, H m = some (.lst xs) ∧ xs.length = ps.length ∧ ∀ (i : Nat) (p : Pt), ps[i]? = some p → ∃ t, xs[i]? = some (.ref t) ∧ H t = some (.tup (ptV p))
theorem Mo.kp {H H' : Hp} {m : Addr} {ps : List Pt} (h : Mo H m ps) (k : ∀ u, H m = some u → H' m = some u) (kt : KT H H') : Mo H' m ps := by
  obtain ⟨xs, a, b, c⟩ := h
  exact ⟨xs, k _ a, b, fun i p e => by
    obtain ⟨t, t1, t2⟩ := c i p e
    exact ⟨t, t1, kt _ _ t2⟩⟩
section
variable {P : Program} {w : World} {K : PySem.W.Frag} {mg : Str → Option Value} {base : Heap} {C : Addr}
def spLay : Sp := fun vs H Q _ => ∃ (m t : Addr) (ps : List Pt) (p : Pt), vs = [.ref m, .ref t] ∧ Mo H m ps ∧ H t = some (.tup (ptV p)) ∧ ps.length < 1000 ∧ ∀ H', Mo H' m (ps ++ [p]) → (∀ c u, c ≠ m → H c = some u → H' c = some u) → KT H H' → Q (num ps.length) H'
theorem ok_lay (T : Txt K mg) (D : DefAt K mg "_law_lay" s__law_lay ["_law_model", "_law_told"]) : CalG P w K mg base 1 "_law_lay" spLay := by
  refine D.cal sc__law_lay (fun vs H Q E h => ?_) (fun f cdv A outer s H vs Q E hG hr h => ?_)
  · obtain ⟨m, t, ps, p, rfl, _⟩ := h
    rfl
  · obtain ⟨m, t, ps, p, rfl, ⟨xs, a1, a2, a3⟩, ht, hn, q⟩ := h
    refine ⟨_, (pss_cons (ps_expr (pe_bm PySem.F.plainAttrs_list PySem.F.slot_list_append PySem.F.type_list_append mt_append (pv 0) (pa_cons (pv 1) pa_nil)))
      (pss_one (ps_ret (pe_op op_sub (pe_callB call_len (by rfl) T.b_len boot_len_ (pa_cons (pv 0) pa_nil)) pe_int)))), ?_⟩
    refine ⟨_, rfl, .inl ⟨rfl, _, SqL.of a1⟩, _, rfl, m, _, _, rfl, rfl, a1, small1000 (by omega), ?_⟩
    have km : ∀ c u, c ≠ m → H c = some u → (upd H m (.lst (xs ++ [.ref t]))) c = some u := fun c u hc z => by
      rw [upd_ne hc]
      exact z
    have e1 : (upd H m (.lst (xs ++ [.ref t]))) m = some (.lst (xs ++ [.ref t])) := upd_same
    generalize upd H m (.lst (xs ++ [.ref t])) = H1 at *
    have kt : KT H H1 := fun c ys z => km c _ (fun e => by rw [e, a1] at z; cases z) z
    refine ⟨_, rfl, .ref m, _, rfl, .inl ⟨_, SqL.of e1, rfl⟩, _, _, rfl, rfl, ?_⟩
    have el : V.int ((((xs ++ [V.ref t]).length : Nat) : Int) - 1) = num ps.length := by
      show V.int _ = V.int _
      rw [List.length_append]
      show V.int (((xs.length + 1 : Nat) : Int) - 1) = _
      rw [a2]
      congr 1
      omega
    rw [show ((fun (i j : Int) => V.int (i - j)) (((xs ++ [V.ref t]).length : Nat) : Int) 1) = num ps.length from el]
    refine q H1 ⟨_, e1, by rw [List.length_append, List.length_append, a2]; rfl, fun i x hx => ?_⟩ km kt
    by_cases z : i < ps.length
    · rw [List.getElem?_append_left z] at hx
      obtain ⟨u, u1, u2⟩ := a3 i x hx
      exact ⟨u, by rw [List.getElem?_append_left (by omega)]; exact u1, kt _ _ u2⟩
    · have hl := lt_of hx
      rw [List.length_append] at hl
      have hl : i < ps.length + 1 := hl
      have ei : i = ps.length := by omega
      subst ei
      rw [List.getElem?_append_right (Nat.le_refl _), Nat.sub_self] at hx
      cases (Option.some.inj hx)
      exact ⟨t, by rw [← a2, List.getElem?_append_right (Nat.le_refl _), Nat.sub_self]; rfl, kt _ _ ht⟩
def spEndsL : Sp := fun vs H Q _ => ∃ (t : Addr) (p : Pt), vs = [.ref t] ∧ H t = some (.tup (ptV p)) ∧ ∀ (u : Addr) (H' : Hp), H u = none → Same H H' → H' u = some (.tup [num (lowP p), num (highP p)]) → Q (.ref u) H'
theorem ok_endsL (T : Txt K mg) (D : DefAt K mg "_law_ends" s__law_ends ["_law_told"]) : CalG P w K mg base 1 "_law_ends" spEndsL := by
  refine D.cal sc__law_ends (fun vs H Q E h => ?_) (fun f cdv A outer s H vs Q E hG hr h => ?_)
  · obtain ⟨t, p, rfl, _⟩ := h
    rfl
  · obtain ⟨t, p, rfl, ht, q⟩ := h
    refine ⟨_, (pss_cons (ps_if (pt_cmpR op_eq (pe_ix ix_tup (pv 0) pe_int (fun _ _ => rfl)) pe_str (nomark _))
          (pss_one (ps_ret (pe_tup (pa_cons (pe_ix ix_tup (pv 0) pe_int (fun _ _ => rfl)) (pa_cons (pe_op op_add (pe_ix ix_tup (pv 0) pe_int (fun _ _ => rfl)) pe_int) pa_nil))))) pss_nil)
      (pss_one (ps_ret (pe_tup (pa_cons (pe_ix ix_tup (pv 0) pe_int (fun _ _ => rfl)) (pa_cons (pe_ix ix_tup (pv 0) pe_int (fun _ _ => rfl)) pa_nil)))))), ?_⟩
    cases p with
    | leaf p wt =>
      refine ⟨_, rfl, t, _, _, .str "leaf", rfl, rfl, SqT.of ht, rfl, rfl, _, rfl, ite2 (fun _ => ?_) (fun z => absurd (by decide) z)⟩
      refine ⟨_, rfl, t, _, _, num p, rfl, rfl, SqT.of ht, rfl, _, rfl, t, _, _, num p, rfl, rfl, SqT.of ht, rfl, _, _, rfl, rfl, (by show 2 ≤ sizeLine; decide), fun u hu => ?_⟩
      exact q u _ hu (same_new hu) upd_same
    | fork lo hi l r =>
      refine ⟨_, rfl, t, _, _, .str "fork", rfl, rfl, SqT.of ht, rfl, rfl, _, rfl, ite2 (fun z => absurd z (by decide)) (fun _ => ?_)⟩
      refine ⟨_, rfl, t, _, _, num lo, rfl, rfl, SqT.of ht, rfl, _, rfl, t, _, _, num hi, rfl, rfl, SqT.of ht, rfl, (by show 2 ≤ sizeLine; decide), fun u hu => ?_⟩
      exact q u _ hu (same_new hu) upd_same
end
end K32
set_option maxHeartbeats 1000000
namespace K32
open PySem PySem.Spec PyProof.Rows L2 Gd
open C8 (clsBody Met pe_mt pe_mt0)
section
variable {P : Program} {w : World} {K : PySem.W.Frag} {mg : Str → Option Value} {base : Heap} {C : Addr}
def spLd : Nat → Sp
  | 0 => fun _ _ _ _ => False
  | h + 1 => fun vs H Q _ => ∃ (m a : Addr) (ps : List Pt) (ws : List Int) (lo hi : Nat), vs = [.ref m, .ref a, num lo, num hi] ∧ Mo H m ps ∧ H a = some (.lst (ws.map V.int)) ∧ a ≠ m ∧ lo < hi ∧ hi ≤ ws.length ∧ ws.length ≤ 16 ∧ hi - lo ≤ 2 ^ h ∧ ps.length + 2 * (hi - lo) ≤ 1000 ∧
    ∀ H', Mo H' m (blt ws h ps lo hi) → (∀ c u, c ≠ m → H c = some u → H' c = some u) → KT H H' → Q (num ((blt ws h ps lo hi).length - 1)) H'
theorem ok_ld (T : Txt K mg) (c__law_lay : CalG P w K mg base 1 "_law_lay" spLay) (D : DefAt K mg "_law_laid" s__law_laid ["_law_model", "_law_worths_here", "_law_low", "_law_high"]) : ∀ h : Nat, CalG P w K mg base (2 + h) "_law_laid" (spLd h) := by
  intro h
  induction h with
  | zero => exact D.cal sc__law_laid (fun vs H Q E h => h.elim) (fun f cdv A outer s H vs Q E hG hr h => h.elim)
  | succ h c__law_laid =>
    refine D.cal sc__law_laid (fun vs H Q E h => ?_) (fun f cdv A outer s H vs Q E hG hr h => ?_)
    · obtain ⟨m, a, ps, ws, lo, hi, rfl, _⟩ := h
      rfl
    · obtain ⟨m, a, ps, ws, lo, hi, rfl, x, ha, na, h1, h2, h3, h4, h5, q⟩ := h
      have hlo : lo < ws.length := by omega
      have hwl : (ws.map V.int)[lo]? = some (.int (ws.getD lo 0)) := by
        rw [List.getElem?_map, List.getElem?_eq_getElem hlo, List.getD_eq_getElem?_getD, List.getElem?_eq_getElem hlo]
        rfl
      have kts : ∀ {H H' : Hp} {t : Addr} {o : HO}, H t = none → (∀ c u, c ≠ m → (upd H t o) c = some u → H' c = some u) → ∀ c u, c ≠ m → H c = some u → H' c = some u := fun ht k c u hc z => k c u hc (by rw [upd_ne (ne_of_none z ht)]; exact z)
      refine ⟨_, (pss_cons (ps_if (pt_cmpR op_eq (pe_op op_sub (pv 3) (pv 2)) pe_int (nomark _))
          (pss_one (ps_ret (pe_g c__law_lay hG (hr.mono (show 1 ≤ 2 + h from by omega)) (by rfl) (pa_cons (pv 0) (pa_cons (pe_tup (pa_cons pe_str (pa_cons (pv 2) (pa_cons (pe_ix ix_list (pv 1) (pv 2) (fun _ _ => rfl)) pa_nil)))) pa_nil))))) pss_nil)
      (pss_cons (ps_set (i := 4) sc__law_laid.nd rfl (Or.inl rfl) (pe_op op_fdiv (pe_op op_add (pv 2) (pv 3)) pe_int))
      (pss_cons (ps_set (i := 5) sc__law_laid.nd rfl (Or.inl rfl) (pe_g c__law_laid hG (hr.mono (show 2 + h ≤ 2 + h from Nat.le_refl _)) (by rfl) (pa_cons (pv 0) (pa_cons (pv 1) (pa_cons (pv 2) (pa_cons (pv 4) pa_nil))))))
      (pss_cons (ps_set (i := 6) sc__law_laid.nd rfl (Or.inl rfl) (pe_g c__law_laid hG (hr.mono (show 2 + h ≤ 2 + h from Nat.le_refl _)) (by rfl) (pa_cons (pv 0) (pa_cons (pv 1) (pa_cons (pv 4) (pa_cons (pv 3) pa_nil))))))
      (pss_one (ps_ret (pe_g c__law_lay hG (hr.mono (show 1 ≤ 2 + h from by omega)) (by rfl) (pa_cons (pv 0) (pa_cons (pe_tup (pa_cons pe_str (pa_cons (pv 2) (pa_cons (pv 3) (pa_cons (pv 5) (pa_cons (pv 6) pa_nil)))))) pa_nil))))))))), ?_⟩
      refine ⟨_, rfl, _, rfl, _, _, rfl, rfl, rfl, _, rfl, ite2 (fun hc => ?_) (fun hc => ?_)⟩
      · have h1' : hi - lo = 1 := by
          have := V.int.inj (of_decide_eq_true hc)
          omega
        refine ⟨_, rfl, _, rfl, _, rfl, _, rfl, a, _, _, .int (ws.getD lo 0), rfl, rfl, SqL.of ha, atI_nat hwl, (by show 3 ≤ sizeLine; decide), fun t ht => ?_⟩
        have s1 := same_new (o := .tup (ptV (.leaf lo (ws.getD lo 0)))) ht
        have et : (upd H t (.tup (ptV (.leaf lo (ws.getD lo 0))))) t = some (.tup (ptV (.leaf lo (ws.getD lo 0)))) := upd_same
        rw [blt_one ws h ps h1'] at q
        refine ⟨m, t, ps, .leaf lo (ws.getD lo 0), rfl, x.kp (fun u z => s1 _ _ z) (KT.of s1), et, by omega, fun H' x' k kt => ?_⟩
        have := q H' x' (fun c u hc z => k c u hc (s1 _ _ z)) fun c ys z => kt c ys (s1 _ _ z)
        rw [List.length_append] at this
        exact this
      · have hn1 : ¬ hi - lo = 1 := fun z => hc (decide_eq_true (by show V.int _ = V.int _; congr 1; omega))
        obtain ⟨g, rfl⟩ : ∃ g, h = g + 1 := by
          cases h with
          | zero =>
            have : (2 : Nat) ^ 0 = 1 := rfl
            omega
          | succ g => exact ⟨g, rfl⟩
        have e2 : (2 : Nat) ^ (g + 1) = 2 * 2 ^ g := by rw [Nat.pow_succ]; omega
        have em : V.int ((((lo : Nat) : Int) + ((hi : Nat) : Int)) / 2) = num ((lo + hi) / 2) := by
          show V.int _ = V.int _
          congr 1
        refine ⟨_, rfl, _, rfl, _, _, rfl, rfl, _, _, rfl, rfl, ⟨by decide, by decide⟩, ?_⟩
        rw [show ((fun (i j : Int) => V.int (i / j)) (((lo : Nat) : Int) + ((hi : Nat) : Int)) 2) = num ((lo + hi) / 2) from em]
        obtain ⟨a1, a2, pa, a3, a4, a5⟩ := blt_facts ws g ps lo ((lo + hi) / 2) (by omega) (by omega)
        refine ⟨_, rfl, _, rfl, _, rfl, _, rfl, m, a, ps, ws, lo, (lo + hi) / 2, rfl, x, ha, na, by omega, by omega, h3, by omega, by omega, fun H1 x1 k1 kt1 => ?_⟩
        unfold blt at q
        rw [if_neg hn1] at q
        generalize blt ws g ps lo ((lo + hi) / 2) = p1 at *
        obtain ⟨b1, b2, pb, b3, b4, b5⟩ := blt_facts ws g p1 ((lo + hi) / 2) hi (by omega) (by omega)
        refine ⟨_, rfl, _, rfl, _, rfl, _, rfl, m, a, p1, ws, (lo + hi) / 2, hi, rfl, x1, k1 _ _ na ha, na, by omega, by omega, h3, by omega, by omega, fun H2 x2 k2 kt2 => ?_⟩
        generalize blt ws g p1 ((lo + hi) / 2) hi = p2 at *
        refine ⟨_, rfl, _, rfl, _, rfl, _, rfl, _, rfl, (by show 5 ≤ sizeLine; decide), fun t ht => ?_⟩
        have s1 := same_new (o := .tup (ptV (.fork lo hi (p1.length - 1) (p2.length - 1)))) ht
        have et : (upd H2 t (.tup (ptV (.fork lo hi (p1.length - 1) (p2.length - 1))))) t = some (.tup (ptV (.fork lo hi (p1.length - 1) (p2.length - 1)))) := upd_same
        refine ⟨m, t, p2, .fork lo hi (p1.length - 1) (p2.length - 1), rfl, x2.kp (fun u z => s1 _ _ z) (KT.of s1), et, by omega, fun H' x' k kt => ?_⟩
        have := q H' x' (fun c u hc z => k c u hc (s1 _ _ (k2 c u hc (k1 c u hc z)))) fun c ys z => kt c ys (s1 _ _ (kt2 c ys (kt1 c ys z)))
        rw [List.length_append] at this
        exact this
end
end K32
set_option maxHeartbeats 1000000
namespace K32
open PySem PySem.Spec PyProof.Rows L2 Gd
open C8 (clsBody Met pe_mt pe_mt0)
section
variable {P : Program} {w : World} {K : PySem.W.Frag} {mg : Str → Option Value} {base : Heap} {C : Addr}
def spDn : Sp := fun vs H Q _ => ∃ (m : Addr) (ps : List Pt) (i pl : Nat) (p : Pt), vs = [.ref m, num i, num pl] ∧ Mo H m ps ∧ Wf ps ∧ ps[i]? = some p ∧ lowP p ≤ pl ∧ pl < highP p ∧ ∀ (a : Addr) (H' : Hp), H a = none → Same H H' → H' a = some (.lst ((down ps 16 i pl).map num)) → Q (.ref a) H'
theorem ok_dn (T : Txt K mg) (D : DefAt K mg "_law_down" s__law_down ["_law_model", "_law_root", "_law_place"]) : CalG P w K mg base 1 "_law_down" spDn := by
  refine D.cal sc__law_down (fun vs H Q E h => ?_) (fun f cdv A outer s H vs Q E hG hr h => ?_)
  · obtain ⟨m, ps, i, pl, p, rfl, _⟩ := h
    rfl
  · obtain ⟨m, ps, i, pl, p, rfl, ⟨xs, x1, x2, x3⟩, wf, hi, h1, h2, q⟩ := h
    have hp16 : highP p ≤ 16 := by
      have := wf i p hi
      cases p with
      | leaf q wt =>
        show q + 1 ≤ 16
        have h : q ≤ 15 := this
        omega
      | fork lo hi l r => exact this.2.1
    refine ⟨_, (pss_cons (ps_set (i := 3) sc__law_down.nd rfl (Or.inl rfl) (pe_lst (pa_cons (pv 1) pa_nil)))
      (pss_cons (ps_while PassesOwn.never (pt_cmpR op_eq (pe_ix ix_tup (pe_ix ix_list (pv 0) (pe_ix ix_list (pv 3) (pe_un un_neg pe_int) (fun _ _ => rfl)) (fun _ _ => rfl)) pe_int (fun _ _ => rfl)) pe_str (nomark _))
          (pss_cons (ps_asg (pe_ix ix_list (pv 0) (pe_ix ix_list (pv 3) (pe_un un_neg pe_int) (fun _ _ => rfl)) (fun _ _ => rfl)) (pg_tup (by rfl) (pgs_cons (pg_name (i := 4) sc__law_down.nd rfl (Or.inl rfl)) (pgs_cons (pg_name (i := 5) sc__law_down.nd rfl (Or.inl rfl)) (pgs_cons (pg_name (i := 6) sc__law_down.nd rfl (Or.inl rfl)) (pgs_cons (pg_name (i := 7) sc__law_down.nd rfl (Or.inl rfl)) (pgs_cons (pg_name (i := 8) sc__law_down.nd rfl (Or.inl rfl)) pgs_nil)))))))
          (pss_one (ps_expr (pe_bm PySem.F.plainAttrs_list PySem.F.slot_list_append PySem.F.type_list_append mt_append (pv 3) (pa_cons (pe_ix ix_list (pe_lst (pa_cons (pv 7) (pa_cons (pv 8) pa_nil))) (pe_callTy call_int1 (by rfl) T.t_int boot_int_ (pa_cons (pe_cmpR op_ge (pv 2) (pe_op op_fdiv (pe_op op_add (pv 5) (pv 6)) pe_int) (nomark _)) pa_nil)) (fun _ _ => rfl)) pa_nil))))))
      (pss_one (ps_ret (pv 3))))), ?_⟩
    refine ⟨_, rfl, (by show 1 ≤ sizeLine; decide), fun a ha => ?_⟩
    have s2 := same_new (o := .lst [num i]) ha
    have ea : (upd H a (.lst [num i])) a = some (.lst [num i]) := upd_same
    generalize upd H a (.lst [num i]) = H2 at *
    refine ⟨fun k σ H' => ∃ (cur f : Nat) (pre : List Nat) (c : Pt) (y4 y5 y6 y7 y8 : Option V), σ = [some (.ref m), some (num i), some (num pl), some (.ref a), y4, y5, y6, y7, y8] ∧ H' a = some (.lst ((pre ++ [cur]).map num)) ∧ ps[cur]? = some c ∧ lowP c ≤ pl ∧ pl < highP c ∧ Same H H' ∧ pre ++ down ps f cur pl = down ps 16 i pl ∧ highP c - lowP c ≤ f ∧ pre.length + f = 16 ∧ k = highP c - lowP c,
      ⟨_, i, 16, [], p, none, none, none, none, none, rfl, ea, hi, h1, h2, s2, rfl, by omega, rfl, rfl⟩, ?_⟩
    rintro k σ H3 ⟨cur, f0, pre, c, y4, y5, y6, y7, y8, rfl, ea3, hc, c1, c2, s3, hd, hf, hpre, rfl⟩
    obtain ⟨t, t1, t2⟩ := x3 cur c hc
    rw [List.map_append] at ea3
    refine ⟨_, rfl, _, rfl, _, rfl, a, _, _, num cur, rfl, rfl, SqL.of ea3, atI_last _ _, m, _, _, .ref t, rfl, rfl, SqL.of (s3 _ _ x1), atI_nat t1, ?_⟩
    cases c with
    | leaf q0 wt =>
      refine ⟨t, _, _, .str "leaf", rfl, rfl, SqT.of (s3 _ _ t2), rfl, rfl, _, rfl, ite2 (fun z => absurd z (by decide)) (fun _ => ?_)⟩
      rw [down_leaf hc] at hd
      rw [← List.map_append, hd] at ea3
      exact ⟨_, rfl, q a H3 ha s3 ea3⟩
    | fork lo hi' l r =>
      refine ⟨t, _, _, .str "fork", rfl, rfl, SqT.of (s3 _ _ t2), rfl, rfl, _, rfl, ite2 (fun _ => ?_) (fun z => absurd (by decide) z)⟩
      obtain ⟨w1, w2, w3, w4, pa, pb, hl, hr', p1, p2, p3, p4⟩ := wf cur _ hc
      have c1 : lo ≤ pl := c1
      have c2 : pl < hi' := c2
      have hf : hi' - lo ≤ f0 := hf
      obtain ⟨f0, rfl⟩ : ∃ g, f0 = g + 1 := ⟨f0 - 1, by omega⟩
      rw [down_fork hc] at hd
      refine ⟨_, fun σ' H'' z => z, ?_⟩
      refine ⟨_, rfl, _, rfl, _, rfl, a, _, _, num cur, rfl, rfl, SqL.of ea3, atI_last _ _, m, _, _, .ref t, rfl, rfl, SqL.of (s3 _ _ x1), atI_nat t1, t, _, rfl, SqT.of (s3 _ _ t2), rfl, _, _, rfl, _, _, rfl, _, _, rfl, _, _, rfl, _, _, rfl, rfl, ?_⟩
      refine ⟨_, rfl, .inl ⟨rfl, _, SqL.of ea3⟩, _, rfl, _, rfl, (by show 2 ≤ sizeLine; decide), fun p1' hp1 => ?_⟩
      have s4 := same_new (o := .lst [num l, num r]) hp1
      have e4 : (upd H3 p1' (.lst [num l, num r])) p1' = some (.lst [num l, num r]) := upd_same
      generalize upd H3 p1' (.lst [num l, num r]) = H4 at *
      have s34 := s3.trans s4
      have ea4 := s4 _ _ ea3
      refine ⟨_, rfl, _, rfl, _, rfl, _, _, rfl, rfl, _, _, rfl, rfl, ⟨by decide, by decide⟩, _, _, rfl, rfl, .inr ⟨_, rfl, ?_⟩⟩
      have hat : atI [num l, num r] (if decide ((((lo : Nat) : Int) + ((hi' : Nat) : Int)) / 2 ≤ ((pl : Nat) : Int)) = true then (1 : Int) else 0) = some (num (if pl < (lo + hi') / 2 then l else r)) := by
        by_cases hm : pl < (lo + hi') / 2
        · rw [if_pos hm, if_neg (fun z => by have := of_decide_eq_true z; omega)]
          rfl
        · rw [if_neg hm, if_pos (decide_eq_true (by omega))]
          rfl
      obtain ⟨pc, hpc, d1, d2, d3⟩ : ∃ pc, ps[if pl < (lo + hi') / 2 then l else r]? = some pc ∧ lowP pc ≤ pl ∧ pl < highP pc ∧ highP pc - lowP pc < hi' - lo := by
        by_cases z : pl < (lo + hi') / 2
        · rw [if_pos z]
          exact ⟨pa, hl, by omega, by omega, by omega⟩
        · rw [if_neg z]
          exact ⟨pb, hr', by omega, by omega, by omega⟩
      generalize (if pl < (lo + hi') / 2 then l else r) = nx at *
      refine ⟨p1', _, _, num nx, rfl, rfl, SqL.of e4, hat, a, _, _, rfl, rfl, ea4, small1000 (by rw [List.length_append, List.length_map]; show pre.length + 1 ≤ 1000; omega), ?_⟩
      refine ⟨highP pc - lowP pc, d3, nx, f0, pre ++ [cur], pc, _, _, _, _, _, rfl, ?_, hpc, d1, d2, fun c u z => ?_, ?_, by omega, by rw [List.length_append]; show pre.length + 1 + f0 = 16; omega, rfl⟩
      · rw [upd_same, List.map_append, List.map_append]
        rfl
      · rw [upd_ne (ne_of_none z ha)]
        exact s34 _ _ z
      · rw [← hd, List.append_assoc]
        rfl
end
end K32
set_option maxHeartbeats 1000000
namespace K32
open PySem PySem.Spec PyProof.Rows L2 Gd
open C8 (clsBody Met pe_mt pe_mt0)
theorem cut_last (xs : List V) : cutV xs none (some (-1)) = xs.dropLast := by
  unfold cutV
  rw [HT.sIx_none, List.drop_zero, List.dropLast_eq_take]
  have e : HT.sIx xs.length xs.length (some (-1)) = xs.length - 1 := by
    show (if (-1 : Int) < 0 then ((-1 : Int) + (xs.length : Int)).toNat else min (-1 : Int).toNat xs.length) = _
    rw [if_pos (by decide)]
    omega
  rw [e]
  rfl
section
variable {P : Program} {w : World} {K : PySem.W.Frag} {mg : Str → Option Value} {base : Heap} {C : Addr}
def spPutL : Sp := fun vs H Q _ => ∃ (m : Addr) (ps : List Pt) (i pl : Nat) (p : Pt) (wt : Int), vs = [.ref m, num i, num pl, .int wt] ∧ Mo H m ps ∧ Wf ps ∧ ps[i]? = some p ∧ lowP p ≤ pl ∧ pl < highP p ∧ ps.length ≤ 960 ∧
  ∀ H', Mo H' m (putP ps pl wt (down ps 16 i pl) ((down ps 16 i pl).length - 1)) → (∀ c u, c ≠ m → H c = some u → H' c = some u) → KT H H' → Q (num ((putP ps pl wt (down ps 16 i pl) ((down ps 16 i pl).length - 1)).length - 1)) H'
theorem ok_putL (T : Txt K mg) (c__law_lay : CalG P w K mg base 1 "_law_lay" spLay) (c__law_down : CalG P w K mg base 1 "_law_down" spDn) (D : DefAt K mg "_law_put" s__law_put ["_law_model", "_law_root", "_law_place", "_law_worth_here"]) : CalG P w K mg base 2 "_law_put" spPutL := by
  refine D.cal sc__law_put (fun vs H Q E h => ?_) (fun f cdv A outer s H vs Q E hG hr h => ?_)
  · obtain ⟨m, ps, i, pl, p, wt, rfl, _⟩ := h
    rfl
  · obtain ⟨m, ps, i, pl, p, wt, rfl, x, wf, hi, h1, h2, few, q⟩ := h
    have hp16 : highP p ≤ 16 := by
      have := wf i p hi
      cases p with
      | leaf q wt =>
        show q + 1 ≤ 16
        have h : q ≤ 15 := this
        omega
      | fork lo hi l r => exact this.2.1
    obtain ⟨W, x0, xl⟩ := down_way wf (pl := pl) 16 i p hi h1 h2 (by omega)
    refine ⟨_, (pss_cons (ps_set (i := 4) sc__law_put.nd rfl (Or.inl rfl) (pe_g c__law_down hG (hr.mono (by decide)) (by rfl) (pa_cons (pv 0) (pa_cons (pv 1) (pa_cons (pv 2) pa_nil)))))
      (pss_cons (ps_set (i := 5) sc__law_put.nd rfl (Or.inl rfl) (pe_g c__law_lay hG (hr.mono (by decide)) (by rfl) (pa_cons (pv 0) (pa_cons (pe_tup (pa_cons pe_str (pa_cons (pv 2) (pa_cons (pv 3) pa_nil)))) pa_nil))))
      (pss_cons (ps_for PassesOwn.never rfl (pi_list (pe_revL (pe_slice sl_list (pv 4) po_none (po_some (pe_un un_neg pe_int))))) (pg_name (i := 6) sc__law_put.nd rfl (Or.inl rfl))
          (pss_cons (ps_asg (pe_ix ix_list (pv 0) (pv 6) (fun _ _ => rfl)) (pg_tup (by rfl) (pgs_cons (pg_name (i := 7) sc__law_put.nd rfl (Or.inl rfl)) (pgs_cons (pg_name (i := 8) sc__law_put.nd rfl (Or.inl rfl)) (pgs_cons (pg_name (i := 9) sc__law_put.nd rfl (Or.inl rfl)) (pgs_cons (pg_name (i := 10) sc__law_put.nd rfl (Or.inl rfl)) (pgs_cons (pg_name (i := 11) sc__law_put.nd rfl (Or.inl rfl)) pgs_nil)))))))
          (pss_cons (ps_set (i := 12) sc__law_put.nd rfl (Or.inl rfl) (pe_ix ix_list (pe_lst (pa_cons (pe_tup (pa_cons (pv 5) (pa_cons (pv 11) pa_nil))) (pa_cons (pe_tup (pa_cons (pv 10) (pa_cons (pv 5) pa_nil))) pa_nil))) (pe_callTy call_int1 (by rfl) T.t_int boot_int_ (pa_cons (pe_cmpR op_ge (pv 2) (pe_op op_fdiv (pe_op op_add (pv 8) (pv 9)) pe_int) (nomark _)) pa_nil)) (fun _ _ => rfl)))
          (pss_one (ps_set (i := 5) sc__law_put.nd rfl (Or.inl rfl) (pe_g c__law_lay hG (hr.mono (by decide)) (by rfl) (pa_cons (pv 0) (pa_cons (pe_op op_catT (pe_tup (pa_cons pe_str (pa_cons (pv 8) (pa_cons (pv 9) pa_nil)))) (pv 12)) pa_nil))))))))
      (pss_one (ps_ret (pv 5)))))), ?_⟩
    refine ⟨_, rfl, _, rfl, _, rfl, m, ps, i, pl, p, rfl, x, wf, hi, h1, h2, fun a H1 ha s1 ea => ?_⟩
    generalize down ps 16 i pl = xs at *
    have xpos := W.pos
    obtain ⟨xm, mx, _⟩ := x
    have am : a ≠ m := (ne_of_none mx ha).symm
    have x : Mo H m ps := ⟨xm, mx, by assumption⟩
    refine ⟨_, rfl, _, rfl, _, rfl, (by show 3 ≤ sizeLine; decide), fun t ht => ?_⟩
    have s2 := same_new (o := .tup (ptV (.leaf pl wt))) ht
    have et : (upd H1 t (.tup (ptV (.leaf pl wt)))) t = some (.tup (ptV (.leaf pl wt))) := upd_same
    have s12 := s1.trans s2
    refine ⟨m, t, ps, .leaf pl wt, rfl, x.kp (fun u z => s12 _ _ z) (KT.of s12), et, by omega, fun H3 x3 k3 kt3 => ?_⟩
    have ea3 := k3 _ _ am (s2 _ _ ea)
    refine ⟨_, rfl, 1, rfl, _, rfl, a, _, rfl, SqL.of ea3, fun b hb => ?_⟩
    rw [cut_last, ← List.map_dropLast]
    have s4 := same_new (o := .lst (xs.dropLast.map num)) hb
    have eb : (upd H3 b (.lst (xs.dropLast.map num))) b = some (.lst (xs.dropLast.map num)) := upd_same
    generalize upd H3 b (.lst (xs.dropLast.map num)) = H4 at *
    refine ⟨b, _, rfl, SqL.of eb, fun c hc => ?_⟩
    rw [← List.map_reverse]
    have s5 := same_new (o := .lst (xs.dropLast.reverse.map num)) hc
    have ec : (upd H4 c (.lst (xs.dropLast.reverse.map num))) c = some (.lst (xs.dropLast.reverse.map num)) := upd_same
    generalize upd H4 c (.lst (xs.dropLast.reverse.map num)) = H5 at *
    refine ⟨c, rfl, ⟨_, SqL.of ec⟩, ?_⟩
    have s35 := s4.trans s5
    have cm : c ≠ m := fun z => by
      obtain ⟨ym, my, _⟩ := x3
      rw [z, s4 _ _ my] at hc
      cases hc
    have hlr : xs.dropLast.reverse.length = xs.length - 1 := by rw [List.length_reverse, List.length_dropLast]
    refine for_list (K := K) (a := c) (xs := xs.dropLast.reverse.map num) (fun k σ H' => ∃ (y6 y7 y8 y9 y10 y11 y12 : Option V), σ = [some (.ref m), some (num i), some (num pl), some (.int wt), some (.ref a), some (num ((putP ps pl wt xs k).length - 1)), y6, y7, y8, y9, y10, y11, y12] ∧ Mo H' m (putP ps pl wt xs k) ∧ H' c = some (.lst (xs.dropLast.reverse.map num)) ∧ (∀ c u, c ≠ m → H c = some u → H' c = some u) ∧ KT H H' ∧ (putP ps pl wt xs k).length = ps.length + 1 + k ∧ (∀ (j : Nat) (q : Pt), ps[j]? = some q → (putP ps pl wt xs k)[j]? = some q))
      ⟨none, none, none, none, none, none, none, ?_, x3.kp (fun u z => s35 _ _ z) (KT.of s35), ec, fun c u hc z => s35 _ _ (k3 _ _ hc (s12 _ _ z)), fun c ys z => s35 _ _ (kt3 _ _ (s12 _ _ z)), (by show (ps ++ [_]).length = _; rw [List.length_append]; rfl), fun j q hj => ?_⟩ (fun k σ H' _ hP => ?_) (fun k v σ H6 hk hP => ?_) (fun σ H6 hP => ?_)
    · show _ = [some (V.ref m), some (num i), some (num pl), some (.int wt), some (.ref a), some (num ((ps ++ [Pt.leaf pl wt]).length - 1)), none, none, none, none, none, none, none]
      rw [List.length_append]
      rfl
    · show (ps ++ [_])[j]? = _
      rw [List.getElem?_append_left (lt_of hj)]
      exact hj
    · obtain ⟨y6, y7, y8, y9, y10, y11, y12, rfl, x6, ec6, _⟩ := hP
      exact SqL.of ec6
    · obtain ⟨y6, y7, y8, y9, y10, y11, y12, rfl, x6, ec6, k6, kt6, pl6, pre⟩ := hP
      rw [List.getElem?_map] at hk
      obtain ⟨e, he, rfl⟩ : ∃ e, (xs.dropLast.reverse)[k]? = some e ∧ num e = v := by
        cases hj : (xs.dropLast.reverse)[k]? with
        | none =>
          rw [hj] at hk
          cases hk
        | some e =>
          rw [hj] at hk
          exact ⟨e, rfl, Option.some.inj hk⟩
      have hk' : k < xs.length - 1 := by
        by_cases z : k < xs.dropLast.reverse.length
        · omega
        · rw [List.getElem?_eq_none (by omega)] at he
          cases he
      have he2 : xs[xs.length - 2 - k]? = some e := by rw [← rev_at hk']; exact he
      obtain ⟨c2, hc2⟩ : ∃ c2, xs[xs.length - 2 - k + 1]? = some c2 := ⟨_, List.getElem?_eq_getElem (by omega)⟩
      obtain ⟨lo, hi', l, r, hf, ce⟩ := W.stp (xs.length - 2 - k) e c2 he2 hc2
      have hs := putP_succ (ps := ps) (pl := pl) (wt := wt) (xs := xs) (k := k) (e := e) he
      rw [putS_fork hf] at hs
      rw [hs]
      generalize putP ps pl wt xs k = qs at *
      obtain ⟨ym, my, ly, ay⟩ := x6
      obtain ⟨t, t1, t2⟩ := ay e _ (pre e _ hf)
      refine ⟨_, rfl, _, rfl, m, _, _, .ref t, rfl, rfl, SqL.of my, atI_nat t1, t, _, rfl, SqT.of t2, rfl, _, _, rfl, _, _, rfl, _, _, rfl, _, _, rfl, _, _, rfl, rfl, ?_⟩
      refine ⟨_, rfl, _, rfl, (by show 2 ≤ sizeLine; decide), fun p1 hp1 => ⟨_, rfl, _, rfl, (by show 2 ≤ sizeLine; decide), fun p2 hp2 => ⟨(by show 2 ≤ sizeLine; decide), fun p3 hp3 => ?_⟩⟩⟩
      have s7 := same_new (o := .tup [num (qs.length - 1), num r]) hp1
      have e7 : (upd H6 p1 (.tup [num (qs.length - 1), num r])) p1 = some (.tup [num (qs.length - 1), num r]) := upd_same
      generalize upd H6 p1 (.tup [num (qs.length - 1), num r]) = H7 at *
      have s8 := same_new (o := .tup [num l, num (qs.length - 1)]) hp2
      have e8 : (upd H7 p2 (.tup [num l, num (qs.length - 1)])) p2 = some (.tup [num l, num (qs.length - 1)]) := upd_same
      generalize upd H7 p2 (.tup [num l, num (qs.length - 1)]) = H8 at *
      have s9 := same_new (o := .lst [.ref p1, .ref p2]) hp3
      have e9 : (upd H8 p3 (.lst [.ref p1, .ref p2])) p3 = some (.lst [.ref p1, .ref p2]) := upd_same
      generalize upd H8 p3 (.lst [.ref p1, .ref p2]) = H9 at *
      refine ⟨_, rfl, _, rfl, _, rfl, _, _, rfl, rfl, _, _, rfl, rfl, ⟨by decide, by decide⟩, _, _, rfl, rfl, .inr ⟨_, rfl, ?_⟩⟩
      have hat : atI [V.ref p1, V.ref p2] (if decide ((((lo : Nat) : Int) + ((hi' : Nat) : Int)) / 2 ≤ ((pl : Nat) : Int)) = true then (1 : Int) else 0) = some (.ref (if pl < (lo + hi') / 2 then p1 else p2)) := by
        by_cases hm : pl < (lo + hi') / 2
        · rw [if_pos hm, if_neg (fun z => by have := of_decide_eq_true z; omega)]
          rfl
        · rw [if_neg hm, if_pos (decide_eq_true (by omega))]
          rfl
      obtain ⟨u, v, hpk⟩ : ∃ u v : V, H9 (if pl < (lo + hi') / 2 then p1 else p2) = some (.tup [u, v]) ∧ ([V.str "fork", num lo, num hi'] ++ [u, v]) = ptV (if pl < (lo + hi') / 2 then Pt.fork lo hi' (qs.length - 1) r else Pt.fork lo hi' l (qs.length - 1)) := by
        by_cases hm : pl < (lo + hi') / 2
        · rw [if_pos hm, if_pos hm]
          exact ⟨_, _, s9 _ _ (s8 _ _ e7), rfl⟩
        · rw [if_neg hm, if_neg hm]
          exact ⟨_, _, s9 _ _ e8, rfl⟩
      generalize (if pl < (lo + hi') / 2 then p1 else p2) = pk at *
      generalize (if pl < (lo + hi') / 2 then Pt.fork lo hi' (qs.length - 1) r else Pt.fork lo hi' l (qs.length - 1)) = pn at *
      refine ⟨p3, _, _, .ref pk, rfl, rfl, SqL.of e9, hat, ?_⟩
      have s79 := (s7.trans s8).trans s9
      refine ⟨_, rfl, _, rfl, _, rfl, (by show 3 ≤ sizeLine; decide), fun t4 ht4 => ⟨_, rfl, ?_⟩⟩
      have s10 := same_new (o := .tup [V.str "fork", num lo, num hi']) ht4
      have e10 : (upd H9 t4 (.tup [V.str "fork", num lo, num hi'])) t4 = some (.tup [V.str "fork", num lo, num hi']) := upd_same
      have e9b := s10 _ _ hpk.1
      refine ⟨t4, pk, _, _, rfl, rfl, SqT.of e10, SqT.of e9b, by simp, (by show 5 ≤ sizeLine; decide), fun z => (by cases z), fun _ t5 ht5 => ?_⟩
      have s11 := same_new (o := .tup (ptV pn)) ht5
      have e11 : (upd (upd H9 t4 (.tup [V.str "fork", num lo, num hi'])) t5 (.tup (ptV pn))) t5 = some (.tup (ptV pn)) := upd_same
      rw [hpk.2]
      have s711 := (s79.trans s10).trans s11
      have x6 : Mo H6 m qs := ⟨ym, my, ly, ay⟩
      refine ⟨m, t5, qs, pn, rfl, x6.kp (fun u z => s711 _ _ z) (KT.of s711), e11, by omega, fun H12 x12 k12 kt12 => ?_⟩
      have k12' : ∀ c u, c ≠ m → H6 c = some u → H12 c = some u := fun c u hc z => k12 c u hc (s711 _ _ z)
      have el : num ((qs ++ [pn]).length - 1) = num qs.length := by
        rw [List.length_append]
        rfl
      rw [el]
      refine ⟨_, _, _, _, _, _, _, rfl, x12, k12' _ _ cm ec6, fun c u hc z => k12' c u hc (k6 c u hc z), fun c ys z => kt12 c ys (s711 _ _ (kt6 c ys z)), by rw [List.length_append]; show qs.length + 1 = _; omega, fun j q hj => ?_⟩
      rw [List.getElem?_append_left (lt_of (pre j q hj))]
      exact pre j q hj
    · obtain ⟨y6, y7, y8, y9, y10, y11, y12, rfl, x6, ec6, k6, kt6, pl6, pre⟩ := hP
      rw [List.length_map, hlr] at x6
      rw [List.length_map, hlr]
      exact ⟨_, rfl, q H6 x6 k6 kt6⟩
end
end K32
set_option maxHeartbeats 1000000
namespace K32
open PySem PySem.Spec PyProof.Rows L2 Gd
theorem at_snoc {ps : List Pt} {p : Pt} : (ps ++ [p])[ps.length]? = some p := by
  rw [List.getElem?_append_right (Nat.le_refl _), Nat.sub_self]
  rfl
theorem at_pre {ps qs : List Pt} {i : Nat} {p : Pt} (h : ps[i]? = some p) : (ps ++ qs)[i]? = some p := by
  rw [List.getElem?_append_left (lt_of h)]
  exact h
/-- a part that may stand behind these -/
def Fits (ps : List Pt) : Pt → Prop
  | .leaf q _ => q ≤ 15
  | .fork lo hi l r => lo + 2 ≤ hi ∧ hi ≤ 16 ∧ ∃ a b, ps[l]? = some a ∧ ps[r]? = some b ∧ lowP a = lo ∧ highP a = (lo + hi) / 2 ∧ lowP b = (lo + hi) / 2 ∧ highP b = hi
theorem Wf.snoc {ps : List Pt} (wf : Wf ps) {p : Pt} (h : Fits ps p) : Wf (ps ++ [p]) := by
  intro i q hq
  by_cases z : i < ps.length
  · rw [List.getElem?_append_left z] at hq
    have := wf i q hq
    cases q with
    | leaf a b => exact this
    | fork lo hi l r =>
      obtain ⟨h1, h2, h3, h4, a, b, ha, hb, g⟩ := this
      exact ⟨h1, h2, h3, h4, a, b, at_pre ha, at_pre hb, g⟩
  · have hl := lt_of hq
    rw [List.length_append] at hl
    have hl : i < ps.length + 1 := hl
    have ei : i = ps.length := by omega
    subst ei
    rw [at_snoc] at hq
    cases (Option.some.inj hq)
    cases p with
    | leaf a b => exact h
    | fork lo hi l r =>
      obtain ⟨h1, h2, a, b, ha, hb, g⟩ := h
      exact ⟨h1, h2, lt_of ha, lt_of hb, a, b, at_pre ha, at_pre hb, g⟩
/-- nothing made ahead becomes another one -/
def Ext (ps qs : List Pt) : Prop := ∀ (i : Nat) (p : Pt), ps[i]? = some p → qs[i]? = some p
theorem Ext.refl (ps : List Pt) : Ext ps ps := fun _ _ h => h
theorem Ext.trans {a b c : List Pt} (h : Ext a b) (k : Ext b c) : Ext a c := fun i p z => k i p (h i p z)
theorem Ext.snoc (ps : List Pt) (p : Pt) : Ext ps (ps ++ [p]) := fun _ _ h => at_pre h
theorem blt_ext {ws : List Int} {f : Nat} {ps : List Pt} {lo hi : Nat} (h : lo < hi) (h2 : hi - lo ≤ 2 ^ f) : Ext ps (blt ws f ps lo hi) := fun i p e => by
  rw [(blt_facts ws f ps lo hi h h2).2.1 i (lt_of e)]
  exact e
theorem blt_wf (ws : List Int) : ∀ (f : Nat) (ps : List Pt) (lo hi : Nat), lo < hi → hi ≤ 16 → hi - lo ≤ 2 ^ f → Wf ps → Wf (blt ws f ps lo hi) := by
  intro f
  induction f with
  | zero =>
    intro ps lo hi hl h16 hh wf
    have h1 : hi - lo = 1 := by
      have : (2 : Nat) ^ 0 = 1 := rfl
      omega
    rw [blt_one ws 0 ps h1]
    exact wf.snoc (show lo ≤ 15 by omega)
  | succ f ih =>
    intro ps lo hi hl h16 hh wf
    by_cases h1 : hi - lo = 1
    · rw [blt_one ws (f + 1) ps h1]
      exact wf.snoc (show lo ≤ 15 by omega)
    · unfold blt
      rw [if_neg h1]
      have e2 : (2 : Nat) ^ (f + 1) = 2 * 2 ^ f := by rw [Nat.pow_succ]; omega
      obtain ⟨a1, a2, pa, a3, a4, a5⟩ := blt_facts ws f ps lo ((lo + hi) / 2) (by omega) (by omega)
      have w1 := ih ps lo ((lo + hi) / 2) (by omega) (by omega) (by omega) wf
      generalize blt ws f ps lo ((lo + hi) / 2) = p1 at *
      obtain ⟨b1, b2, pb, b3, b4, b5⟩ := blt_facts ws f p1 ((lo + hi) / 2) hi (by omega) (by omega)
      have w2 := ih p1 ((lo + hi) / 2) hi (by omega) (by omega) (by omega) w1
      generalize blt ws f p1 ((lo + hi) / 2) hi = p2 at *
      exact w2.snoc ⟨by omega, h16, pa, pb, by rw [b2 _ (by omega)]; exact a3, b3, a4, a5, b4, b5⟩
theorem put_facts {ps : List Pt} (wf : Wf ps) {pl : Nat} {wt : Int} {xs : List Nat} (W : Way ps pl xs) (h15 : pl ≤ 15) : ∀ k : Nat, k ≤ xs.length - 1 → Wf (putP ps pl wt xs k) ∧ (putP ps pl wt xs k).length = ps.length + 1 + k ∧ Ext ps (putP ps pl wt xs k) ∧ ∃ (c : Nat) (pc pt : Pt), xs[xs.length - 1 - k]? = some c ∧ ps[c]? = some pc ∧ (putP ps pl wt xs k)[ps.length + k]? = some pt ∧ lowP pt = lowP pc ∧ highP pt = highP pc
  | 0, _ => by
    obtain ⟨cE, hcE⟩ : ∃ c, xs[xs.length - 1]? = some c := ⟨_, List.getElem?_eq_getElem (by have := W.pos; omega)⟩
    obtain ⟨wE, hwE⟩ := W.fin cE hcE
    exact ⟨wf.snoc (p := .leaf pl wt) h15, by show (ps ++ [_]).length = _; rw [List.length_append]; rfl, Ext.snoc ps _, cE, .leaf pl wE, .leaf pl wt, hcE, hwE, at_snoc, rfl, rfl⟩
  | k + 1, hk => by
    obtain ⟨w1, len, ext, c, pc, pt, hc, hpc, hpt, t1, t2⟩ := put_facts wf W h15 (wt := wt) k (by omega)
    obtain ⟨e, he⟩ : ∃ e, xs[xs.length - 2 - k]? = some e := ⟨_, List.getElem?_eq_getElem (by omega)⟩
    obtain ⟨lo, hi', l, r, hf, ce⟩ := W.stp (xs.length - 2 - k) e c he (by rw [show xs.length - 2 - k + 1 = xs.length - 1 - k from by omega]; exact hc)
    obtain ⟨v1, v2, v3, v4, pa, pb, hl, hr', p1, p2, p3, p4⟩ := wf e _ hf
    rw [putP_succ (ps := ps) (pl := pl) (wt := wt) (xs := xs) (k := k) (e := e) (by rw [rev_at (by omega)]; exact he), putS_fork hf]
    generalize putP ps pl wt xs k = qs at *
    have hq : qs.length - 1 = ps.length + k := by omega
    have at_ : ∀ x : Pt, (qs ++ [x])[ps.length + (k + 1)]? = some x := fun x => by
      rw [show ps.length + (k + 1) = qs.length from by omega]
      exact at_snoc
    by_cases hm : pl < (lo + hi') / 2
    · rw [if_pos hm] at ce ⊢
      subst ce
      obtain rfl : pc = pa := Option.some.inj (hpc.symm.trans hl)
      exact ⟨w1.snoc ⟨v1, v2, pt, pb, by rw [hq]; exact hpt, ext _ _ hr', by omega, by omega, by omega, by omega⟩, by rw [List.length_append]; show qs.length + 1 = _; omega, ext.trans (Ext.snoc qs _), e, _, _, by rw [show xs.length - 1 - (k + 1) = xs.length - 2 - k from by omega]; exact he, hf, at_ _, rfl, rfl⟩
    · rw [if_neg hm] at ce ⊢
      subst ce
      obtain rfl : pc = pb := Option.some.inj (hpc.symm.trans hr')
      exact ⟨w1.snoc ⟨v1, v2, pa, pt, ext _ _ hl, by rw [hq]; exact hpt, by omega, by omega, by omega, by omega⟩, by rw [List.length_append]; show qs.length + 1 = _; omega, ext.trans (Ext.snoc qs _), e, _, _, by rw [show xs.length - 1 - (k + 1) = xs.length - 2 - k from by omega]; exact he, hf, at_ _, rfl, rfl⟩
/-- the worths of the leaves are worths -/
def Lw (ps : List Pt) : Prop := ∀ (i q : Nat) (wt : Int), ps[i]? = some (.leaf q wt) → -big30 ≤ wt ∧ wt ≤ big30
theorem Lw.leaf {ps : List Pt} (h : Lw ps) {q : Nat} {wt : Int} (w : -big30 ≤ wt ∧ wt ≤ big30) : Lw (ps ++ [.leaf q wt]) := fun i q2 w2 e => by
  by_cases z : i < ps.length
  · rw [List.getElem?_append_left z] at e
    exact h _ _ _ e
  · have hl := lt_of e
    rw [List.length_append] at hl
    have hl : i < ps.length + 1 := hl
    have ei : i = ps.length := by omega
    rw [ei, at_snoc] at e
    cases (Option.some.inj e)
    exact w
theorem Lw.fork {ps : List Pt} (h : Lw ps) {lo hi l r : Nat} : Lw (ps ++ [.fork lo hi l r]) := fun i q2 w2 e => by
  by_cases z : i < ps.length
  · rw [List.getElem?_append_left z] at e
    exact h _ _ _ e
  · have hl := lt_of e
    rw [List.length_append] at hl
    have hl : i < ps.length + 1 := hl
    have ei : i = ps.length := by omega
    rw [ei, at_snoc] at e
    cases (Option.some.inj e)
theorem big30_pos : -big30 ≤ (0 : Int) ∧ (0 : Int) ≤ big30 := by decide
theorem getD_in {ws : List Int} (h : ∀ x, x ∈ ws → -big30 ≤ x ∧ x ≤ big30) (i : Nat) : -big30 ≤ ws.getD i 0 ∧ ws.getD i 0 ≤ big30 := by
  rw [List.getD_eq_getElem?_getD]
  cases e : ws[i]? with
  | none => exact big30_pos
  | some x => exact h x (List.mem_of_getElem? e)
theorem blt_lw {ws : List Int} (h : ∀ x, x ∈ ws → -big30 ≤ x ∧ x ≤ big30) : ∀ (f : Nat) (ps : List Pt) (lo hi : Nat), Lw ps → Lw (blt ws f ps lo hi) := by
  intro f
  induction f with
  | zero => exact fun ps lo hi w => w.leaf (getD_in h lo)
  | succ f ih =>
    intro ps lo hi w
    unfold blt
    by_cases h1 : hi - lo = 1
    · rw [if_pos h1]
      exact w.leaf (getD_in h lo)
    · rw [if_neg h1]
      exact (ih _ _ _ (ih _ _ _ w)).fork
theorem fold_lw {ps : List Pt} {pl : Nat} : ∀ (es : List Nat) (acc : List Pt), Lw acc → Lw (es.foldl (putS ps pl) acc)
  | [], acc, h => h
  | e :: es, acc, h => by
    refine fold_lw es _ ?_
    unfold putS
    split
    · split
      · exact h.fork
      · exact h.fork
    · exact h
theorem put_lw {ps : List Pt} {pl : Nat} {wt : Int} {xs : List Nat} {k : Nat} (h : Lw ps) (w : -big30 ≤ wt ∧ wt ≤ big30) : Lw (putP ps pl wt xs k) := fold_lw _ _ (h.leaf w)
/-- what is asked of parts laid behind others -/
structure Gro (ps qs : List Pt) : Prop where
  wf : Wf qs
  lw : Lw qs
  ext : Ext ps qs
  few : qs.length ≤ ps.length + 31
  more : ps.length < qs.length
theorem gro_blt {ps : List Pt} {ws : List Int} (wf : Wf ps) (lw : Lw ps) (h : ∀ x, x ∈ ws → -big30 ≤ x ∧ x ≤ big30) (h1 : 1 ≤ ws.length) (h2 : ws.length ≤ 16) : Gro ps (blt ws 4 ps 0 ws.length) := by
  have e4 : (2 : Nat) ^ 4 = 16 := rfl
  have := (blt_facts ws 4 ps 0 ws.length (by omega) (by omega)).1
  exact ⟨blt_wf ws 4 ps 0 ws.length (by omega) h2 (by omega) wf, blt_lw h _ _ _ _ lw, blt_ext (by omega) (by omega), by omega, by omega⟩
theorem gro_put {ps : List Pt} {i pl : Nat} {p : Pt} {wt : Int} (wf : Wf ps) (lw : Lw ps) (hi : ps[i]? = some p) (h1 : lowP p ≤ pl) (h2 : pl < highP p) (w : -big30 ≤ wt ∧ wt ≤ big30) : Gro ps (putP ps pl wt (down ps 16 i pl) ((down ps 16 i pl).length - 1)) := by
  have hp16 : highP p ≤ 16 := by
    have := wf i p hi
    cases p with
    | leaf q wt =>
      show q + 1 ≤ 16
      have h : q ≤ 15 := this
      omega
    | fork lo hi l r => exact this.2.1
  obtain ⟨W, x0, xl⟩ := down_way wf (pl := pl) 16 i p hi h1 h2 (by omega)
  obtain ⟨a1, a2, a3, _⟩ := put_facts wf W (wt := wt) (by omega) _ (Nat.le_refl _)
  exact ⟨a1, put_lw lw w, a3, by omega, by omega⟩
theorem numsD {K : PySem.W.Frag} {H : Hp} : ∀ xs : List Nat, DpAll K H (xs.map num) (xs.map fun n => PyData.int (n : Nat))
  | [] => .nil
  | x :: xs => .cons (.int _) (numsD xs)
theorem numOk {n : Nat} (h : n ≤ 10 ^ 9) : Okd (.int (n : Nat)) 50 0 := okInt ⟨by
  have e : (10 : Int) ^ 40 = 10000000000000000000000000000000000000000 := by decide
  rw [e]
  omega, by
  have e : (10 : Int) ^ 40 = 10000000000000000000000000000000000000000 := by decide
  have e9 : (10 : Nat) ^ 9 = 1000000000 := by decide
  rw [e9] at h
  rw [e]
  omega⟩
theorem wtOk {n : Int} (h : -big30 ≤ n ∧ n ≤ big30) : Okd (.int n) 50 0 := okInt ⟨by
  have e : (10 : Int) ^ 40 = 10000000000000000000000000000000000000000 := by decide
  rw [e]
  have := b30
  omega, by
  have e : (10 : Int) ^ 40 = 10000000000000000000000000000000000000000 := by decide
  rw [e]
  have := b30
  omega⟩
theorem numsOk {xs : List Nat} (h : ∀ x ∈ xs, x ≤ 2000) (l : xs.length ≤ 200) : Okd (.list (xs.map fun n => PyData.int (n : Nat))) 20000 1 := by
  refine (okList (m := 50) (e := 0) (n := 200) (fun d hd => ?_) (by rw [List.length_map]; exact l)).up (by decide) (by decide)
  obtain ⟨x, hx, rfl⟩ := List.mem_map.mp hd
  have := h x hx
  exact numOk (by omega)
theorem can_nums (xs : List Nat) : PyData.canLay0 (.list (xs.map fun n => PyData.int (n : Nat))) = true := by
  simp only [PyData.canLay0]
  induction xs with
  | nil => simp [PyData.canLayAll0]
  | cons x xs ih => simp [PyData.canLayAll0, PyData.canLay0, ih]
theorem sh_nums (xs : List Nat) : SeqAt.shaped (.list (xs.map fun n => PyData.int (n : Nat))) = true := by
  have e : ∀ xs : List Nat, PyData.depthAll (xs.map fun n => PyData.int (n : Nat)) = 0 := fun xs => by
    induction xs with
    | nil => simp [PyData.depthAll]
    | cons x xs ih => simp [PyData.depthAll, PyData.depth, ih]
  unfold SeqAt.shaped
  rw [can_nums]
  simp only [PyData.depth, e, Bool.true_and]
  decide
theorem ptDp {K : PySem.W.Frag} {H : Hp} {t : Addr} {p : Pt} (h : H t = some (.tup (ptV p))) : Dp K H (.ref t) (ptD p) := by
  cases p with
  | leaf q wt => exact .tup (SqT.of h) (.cons (.str _) (.cons (.int _) (.cons (.int _) .nil)))
  | fork lo hi l r => exact .tup (SqT.of h) (.cons (.str _) (.cons (.int _) (.cons (.int _) (.cons (.int _) (.cons (.int _) .nil)))))
theorem ptOk {ps : List Pt} (wf : Wf ps) (lw : Lw ps) (few : ps.length ≤ 1000) {i : Nat} {p : Pt} (h : ps[i]? = some p) : Okd (ptD p) 400 1 := by
  have hw := wf i p h
  cases p with
  | leaf q wt =>
    have hq : q ≤ 15 := hw
    refine (okTuple (ds := [.str "leaf", .int (q : Nat), .int wt]) (m := 50) (e := 0) (n := 3) (fun d hd => ?_) (Nat.le_refl 3)).up (by decide) (by decide)
    rcases List.mem_cons.mp hd with rfl | hd
    · exact okStr (by decide +kernel)
    rcases List.mem_cons.mp hd with rfl | hd
    · exact numOk (by omega)
    rcases List.mem_cons.mp hd with rfl | hd
    · exact wtOk (lw _ _ _ h)
    cases hd
  | fork lo hi l r =>
    obtain ⟨h1, h2, h3, h4, _⟩ := hw
    have := lt_of h
    refine (okTuple (ds := [.str "fork", .int (lo : Nat), .int (hi : Nat), .int (l : Nat), .int (r : Nat)]) (m := 50) (e := 0) (n := 5) (fun d hd => ?_) (Nat.le_refl 5)).up (by decide) (by decide)
    rcases List.mem_cons.mp hd with rfl | hd
    · exact okStr (by decide +kernel)
    rcases List.mem_cons.mp hd with rfl | hd
    · exact numOk (by omega)
    rcases List.mem_cons.mp hd with rfl | hd
    · exact numOk (by omega)
    rcases List.mem_cons.mp hd with rfl | hd
    · exact numOk (by omega)
    rcases List.mem_cons.mp hd with rfl | hd
    · exact numOk (by omega)
    cases hd
theorem can_pt (p : Pt) : PyData.canLay0 (ptD p) = true := by cases p <;> simp [ptD, PyData.canLay0, PyData.canLayAll0] <;> decide +kernel
theorem can_pts : ∀ ps : List Pt, PyData.canLayAll0 (ps.map ptD) = true
  | [] => by simp [PyData.canLayAll0]
  | p :: ps => by simp only [List.map_cons, PyData.canLayAll0, can_pt, can_pts ps, Bool.and_self]
theorem dep_pt (p : Pt) : (ptD p).depth = 1 := by cases p <;> simp [ptD, PyData.depth, PyData.depthAll]
theorem dep_pts : ∀ ps : List Pt, PyData.depthAll (ps.map ptD) ≤ 1
  | [] => by simp [PyData.depthAll]
  | p :: ps => by
    have := dep_pts ps
    have := dep_pt p
    simp only [List.map_cons, PyData.depthAll]
    omega
theorem sh_pts (ps : List Pt) : SeqAt.shaped (.list (ps.map ptD)) = true := by
  unfold SeqAt.shaped
  have e : PyData.canLay0 (.list (ps.map ptD)) = true := by
    simp only [PyData.canLay0]
    exact can_pts ps
  rw [e]
  have := dep_pts ps
  simp only [PyData.depth, Bool.true_and]
  exact decide_eq_true (by omega)
end K32
set_option maxHeartbeats 1000000
namespace K32
open PySem PySem.Spec PyProof.Rows L2 Gd
open C8 (clsBody Met pe_mt pe_mt0)
theorem boxd_kt {H H' : Hp} {b : Addr} {n : Int} (h : BoxD H b n) (k : ∀ c u, c ≠ b → H c = some u → H' c = some u) : KT H H' := fun c ys z => k c _ (fun e => by
  obtain ⟨x, y, zz, kvs, e1, _⟩ := h
  rw [e, e1] at z
  cases z) z
theorem boxd_nn {H H' : Hp} {b p : Addr} {n : Int} (h : BoxD H' b n) (k : ∀ c u, c ≠ b → H c = some u → H' c = some u) (e : H' p = none) : H p = none := by
  cases z : H p with
  | none => rfl
  | some u =>
    rw [k p u (h.ne e) z] at e
    cases e
theorem boxd_up {H : Hp} {b : Addr} {n m : Int} (h : BoxD H b n) (k : n ≤ m) : BoxD H b m := h.up k
theorem kpe {H H' : Hp} {b : Addr} (k : ∀ c, c ≠ b → H' c = H c) : ∀ c u, c ≠ b → H c = some u → H' c = some u := fun c u hc z => by
  rw [k c hc]
  exact z
theorem eqv_nil (ds : List PyData) : PyData.eqv (.list ds) (.list []) = decide (ds = []) := by
  cases ds with
  | nil => simp [PyData.eqv, PyData.eqvAll]
  | cons d ds => simp [PyData.eqv, PyData.eqvAll]
theorem num2k {n : Nat} (h : n ≤ 2000) : Okd (.int (n : Nat)) 50 0 := numOk (Nat.le_trans h (by decide))
theorem dpInts {K : PySem.W.Frag} {H : Hp} : ∀ ns : List Int, DpAll K H (ns.map V.int) (ns.map PyData.int)
  | [] => .nil
  | n :: ns => .cons (.int n) (dpInts ns)
theorem can_ints (xs : List Int) : PyData.canLay0 (.list (xs.map PyData.int)) = true := by
  simp only [PyData.canLay0]
  induction xs with
  | nil => simp [PyData.canLayAll0]
  | cons x xs ih => simp [PyData.canLayAll0, PyData.canLay0, ih]
theorem sh_ints (xs : List Int) : SeqAt.shaped (.list (xs.map PyData.int)) = true := by
  have e : ∀ xs : List Int, PyData.depthAll (xs.map PyData.int) = 0 := fun xs => by
    induction xs with
    | nil => simp [PyData.depthAll]
    | cons x xs ih => simp [PyData.depthAll, PyData.depth, ih]
  unfold SeqAt.shaped
  rw [can_ints]
  simp only [PyData.depth, e, Bool.true_and]
  decide
theorem cut_tl (xs : List V) (v : V) : cutV (xs ++ [v]) (some (-1)) none = [v] := by
  unfold cutV
  have e : HT.sIx (xs ++ [v]).length 0 (some (-1)) = xs.length := by
    show (if (-1 : Int) < 0 then ((-1 : Int) + ((xs ++ [v]).length : Int)).toNat else min (-1 : Int).toNat (xs ++ [v]).length) = _
    rw [if_pos (by decide), List.length_append]
    show ((-1 : Int) + ((xs.length + 1 : Nat) : Int)).toNat = _
    omega
  rw [e, HT.sIx_none, List.drop_left, List.length_append]
  show [v].take (xs.length + 1 - xs.length) = _
  rw [Nat.add_sub_cancel_left]
  rfl
section
variable {P : Program} {w : World} {K : PySem.W.Frag} {mg : Str → Option Value} {base : Heap} {C : Addr}
def spDeed (C : Addr) : Sp := fun vs H Q _ => ∃ (N : Addr → Prop) (b o m rt : Addr) (n : Int) (ps : List Pt) (rs : List Nat), vs = [.ref b, .ref o, .ref m, .ref rt] ∧ BoxD H b n ∧ n ≤ 1000 ∧ StA N H o C ps ∧ Mo H m ps ∧ Wf ps ∧ Lw ps ∧ H rt = some (.lst (rs.map num)) ∧ (∀ r ∈ rs, r < ps.length) ∧ rs.length ≤ 100 ∧ ¬ N b ∧ ¬ N m ∧ ¬ N rt ∧ m ≠ rt ∧ ps.length ≤ 900 ∧
  ∀ (H' : Hp) (qs : List Pt) (rs' : List Nat), Gro ps qs → StA N H' o C qs → Mo H' m qs → H' rt = some (.lst (rs'.map num)) → rs' ≠ [] → (∀ r ∈ rs', r < qs.length) → rs'.length ≤ rs.length + 1 → BoxD H' b (n + 200) → (∀ c u, ¬ N c → c ≠ m → c ≠ rt → c ≠ b → H c = some u → H' c = some u) → KT H H' → Q (.bl true) H'
theorem ok_deed (T : Txt K mg) (OC : PtC K C) (c__law_take : CalG P w K mg base 1 "_law_take" spTakeD) (c__law_worth : CalG P w K mg base 2 "_law_worth" spWt) (c__law_worths : CalG P w K mg base 3 "_law_worths" spWts) (c__law_lay : CalG P w K mg base 1 "_law_lay" spLay) (c__law_laid : CalG P w K mg base 7 "_law_laid" (spLd 5)) (c__law_put : CalG P w K mg base 2 "_law_put" spPutL) (c__law_ends : CalG P w K mg base 1 "_law_ends" spEndsL)
    (c_built : C8.Cal P w K mg base 11 "built" (spBuilt C) []) (c_put_down : C8.Cal P w K mg base 5 "put_down" (spPut C) []) (m_leaf : Met P w K mg base 3 C "leaf" (spLeaf C) []) (m_fork : Met P w K mg base 4 C "fork" (spFork C) [])
    (D : DefAt K mg "_law_deed" s__law_deed ["_law_box_here", "_law_parts", "_law_model", "_law_roots"]) : CalG P w K mg base 12 "_law_deed" (spDeed C) := by
  refine D.cal sc__law_deed (fun vs H Q E h => ?_) (fun f cdv A outer s H vs Q E hG hr h => ?_)
  · obtain ⟨N, b, o, m, rt, n, ps, rs, rfl, _⟩ := h
    rfl
  · obtain ⟨N, b, o, m, rt, n, ps, rs, rfl, B, hn, x, M, wf, lw, er, hrs, few, nb, nm, nr, mr, fp, q⟩ := h
    refine ⟨_, (pss_cons (ps_set (i := 4) sc__law_deed.nd rfl (Or.inl rfl) (pe_g c__law_take hG (hr.mono (by decide)) (by rfl) (pa_cons (pv 0) (pa_cons pe_int pa_nil))))
      (pss_cons (ps_if (PW.pt (pw_or (pt_cmpR op_eq (pv 4) pe_int (nomark _)) (pw_or1 (pt_cmpR (op_eqD (hu64 hr)) (pv 3) (pe_lst pa_nil) (nomark _)))))
          (pss_cons (ps_set (i := 5) sc__law_deed.nd rfl (Or.inl rfl) (pe_g c__law_worths hG (hr.mono (by decide)) (by rfl) (pa_cons (pv 0) pa_nil)))
          (pss_cons (ps_set (i := 6) sc__law_deed.nd rfl (Or.inl rfl) (pe_callTy call_list_of (by rfl) T.t_list boot_list_ (pa_cons (pv 5) pa_nil)))
          (pss_cons (ps_set (i := 7) sc__law_deed.nd rfl (Or.inl rfl) (C8.pe_c c_built hr (by decide) (by rfl) (pa_cons (pv 1) (pa_cons (pe_ix ix_list (pe_lst (pa_cons (pv 6) (pa_cons (pe_callTy call_tuple_of (by rfl) T.t_tuple boot_tuple_ (pa_cons (pv 5) pa_nil)) pa_nil))) (pe_op op_mod (pe_callB call_len (by rfl) T.b_len boot_len_ (pa_cons (pv 5) pa_nil)) pe_int) (fun _ _ => rfl)) pa_nil))))
          (pss_cons (ps_if (pt_cmpR (op_neD (hu64 hr)) (pv 6) (pv 5) (nomark _))
              (pss_one (ps_ret pe_bl)) pss_nil)
          (pss_cons (ps_expr (pe_bm0 PySem.F.plainAttrs_list PySem.F.slot_list_clear PySem.F.type_list_clear mt_clear (pv 6)))
          (pss_cons (ps_expr (pe_bm PySem.F.plainAttrs_list PySem.F.slot_list_append PySem.F.type_list_append mt_append (pv 3) (pa_cons (pe_g c__law_laid hG (hr.mono (by decide)) (by rfl) (pa_cons (pv 2) (pa_cons (pv 5) (pa_cons pe_int (pa_cons (pe_callB call_len (by rfl) T.b_len boot_len_ (pa_cons (pv 5) pa_nil)) pa_nil))))) pa_nil)))
          (pss_one (ps_ret (pe_cmpR op_eq (pe_callB (call_repr hG (hu64 hr)) (by rfl) T.b_repr boot_repr_ (pa_cons (pv 7) pa_nil)) (pe_callB (call_repr hG (hu64 hr)) (by rfl) T.b_repr boot_repr_ (pa_cons (pe_ix ix_list (pv 3) (pe_un un_neg pe_int) (fun _ _ => rfl)) pa_nil)) (nomark _)))))))))) pss_nil)
      (pss_cons (ps_if (pt_cmpR op_eq (pv 4) pe_int (nomark _))
          (pss_cons (ps_set (i := 8) sc__law_deed.nd rfl (Or.inl rfl) (pe_g c__law_take hG (hr.mono (by decide)) (by rfl) (pa_cons (pv 0) (pa_cons pe_int pa_nil))))
          (pss_cons (ps_set (i := 9) sc__law_deed.nd rfl (Or.inl rfl) (pe_lst (pa_cons (pe_tup (pa_cons pe_str (pa_cons (pv 8) (pa_cons (pe_g c__law_worth hG (hr.mono (by decide)) (by rfl) (pa_cons (pv 0) pa_nil)) pa_nil)))) (pa_cons (pe_tup (pa_cons pe_str (pa_cons (pe_op op_add (pv 8) pe_int) (pa_cons (pe_g c__law_worth hG (hr.mono (by decide)) (by rfl) (pa_cons (pv 0) pa_nil)) pa_nil)))) pa_nil))))
          (pss_cons (ps_set (i := 7) sc__law_deed.nd rfl (Or.inl rfl) (pe_lst (pa_cons (pe_mt m_leaf hr (by decide) (pv 1) (pa_cons (pv 8) (pa_cons (pe_ix ix_tup (pe_ix ix_list (pv 9) pe_int (fun _ _ => rfl)) pe_int (fun _ _ => rfl)) pa_nil))) (pa_cons (pe_mt m_leaf hr (by decide) (pv 1) (pa_cons (pe_op op_add (pv 8) pe_int) (pa_cons (pe_ix ix_tup (pe_ix ix_list (pv 9) pe_int (fun _ _ => rfl)) pe_int (fun _ _ => rfl)) pa_nil))) pa_nil))))
          (pss_cons (ps_set (i := 10) sc__law_deed.nd rfl (Or.inl rfl) (pe_lst (pa_cons (pe_g c__law_lay hG (hr.mono (by decide)) (by rfl) (pa_cons (pv 2) (pa_cons (pe_ix ix_list (pv 9) pe_int (fun _ _ => rfl)) pa_nil))) (pa_cons (pe_g c__law_lay hG (hr.mono (by decide)) (by rfl) (pa_cons (pv 2) (pa_cons (pe_ix ix_list (pv 9) pe_int (fun _ _ => rfl)) pa_nil))) pa_nil))))
          (pss_cons (ps_expr (pe_bm PySem.F.plainAttrs_list PySem.F.slot_list_append PySem.F.type_list_append mt_append (pv 3) (pa_cons (pe_g c__law_lay hG (hr.mono (by decide)) (by rfl) (pa_cons (pv 2) (pa_cons (pe_tup (pa_cons pe_str (pa_cons (pv 8) (pa_cons (pe_op op_add (pv 8) pe_int) (pa_cons (pe_ix ix_list (pv 10) pe_int (fun _ _ => rfl)) (pa_cons (pe_ix ix_list (pv 10) pe_int (fun _ _ => rfl)) pa_nil)))))) pa_nil))) pa_nil)))
          (pss_one (ps_ret (pe_cmpR op_eq (pe_callB (call_repr hG (hu64 hr)) (by rfl) T.b_repr boot_repr_ (pa_cons (pe_op op_cat (pv 7) (pe_lst (pa_cons (pe_mt m_fork hr (by decide) (pv 1) (pa_cons (pv 8) (pa_cons (pe_op op_add (pv 8) pe_int) (pa_cons (pe_ix ix_list (pv 7) pe_int (fun _ _ => rfl)) (pa_cons (pe_ix ix_list (pv 7) pe_int (fun _ _ => rfl)) pa_nil))))) pa_nil))) pa_nil)) (pe_callB (call_repr hG (hu64 hr)) (by rfl) T.b_repr boot_repr_ (pa_cons (pe_op op_cat (pv 10) (pe_slice sl_list (pv 3) (po_some (pe_un un_neg pe_int)) po_none)) pa_nil)) (nomark _))))))))) pss_nil)
      (pss_cons (ps_set (i := 11) sc__law_deed.nd rfl (Or.inl rfl) (pe_ix ix_list (pe_lst (pa_cons (pe_ix ix_list (pv 3) (pe_g c__law_take hG (hr.mono (by decide)) (by rfl) (pa_cons (pv 0) (pa_cons (pe_callB call_len (by rfl) T.b_len boot_len_ (pa_cons (pv 3) pa_nil)) pa_nil))) (fun _ _ => rfl)) (pa_cons (pe_ix ix_list (pv 3) (pe_un un_neg pe_int) (fun _ _ => rfl)) (pa_cons (pe_ix ix_list (pv 3) pe_int (fun _ _ => rfl)) pa_nil)))) (pe_g c__law_take hG (hr.mono (by decide)) (by rfl) (pa_cons (pv 0) (pa_cons pe_int pa_nil))) (fun _ _ => rfl)))
      (pss_cons (ps_asg (pe_g c__law_ends hG (hr.mono (by decide)) (by rfl) (pa_cons (pe_ix ix_list (pv 2) (pv 11) (fun _ _ => rfl)) pa_nil)) (pg_tup (by rfl) (pgs_cons (pg_name (i := 12) sc__law_deed.nd rfl (Or.inl rfl)) (pgs_cons (pg_name (i := 13) sc__law_deed.nd rfl (Or.inl rfl)) pgs_nil))))
      (pss_cons (ps_set (i := 8) sc__law_deed.nd rfl (Or.inl rfl) (pe_ix ix_list (pe_lst (pa_cons (pe_op op_add (pv 12) (pe_g c__law_take hG (hr.mono (by decide)) (by rfl) (pa_cons (pv 0) (pa_cons (pe_op op_sub (pv 13) (pv 12)) pa_nil)))) (pa_cons (pv 12) (pa_cons (pe_op op_sub (pv 13) pe_int) pa_nil)))) (pe_g c__law_take hG (hr.mono (by decide)) (by rfl) (pa_cons (pv 0) (pa_cons pe_int pa_nil))) (fun _ _ => rfl)))
      (pss_cons (ps_set (i := 14) sc__law_deed.nd rfl (Or.inl rfl) (pe_g c__law_worth hG (hr.mono (by decide)) (by rfl) (pa_cons (pv 0) pa_nil)))
      (pss_cons (ps_set (i := 7) sc__law_deed.nd rfl (Or.inl rfl) (C8.pe_c c_put_down hr (by decide) (by rfl) (pa_cons (pv 1) (pa_cons (pv 11) (pa_cons (pv 8) (pa_cons (pv 14) pa_nil))))))
      (pss_cons (ps_expr (pe_bm PySem.F.plainAttrs_list PySem.F.slot_list_append PySem.F.type_list_append mt_append (pv 3) (pa_cons (pe_g c__law_put hG (hr.mono (by decide)) (by rfl) (pa_cons (pv 2) (pa_cons (pv 11) (pa_cons (pv 8) (pa_cons (pv 14) pa_nil))))) pa_nil)))
      (pss_one (ps_ret (pe_cmpR op_eq (pe_callB (call_repr hG (hu64 hr)) (by rfl) T.b_repr boot_repr_ (pa_cons (pv 7) pa_nil)) (pe_callB (call_repr hG (hu64 hr)) (by rfl) T.b_repr boot_repr_ (pa_cons (pe_ix ix_list (pv 3) (pe_un un_neg pe_int) (fun _ _ => rfl)) pa_nil)) (nomark _))))))))))))), ?_⟩
    have x := x.cut
    have hcut1 : ∀ c, (N c ∧ H c ≠ none) → N c := fun c h => h.1
    have hcut2 : ∀ c, (N c ∧ H c ≠ none) → H c ≠ none := fun c h => h.2
    generalize hM : (fun c => N c ∧ H c ≠ none) = N1 at x
    have hN1 : ∀ c, N1 c → N c := fun c h => by rw [← hM] at h; exact h.1
    have hN2 : ∀ c, N1 c → H c ≠ none := fun c h => by rw [← hM] at h; exact h.2
    clear hM hcut1 hcut2
    have q : ∀ (H' : Hp) (qs : List Pt) (rs' : List Nat), Gro ps qs → StA N1 H' o C qs → Mo H' m qs → H' rt = some (.lst (rs'.map num)) → rs' ≠ [] → (∀ r ∈ rs', r < qs.length) → rs'.length ≤ rs.length + 1 → BoxD H' b (n + 200) → (∀ c u, ¬ N1 c → c ≠ m → c ≠ rt → c ≠ b → H c = some u → H' c = some u) → KT H H' → Q (.bl true) H' := fun H' qs rs' g x' M' er' h1 h2 h3 B' k kt => q H' qs rs' g (x'.mono hN1) M' er' h1 h2 h3 B' (fun c u hc => k c u fun z => hc (hN1 c z)) kt
    have nb : ¬ N1 b := fun z => nb (hN1 b z)
    have nm : ¬ N1 m := fun z => nm (hN1 m z)
    have nr : ¬ N1 rt := fun z => nr (hN1 rt z)
    clear hN1
    have br : b ≠ rt := fun e => by
      obtain ⟨_, _, _, _, e1, _⟩ := B
      rw [e, er] at e1
      cases e1
    have bm : b ≠ m := fun e => by
      obtain ⟨_, _, _, _, e1, _⟩ := B
      obtain ⟨_, e2, _⟩ := M
      rw [e, e2] at e1
      cases e1
    refine ⟨_, rfl, b, 4, n, rfl, B, by omega, by decide, by decide, fun d H1 d0 d4 B1 k1 => ?_⟩
    have k1 := kpe k1
    have kt1 := boxd_kt B k1
    have x1 := x.kp (H' := H1) (fun c u hc z => k1 c u (fun e => nb (e ▸ hc)) z) kt1
    have M1 := M.kp (H' := H1) (fun u z => k1 _ _ bm.symm z) kt1
    have er1 := k1 _ _ br.symm er
    refine (fun (hA : ∀ H2 : Hp, Same H1 H2 → (_ : Hp → Prop) H2) => ⟨_, rfl, rfl, _, rfl, ite2 (fun _ => iteT (hA H1 fun _ _ z => z)) (fun hz => ⟨_, rfl, (by show 0 ≤ sizeLine; decide), fun p hp => ⟨_, _, .lst (SqL.of (same_new hp _ _ er1)) (numsD rs), .lst (SqL.of upd_same) .nil, sh_nums rs, sh_nums [], _, rfl, ite2 (fun _ => hA _ (same_new hp)) (fun hn => ?_)⟩⟩)⟩) ?_
    · intro H2 s2
      have B2 := B1.kp (H' := H2) fun u z => s2 _ _ z
      refine ⟨_, rfl, b, n + 1, rfl, B2, by omega, fun a ws H3 ha ea w1 w2 hw B3 k3 => ?_⟩
      have s12 := s2
      have ha1 := boxd_nn B2 (fun c u hc z => s2 _ _ (k1 c u hc z)) ha
      have k13 : ∀ c u, c ≠ b → H c = some u → H3 c = some u := fun c u hc z => k3 c u hc (s2 _ _ (k1 c u hc z))
      have fr : ∀ c, H3 c = none → H c = none := fun c z => boxd_nn B3 k13 z
      have kt3 : KT H H3 := boxd_kt B k13
      have x3 := x.kp (H' := H3) (fun c u hc z => k13 c u (fun e => nb (e ▸ hc)) z) kt3
      have M3 := M.kp (H' := H3) (fun u z => k13 _ _ bm.symm z) kt3
      have er3 := k13 _ _ br.symm er
      refine ⟨_, rfl, a, _, rfl, .inl (SqL.of ea), fun h hh => ?_⟩
      have s4 := same_new (o := .lst (ws.map V.int)) hh
      have e4 : (upd H3 h (.lst (ws.map V.int))) h = some (.lst (ws.map V.int)) := upd_same
      generalize upd H3 h (.lst (ws.map V.int)) = H4 at *
      refine ⟨_, rfl, _, rfl, _, rfl, a, _, rfl, .inl ⟨SqL.of (s4 _ _ ea), fun t ht => ?_⟩⟩
      have s5 := same_new (o := .tup (ws.map V.int)) ht
      have e5 : (upd H4 t (.tup (ws.map V.int))) t = some (.tup (ws.map V.int)) := upd_same
      generalize upd H4 t (.tup (ws.map V.int)) = H5 at *
      refine ⟨(by show 2 ≤ sizeLine; decide), fun p hp => ?_⟩
      have s6 := same_new (o := .lst [.ref h, .ref t]) hp
      have e6 : (upd H5 p (.lst [.ref h, .ref t])) p = some (.lst [.ref h, .ref t]) := upd_same
      generalize upd H5 p (.lst [.ref h, .ref t]) = H6 at *
      have s36 := (s4.trans s5).trans s6
      have x6 := x3.same s36
      have M6 := M3.kp (H' := H6) (fun u z => s36 _ _ z) (KT.of s36)
      have er6 := s36 _ _ er3
      have B6 := B3.kp (H' := H6) fun u z => s36 _ _ z
      refine ⟨_, rfl, .ref a, _, rfl, .inl ⟨_, SqL.of (s6 _ _ (s5 _ _ (s4 _ _ ea))), (List.length_map _).symm⟩, _, _, rfl, rfl, (by show (0 : Int) < 2; decide), ?_⟩
      obtain ⟨tup, x0, hat, hx0, n0⟩ : ∃ (tup : Bool) (x0 : Addr), atI [V.ref h, V.ref t] (((ws.length : Nat) : Int) % 2) = some (.ref x0) ∧ WsAt H6 x0 ws tup ∧ H x0 = none := by
        rcases (by omega : ((ws.length : Nat) : Int) % 2 = 0 ∨ ((ws.length : Nat) : Int) % 2 = 1) with e | e
        · exact ⟨false, h, by rw [e]; rfl, s6 _ _ (s5 _ _ e4), fr _ (none_of' (fun c u z => z) hh)⟩
        · exact ⟨true, t, by rw [e]; rfl, s6 _ _ e5, fr _ (none_of' s4 ht)⟩
      refine ⟨p, _, _, .ref x0, rfl, rfl, SqL.of e6, hat, ?_⟩
      refine ⟨tup, N1, o, x0, ps, ws, rfl, x6, hx0, fun z => hN2 _ z n0, hw, w1, w2, by omega, fun H7 x7 k7 kt7 => ?_⟩
      have hnh : ¬ N1 h := fun z => hN2 _ z (fr _ hh)
      have hna : ¬ N1 a := fun z => hN2 _ z ha1
      refine ⟨_, rfl, _, rfl, _, _, .lst (SqL.of (k7 _ _ hnh (s6 _ _ (s5 _ _ e4)))) (dpInts ws), .lst (SqL.of (k7 _ _ hna (s6 _ _ (s5 _ _ (s4 _ _ ea))))) (dpInts ws), sh_ints ws, sh_ints ws, _, rfl, ?_⟩
      rw [PySem.SeqAt.eqv_refl _ (can_ints _)]
      refine iteF ?_
      have eh7 := k7 _ _ hnh (s6 _ _ (s5 _ _ e4))
      have ea7 := k7 _ _ hna (s6 _ _ (s5 _ _ (s4 _ _ ea)))
      have ah : a ≠ h := ne_of_none ea hh
      have hb : h ≠ b := fun e => by
        obtain ⟨u, hu⟩ := B3.some
        rw [← e, hh] at hu
        cases hu
      have hm : h ≠ m := fun e => by
        obtain ⟨ym, my, _⟩ := M3
        rw [← e, hh] at my
        cases my
      have hr0 : h ≠ rt := fun e => by
        rw [← e, hh] at er3
        cases er3
      have am : a ≠ m := fun e => by
        obtain ⟨ym, my, _⟩ := M
        rw [← e, ha1] at my
        cases my
      refine ⟨_, rfl, .inl ⟨rfl, _, SqL.of eh7⟩, h, _, rfl, rfl, eh7, ?_⟩
      have k8 : ∀ c u, c ≠ h → H7 c = some u → (upd H7 h (.lst [])) c = some u := fun c u hc z => by
        rw [upd_ne hc]
        exact z
      generalize upd H7 h (.lst []) = H8 at *
      have kt8 : KT H7 H8 := fun c ys z => k8 _ _ (fun e => by rw [e, eh7] at z; cases z) z
      have x8 := x7.kp (H' := H8) (fun c u hc z => k8 c u (fun e => hnh (e ▸ hc)) z) kt8
      have M8 := M6.kp (H' := H8) (fun u z => k8 _ _ hm.symm (k7 _ _ nm z)) (fun c ys z => kt8 _ _ (kt7 _ _ z))
      have er8 := k8 _ _ hr0.symm (k7 _ _ nr er6)
      have ea8 := k8 _ _ ah ea7
      have B8 := B6.kp (H' := H8) fun u z => k8 _ _ hb.symm (k7 _ _ nb z)
      refine ⟨_, rfl, .inl ⟨rfl, _, SqL.of er8⟩, _, rfl, _, rfl, _, rfl, .ref a, _, rfl, .inl ⟨_, SqL.of ea8, (List.length_map _).symm⟩, m, a, ps, ws, 0, ws.length, rfl, M8, ea8, am, by omega, Nat.le_refl _, w2, (by have : (2 : Nat) ^ 4 = 16 := rfl; omega), by omega, fun H9 M9 k9 kt9 => ?_⟩
      have er9 := k9 _ _ mr.symm er8
      have B9 := B8.kp (H' := H9) fun u z => k9 _ _ bm z
      have x9 := x8.kp (H' := H9) (fun c u hc z => k9 c u (fun e => nm (e ▸ hc)) z) kt9
      have G := gro_blt wf lw hw w1 w2
      generalize blt ws 4 ps 0 ws.length = qs at *
      refine ⟨rt, _, _, rfl, rfl, er9, small1000 (by rw [List.length_map]; omega), ?_⟩
      have er10 : (upd H9 rt (.lst (rs.map num ++ [num (qs.length - 1)]))) rt = some (.lst ((rs ++ [qs.length - 1]).map num)) := by
        rw [upd_same, List.map_append]
        rfl
      have k10 : ∀ c u, c ≠ rt → H9 c = some u → (upd H9 rt (.lst (rs.map num ++ [num (qs.length - 1)]))) c = some u := fun c u hc z => by
        rw [upd_ne hc]
        exact z
      generalize upd H9 rt (.lst (rs.map num ++ [num (qs.length - 1)])) = H10 at *
      have kt10 : KT H9 H10 := fun c ys z => k10 _ _ (fun e => by rw [e, er9] at z; cases z) z
      have hq := num2k (n := qs.length - 1) (by have := G.few; omega)
      have er10' := er10
      rw [List.map_append] at er10'
      refine ⟨_, rfl, _, _, rfl, .d1 (.dp (.int _)), hq.sh, Nat.le_trans hq.ln (by decide), Nat.le_trans hq.dp (by decide), ?_⟩
      refine ⟨_, rfl, 1, rfl, rt, _, _, num (qs.length - 1), rfl, rfl, SqL.of er10', atI_last _ _, _, _, rfl, .d1 (.dp (.int _)), hq.sh, Nat.le_trans hq.ln (by decide), Nat.le_trans hq.dp (by decide), rfl, ?_⟩
      have k39 : ∀ c u, ¬ N1 c → c ≠ m → c ≠ rt → c ≠ b → H c = some u → H10 c = some u := fun c u h1 h2 h3 h4 z => k10 _ _ h3 (k9 _ _ h2 (k8 _ _ (fun e => by rw [e, fr _ hh] at z; cases z) (k7 _ _ h1 (s36 _ _ (k13 _ _ h4 z)))))
      have fin := q H10 qs (rs ++ [qs.length - 1]) G (x9.kp (H' := H10) (fun c u hc z => k10 c u (fun e => nr (e ▸ hc)) z) kt10) (M9.kp (fun u z => k10 _ _ mr z) kt10) er10 (by simp) (fun r hr => ?_) (by rw [List.length_append]; show rs.length + 1 ≤ _; omega) ((B9.kp (H' := H10) fun u z => k10 _ _ br z).up (by omega)) k39 (fun c ys z => kt10 _ _ (kt9 _ _ (kt8 _ _ (kt7 _ _ (s36 _ _ (kt3 _ _ z))))))
      · show Q (.bl (decide _)) H10
        rw [decide_eq_true rfl]
        exact fin
      · have := G.more
        rcases List.mem_append.mp hr with h | h
        · have := hrs r h
          omega
        · cases List.mem_singleton.mp h
          omega
    · have hrs0 : rs ≠ [] := fun e => by
        rw [e] at hn
        exact hn (by decide)
      have hz1 : ¬ d = 0 := fun e => hz (decide_eq_true (by rw [e]))
      have s2 := same_new (o := .lst []) hp
      generalize upd H1 p (.lst []) = H2 at *
      have k2 : ∀ c u, c ≠ b → H c = some u → H2 c = some u := fun c u hc z => s2 _ _ (k1 c u hc z)
      have B2 := B1.kp (H' := H2) fun u z => s2 _ _ z
      refine ⟨_, rfl, rfl, _, rfl, ite2 (fun hw1 => ?_) (fun hw1 => ?_)⟩
      · refine ⟨_, rfl, b, 15, n + 1, rfl, B2, by omega, by decide, by decide, fun pl0 H3 p0 p15 B3 k3 => ?_⟩
        have k3 := kpe k3
        obtain ⟨pl, rfl⟩ : ∃ k : Nat, pl0 = k := ⟨pl0.toNat, by omega⟩
        refine ⟨_, rfl, _, rfl, b, n + 1 + 1, rfl, B3, by omega, fun w1 H4 a1 a2 B4 k4 => ⟨(by show 3 ≤ sizeLine; decide), fun t1 ht1 => ?_⟩⟩
        have s5 := same_new (o := .tup (ptV (.leaf pl w1))) ht1
        have e5 : (upd H4 t1 (.tup (ptV (.leaf pl w1)))) t1 = some (.tup (ptV (.leaf pl w1))) := upd_same
        change tOp _ _ _ _ (upd H4 t1 (.tup (ptV (.leaf pl w1)))) _
        generalize upd H4 t1 (.tup (ptV (.leaf pl w1))) = H5 at *
        have B5 := B4.kp (H' := H5) fun u z => s5 _ _ z
        refine ⟨_, rfl, _, _, rfl, rfl, _, rfl, b, n + 1 + 1 + 4, rfl, B5, by omega, fun w2 H6 a3 a4 B6 k6 => ⟨(by show 3 ≤ sizeLine; decide), fun t2 ht2 => ⟨(by show 2 ≤ sizeLine; decide), fun p1 hp1 => ?_⟩⟩⟩
        have s7 := same_new (o := .tup (ptV (.leaf (pl + 1) w2))) ht2
        have e7 : (upd H6 t2 (.tup (ptV (.leaf (pl + 1) w2)))) t2 = some (.tup (ptV (.leaf (pl + 1) w2))) := upd_same
        change (upd H6 t2 (.tup (ptV (.leaf (pl + 1) w2)))) p1 = none at hp1
        change gName _ _ _ (upd (upd H6 t2 (.tup (ptV (.leaf (pl + 1) w2)))) p1 _) _
        generalize upd H6 t2 (.tup (ptV (.leaf (pl + 1) w2))) = H7 at *
        have s8 := same_new (o := .lst [.ref t1, .ref t2]) hp1
        have e8 : (upd H7 p1 (.lst [.ref t1, .ref t2])) p1 = some (.lst [.ref t1, .ref t2]) := upd_same
        generalize upd H7 p1 (.lst [.ref t1, .ref t2]) = H8 at *
        have kt6 := boxd_kt B5 k6
        have et1 : H8 t1 = some (.tup (ptV (.leaf pl w1))) := s8 _ _ (s7 _ _ (kt6 _ _ e5))
        have et2 : H8 t2 = some (.tup (ptV (.leaf (pl + 1) w2))) := s8 _ _ e7
        have k8 : ∀ c u, c ≠ b → H c = some u → H8 c = some u := fun c u hc z => s8 _ _ (s7 _ _ (k6 _ _ hc (s5 _ _ (k4 _ _ hc (k3 _ _ hc (k2 _ _ hc z))))))
        have B8 := B6.kp (H' := H8) fun u z => s8 _ _ (s7 _ _ z)
        have kt8 := boxd_kt B k8
        have x8 := x.kp (H' := H8) (fun c u hc z => k8 c u (fun e => nb (e ▸ hc)) z) kt8
        have M8 := M.kp (H' := H8) (fun u z => k8 _ _ bm.symm z) kt8
        have er8 := k8 _ _ br.symm er
        have fr : ∀ c, H7 c = none → H c = none := fun c z => boxd_nn (B6.kp (H' := H7) fun u z => s7 _ _ z) (fun c u hc z => s7 _ _ (k6 _ _ hc (s5 _ _ (k4 _ _ hc (k3 _ _ hc (k2 _ _ hc z)))))) z
        have np1 : ¬ N1 p1 := fun z => hN2 _ z (fr _ hp1)
        clear k2 s5 s7 s8 B2 B3 B4 B5 B6 k3 k4 k6 kt6 e5 e7 hn hp s2
        -- the two leaves
        obtain ⟨dx, fs, i8, nl8⟩ := x8.ins
        refine ⟨_, rfl, o, dx, fs, rfl, i8, nl8 _ (by decide), _, rfl, _, rfl, p1, _, _, .ref t1, rfl, rfl, SqL.of e8, rfl, t1, _, _, .int w1, rfl, rfl, SqT.of et1, rfl, N1, o, ps, pl, w1, rfl, x8, by omega, a1, a2, by omega, fun H9 x9 k9 kt9 => ?_⟩
        have e9 := k9 _ _ np1 e8
        obtain ⟨dx9, fs9, i9, nl9⟩ := x9.ins
        refine ⟨_, rfl, o, dx9, fs9, rfl, i9, nl9 _ (by decide), _, rfl, _, _, rfl, rfl, _, rfl, p1, _, _, .ref t2, rfl, rfl, SqL.of e9, rfl, t2, _, _, .int w2, rfl, rfl, SqT.of (kt9 _ _ et2), rfl, N1, o, ps ++ [.leaf pl w1], pl + 1, w2, rfl, x9, by omega, a3, a4, by rw [List.length_append]; show ps.length + 1 < 1000; omega, fun H10 x10 k10 kt10 => ?_⟩
        have el1 : (ps ++ [Pt.leaf pl w1]).length = ps.length + 1 := by rw [List.length_append]; rfl
        rw [el1]
        generalize hqs : (ps ++ [Pt.leaf pl w1]) ++ [Pt.leaf (pl + 1) w2] = qs at *
        have elq : qs.length = ps.length + 2 := by rw [← hqs, List.length_append, el1]; rfl
        have at1 : qs[ps.length]? = some (.leaf pl w1) := by rw [← hqs]; exact at_pre at_snoc
        have at2 : qs[ps.length + 1]? = some (.leaf (pl + 1) w2) := by
          rw [← hqs, ← el1]
          exact at_snoc
        have k810 : ∀ c u, ¬ N1 c → H8 c = some u → H10 c = some u := fun c u hc z => k10 _ _ hc (k9 _ _ hc z)
        have kt810 : KT H8 H10 := fun c ys z => kt10 _ _ (kt9 _ _ z)
        have e10 := k810 _ _ np1 e8
        have M10 := M8.kp (H' := H10) (fun u z => k810 _ _ nm z) kt810
        have er10 := k810 _ _ nr er8
        have B10 := B8.kp (H' := H10) fun u z => k810 _ _ nb z
        have x10 := x10.cut
        have hc1 : ∀ c, (N1 c ∧ H10 c ≠ none) → N1 c ∧ H10 c ≠ none := fun c h => h
        generalize hN2' : (fun c => N1 c ∧ H10 c ≠ none) = N2 at x10
        have hc : ∀ c, N2 c → N1 c ∧ H10 c ≠ none := fun c h => by rw [← hN2'] at h; exact h
        clear hN2' hc1
        refine ⟨(by show 2 ≤ sizeLine; decide), fun f1 hf1 => ?_⟩
        have s11 := same_new (o := .lst ([ps.length, ps.length + 1].map num)) hf1
        have e11 : (upd H10 f1 (.lst ([ps.length, ps.length + 1].map num))) f1 = some (.lst ([ps.length, ps.length + 1].map num)) := upd_same
        change gName _ _ _ (upd H10 f1 (.lst ([ps.length, ps.length + 1].map num))) _
        generalize upd H10 f1 (.lst ([ps.length, ps.length + 1].map num)) = H11 at *
        have nf : ¬ N2 f1 := fun z => (hc _ z).2 hf1
        have fm : f1 ≠ m := fun e => by
          obtain ⟨_, z, _⟩ := M10
          rw [e, z] at hf1
          cases hf1
        have fr1 : f1 ≠ rt := fun e => by
          rw [e, er10] at hf1
          cases hf1
        have M11 := M10.kp (H' := H11) (fun u z => s11 _ _ z) (KT.of s11)
        have pm : p1 ≠ m := fun e => by
          obtain ⟨_, z, _⟩ := M
          rw [← e] at z
          exact absurd (fr _ hp1) (by rw [z]; simp)
        -- laid here
        refine ⟨_, rfl, _, rfl, p1, _, _, .ref t1, rfl, rfl, SqL.of (s11 _ _ e10), rfl, m, t1, ps, .leaf pl w1, rfl, M11, s11 _ _ (kt810 _ _ et1), by omega, fun H12 M12 k12 kt12 => ?_⟩
        refine ⟨_, rfl, _, rfl, p1, _, _, .ref t2, rfl, rfl, SqL.of (k12 _ _ pm (s11 _ _ e10)), rfl, m, t2, ps ++ [.leaf pl w1], .leaf (pl + 1) w2, rfl, M12, kt12 _ _ (s11 _ _ (kt810 _ _ et2)), by omega, fun H13 M13 k13 kt13 => ?_⟩
        rw [hqs] at M13
        rw [el1]
        refine ⟨(by show 2 ≤ sizeLine; decide), fun d1 hd1 => ?_⟩
        have s14 := same_new (o := .lst ([ps.length, ps.length + 1].map num)) hd1
        have e14 : (upd H13 d1 (.lst ([ps.length, ps.length + 1].map num))) d1 = some (.lst ([ps.length, ps.length + 1].map num)) := upd_same
        change gName _ _ _ (upd H13 d1 (.lst ([ps.length, ps.length + 1].map num))) _
        generalize upd H13 d1 (.lst ([ps.length, ps.length + 1].map num)) = H14 at *
        have k1114 : ∀ c u, c ≠ m → H11 c = some u → H14 c = some u := fun c u hc z => s14 _ _ (k13 _ _ hc (k12 _ _ hc z))
        have kt1114 : KT H11 H14 := fun c ys z => s14 _ _ (kt13 _ _ (kt12 _ _ z))
        have M14 := M13.kp (H' := H14) (fun u z => s14 _ _ z) (KT.of s14)
        have ef14 := k1114 _ _ fm e11
        have er14 := k1114 _ _ mr.symm (s11 _ _ er10)
        have dm : d1 ≠ m := fun e => by
          obtain ⟨_, z, _⟩ := M13
          rw [e, z] at hd1
          cases hd1
        have k1014 : ∀ c u, c ≠ m → H10 c = some u → H14 c = some u := fun c u hc z => k1114 _ _ hc (s11 _ _ z)
        have x14 := x10.kp (H' := H14) (fun c u hc2 z => k1014 c u (fun e => nm (e ▸ (hc _ hc2).1)) z) (fun c ys z => kt1114 _ _ (s11 _ _ z))
        refine ⟨_, rfl, .inl ⟨rfl, _, SqL.of er14⟩, _, rfl, _, rfl, _, rfl, _, _, rfl, rfl, _, rfl, d1, _, _, num ps.length, rfl, rfl, SqL.of e14, rfl, _, rfl, d1, _, _, num (ps.length + 1), rfl, rfl, SqL.of e14, rfl, (by show 5 ≤ sizeLine; decide), fun t3 ht3 => ?_⟩
        have s15 := same_new (o := .tup (ptV (.fork pl (pl + 2) ps.length (ps.length + 1)))) ht3
        have e15 : (upd H14 t3 (.tup (ptV (.fork pl (pl + 2) ps.length (ps.length + 1))))) t3 = some (.tup (ptV (.fork pl (pl + 2) ps.length (ps.length + 1)))) := upd_same
        refine ⟨m, t3, qs, .fork pl (pl + 2) ps.length (ps.length + 1), rfl, M14.kp (fun u z => s15 _ _ z) (KT.of s15), e15, by omega, fun H15 M15 k15 kt15 => ?_⟩
        have er15 := k15 _ _ mr.symm (s15 _ _ er14)
        refine ⟨rt, _, _, rfl, rfl, er15, small1000 (by rw [List.length_map]; omega), ?_⟩
        have k15' : ∀ c u, c ≠ m → H14 c = some u → H15 c = some u := fun c u hc z => k15 c u hc (s15 _ _ z)
        have kt15' : KT H14 H15 := fun c ys z => kt15 _ _ (s15 _ _ z)
        clear k15 s15 kt15 e15 ht3
        have er16 : (upd H15 rt (.lst (rs.map num ++ [num qs.length]))) rt = some (.lst (rs.map num ++ [num qs.length])) := upd_same
        have k16 : ∀ c u, c ≠ rt → H15 c = some u → (upd H15 rt (.lst (rs.map num ++ [num qs.length]))) c = some u := fun c u hc z => by
          rw [upd_ne hc]
          exact z
        generalize upd H15 rt (.lst (rs.map num ++ [num qs.length])) = H16 at *
        have kt16 : KT H15 H16 := fun c ys z => k16 _ _ (fun e => by rw [e, er15] at z; cases z) z
        have k1416 : ∀ c u, c ≠ m → c ≠ rt → H14 c = some u → H16 c = some u := fun c u h1 h2 z => k16 _ _ h2 (k15' _ _ h1 z)
        have ef16 := k1416 _ _ fm fr1 ef14
        have dr : d1 ≠ rt := fun e => by
          have z := k13 _ _ mr.symm (k12 _ _ mr.symm (s11 _ _ er10))
          rw [e, z] at hd1
          cases hd1
        have ed16 := k1416 _ _ dm dr e14
        have x16 := x14.kp (H' := H16) (fun c u hc2 z => k1416 c u (fun e => nm (e ▸ (hc _ hc2).1)) (fun e => nr (e ▸ (hc _ hc2).1)) z) (fun c ys z => kt16 _ _ (kt15' _ _ z))
        obtain ⟨dx16, fs16, i16, nl16⟩ := x16.ins
        have dn : ¬ N2 d1 := fun z => by
          have h := (hc _ z).2
          cases e : H10 d1 with
          | none => exact h e
          | some u => rw [k13 _ _ dm (k12 _ _ dm (s11 _ _ e))] at hd1; cases hd1
        refine ⟨_, rfl, _, rfl, o, dx16, fs16, rfl, i16, nl16 _ (by decide), _, rfl, _, rfl, _, _, rfl, rfl, _, rfl, f1, _, _, num ps.length, rfl, rfl, SqL.of ef16, rfl, _, rfl, f1, _, _, num (ps.length + 1), rfl, rfl, SqL.of ef16, rfl, N2, o, qs, pl, pl + 2, ps.length, ps.length + 1, _, _, rfl, x16, by omega, by omega, at1, at2, rfl, (by show pl + 1 = _; omega), (by show pl + 1 = _; omega), rfl, by omega, fun H17 x17 k17 kt17 => ⟨(by show 1 ≤ sizeLine; decide), fun g1 hg1 => ?_⟩⟩
        have s18 := same_new (o := .lst [num qs.length]) hg1
        have e18 : (upd H17 g1 (.lst [num qs.length])) g1 = some (.lst [num qs.length]) := upd_same
        generalize upd H17 g1 (.lst [num qs.length]) = H18 at *
        refine ⟨f1, g1, _, _, rfl, rfl, s18 _ _ (k17 _ _ nf ef16), e18, (by show 3 ≤ sizeLine; decide), fun c1 hc1 => ?_⟩
        have s19 := same_new (o := .lst ([ps.length, ps.length + 1, qs.length].map num)) hc1
        have e19 : (upd H18 c1 (.lst ([ps.length, ps.length + 1, qs.length].map num))) c1 = some (.lst ([ps.length, ps.length + 1, qs.length].map num)) := upd_same
        have hq := numsOk (xs := [ps.length, ps.length + 1, qs.length]) (fun x hx => by
          rcases List.mem_cons.mp hx with rfl | hx
          · omega
          rcases List.mem_cons.mp hx with rfl | hx
          · omega
          rcases List.mem_cons.mp hx with rfl | hx
          · omega
          cases hx) (by show 3 ≤ 200; decide)
        refine ⟨_, _, rfl, .d1 (.dp (.lst (SqL.of e19) (numsD _))), hq.sh, Nat.le_trans hq.ln (by decide), Nat.le_trans hq.dp (by decide), ?_⟩
        change tOp _ _ _ _ (upd H18 c1 (.lst ([ps.length, ps.length + 1, qs.length].map num))) _
        generalize upd H18 c1 (.lst ([ps.length, ps.length + 1, qs.length].map num)) = H19 at *
        have k1619 : ∀ c u, ¬ N2 c → H16 c = some u → H19 c = some u := fun c u h z => s19 _ _ (s18 _ _ (k17 _ _ h z))
        have nr2 : ¬ N2 rt := fun z => nr (hc _ z).1
        refine ⟨_, rfl, _, rfl, 1, rfl, _, rfl, rt, _, rfl, SqL.of (k1619 _ _ nr2 er16), fun h1 hh1 => ?_⟩
        rw [cut_tl]
        have s20 := same_new (o := .lst [num qs.length]) hh1
        have e20 : (upd H19 h1 (.lst [num qs.length])) h1 = some (.lst [num qs.length]) := upd_same
        generalize upd H19 h1 (.lst [num qs.length]) = H20 at *
        refine ⟨d1, h1, _, _, rfl, rfl, s20 _ _ (k1619 _ _ dn ed16), e20, (by show 3 ≤ sizeLine; decide), fun c2 hc2 => ?_⟩
        have s21 := same_new (o := .lst ([ps.length, ps.length + 1, qs.length].map num)) hc2
        have e21 : (upd H20 c2 (.lst ([ps.length, ps.length + 1, qs.length].map num))) c2 = some (.lst ([ps.length, ps.length + 1, qs.length].map num)) := upd_same
        refine ⟨_, _, rfl, .d1 (.dp (.lst (SqL.of e21) (numsD _))), hq.sh, Nat.le_trans hq.ln (by decide), Nat.le_trans hq.dp (by decide), rfl, ?_⟩
        have s1721 := ((s18.trans s19).trans s20).trans s21
        have k21 : ∀ c u, ¬ N1 c → c ≠ m → c ≠ rt → c ≠ b → H c = some u → (upd H20 c2 (.lst ([ps.length, ps.length + 1, qs.length].map num))) c = some u := fun c u h1 h2 h3 h4 z => s1721 _ _ (k17 _ _ (fun z => h1 (hc _ z).1) (k1416 _ _ h2 h3 (k1014 _ _ h2 (k810 _ _ h1 (k8 _ _ h4 z)))))
        have kt21 : KT H (upd H20 c2 (.lst ([ps.length, ps.length + 1, qs.length].map num))) := fun c ys z => s1721 _ _ (kt17 _ _ (kt16 _ _ (kt15' _ _ (kt1114 _ _ (s11 _ _ (kt810 _ _ (kt8 _ _ z)))))))
        have nm2 : ¬ N2 m := fun z => nm (hc _ z).1
        have nb2 : ¬ N2 b := fun z => nb (hc _ z).1
        have G : Gro ps (qs ++ [.fork pl (pl + 2) ps.length (ps.length + 1)]) := by
          have wf2 : Wf qs := by
            rw [← hqs]
            exact (wf.snoc (p := .leaf pl w1) (by show pl ≤ 15; omega)).snoc (p := .leaf (pl + 1) w2) (by show pl + 1 ≤ 15; omega)
          have lw2 : Lw qs := by
            rw [← hqs]
            exact (lw.leaf ⟨a1, a2⟩).leaf ⟨a3, a4⟩
          refine ⟨wf2.snoc (p := .fork pl (pl + 2) ps.length (ps.length + 1)) ⟨by omega, by omega, _, _, at1, at2, rfl, (by show pl + 1 = _; omega), (by show pl + 1 = _; omega), rfl⟩, lw2.fork, ?_, by rw [List.length_append]; show qs.length + 1 ≤ _; omega, by rw [List.length_append]; show _ < qs.length + 1; omega⟩
          rw [← hqs]
          exact ((Ext.snoc _ _).trans (Ext.snoc _ _)).trans (Ext.snoc _ _)
        have fin := q _ (qs ++ [.fork pl (pl + 2) ps.length (ps.length + 1)]) (rs ++ [qs.length]) G ((x17.same s1721).mono fun c h => (hc _ h).1) (M15.kp (fun u z => s1721 _ _ (k17 _ _ nm2 (k16 _ _ mr z))) (fun c ys z => s1721 _ _ (kt17 _ _ (kt16 _ _ z)))) (by
            rw [List.map_append]
            exact s1721 _ _ (k17 _ _ nr2 er16)) (by simp) (fun r hr => ?_) (by rw [List.length_append]; show rs.length + 1 ≤ _; omega) ((B10.kp fun u z => s1721 _ _ (k17 _ _ nb2 (k1416 _ _ bm br (k1114 _ _ bm (s11 _ _ z))))).up (by omega)) k21 kt21
        · show Q (.bl (decide _)) _
          rw [decide_eq_true rfl]
          exact fin
        · rw [List.length_append]
          show r < qs.length + 1
          rcases List.mem_append.mp hr with h | h
          · have := hrs r h
            omega
          · cases List.mem_singleton.mp h
            omega
      · have rpos : 0 < rs.length := List.length_pos_iff.mpr hrs0
        have er2 := k2 _ _ br.symm er
        refine ⟨_, rfl, _, rfl, _, rfl, .ref rt, _, rfl, .inl ⟨_, SqL.of er2, (List.length_map _).symm⟩, b, _, n + 1, rfl, B2, by omega, by omega, by omega, fun i0 H3 i1 i2 B3 k3 => ?_⟩
        have k3 := kpe k3
        have er3 := k3 _ _ br.symm er2
        obtain ⟨v1, hv1, ha1⟩ := pickL (rs.map num) i1 (by rw [List.length_map]; exact i2)
        obtain ⟨r1, hr1, rfl⟩ := List.mem_map.mp hv1
        obtain ⟨r2, hr2, ha2⟩ : ∃ r, r ∈ rs ∧ atI (rs.map num) (-1) = some (num r) := by
          rcases List.eq_nil_or_concat rs with e | ⟨L, y, e⟩
          · exact absurd e hrs0
          · rw [e, List.concat_eq_append, List.map_append]
            exact ⟨y, by simp, atI_last _ _⟩
        obtain ⟨r3, hr3, ha3⟩ : ∃ r, r ∈ rs ∧ atI (rs.map num) 0 = some (num r) := by
          cases rs with
          | nil => exact absurd rfl hrs0
          | cons y L => exact ⟨y, by simp, atI_nat (j := 0) rfl⟩
        refine ⟨rt, _, _, num r1, rfl, rfl, SqL.of er3, ha1, _, rfl, 1, rfl, rt, _, _, num r2, rfl, rfl, SqL.of er3, ha2, _, rfl, rt, _, _, num r3, rfl, rfl, SqL.of er3, ha3, (by show 3 ≤ sizeLine; decide), fun p4 hp4 => ?_⟩
        have s4 := same_new (o := .lst ([r1, r2, r3].map num)) hp4
        have e4 : (upd H3 p4 (.lst ([r1, r2, r3].map num))) p4 = some (.lst ([r1, r2, r3].map num)) := upd_same
        change tCall _ _ _ _ _ (upd H3 p4 (.lst ([r1, r2, r3].map num))) _
        generalize upd H3 p4 (.lst ([r1, r2, r3].map num)) = H4 at *
        have B4 := B3.kp (H' := H4) fun u z => s4 _ _ z
        refine ⟨_, rfl, b, 3, n + 1 + 1, rfl, B4, by omega, by decide, by decide, fun i3 H5 i4 i5 B5 k5 => ?_⟩
        have k5 := kpe k5
        obtain ⟨v, hv, hat⟩ := pickL ([r1, r2, r3].map num) i4 (by show i3 < ((3 : Nat) : Int); omega)
        obtain ⟨r, hr, rfl⟩ := List.mem_map.mp hv
        have hr : r ∈ rs := by
          rcases List.mem_cons.mp hr with rfl | hr
          · exact hr1
          rcases List.mem_cons.mp hr with rfl | hr
          · exact hr2
          rcases List.mem_cons.mp hr with rfl | hr
          · exact hr3
          cases hr
        have hb4 : p4 ≠ b := B3.ne hp4
        refine ⟨p4, _, _, num r, rfl, rfl, SqL.of (k5 _ _ hb4 e4), hat, ?_⟩
        have k05 : ∀ c u, c ≠ b → H c = some u → H5 c = some u := fun c u hc z => k5 _ _ hc (s4 _ _ (k3 _ _ hc (k2 _ _ hc z)))
        have kt05 := boxd_kt B k05
        have M5 := M.kp (H' := H5) (fun u z => k05 _ _ bm.symm z) kt05
        obtain ⟨xm, mx, ml, ma⟩ := M5
        obtain ⟨pt, hpt⟩ : ∃ pt, ps[r]? = some pt := ⟨_, List.getElem?_eq_getElem (hrs r hr)⟩
        obtain ⟨t, t1, t2⟩ := ma r pt hpt
        refine ⟨_, rfl, _, rfl, m, _, _, .ref t, rfl, rfl, SqL.of mx, atI_nat t1, t, pt, rfl, t2, fun u H6 hu s6 eu => ⟨u, _, rfl, SqT.of eu, rfl, _, _, rfl, _, _, rfl, rfl, ?_⟩⟩
        have hlh : lowP pt < highP pt ∧ highP pt ≤ 16 := by
          have := wf r pt hpt
          cases pt with
          | leaf q0 w0 =>
            have h : q0 ≤ 15 := this
            exact ⟨Nat.lt_succ_self _, by show q0 + 1 ≤ 16; omega⟩
          | fork lo hi l r' => exact ⟨by show lo < hi; have := this.1; omega, this.2.1⟩
        have B6 := B5.kp (H' := H6) fun u z => s6 _ _ z
        refine ⟨_, rfl, _, rfl, _, rfl, _, rfl, _, _, rfl, rfl, b, _, n + 1 + 1 + 1, rfl, B6, by omega, (by show (0 : Int) < ((highP pt : Nat) : Int) - ((lowP pt : Nat) : Int); omega), (by show ((highP pt : Nat) : Int) - ((lowP pt : Nat) : Int) ≤ 1000000000; omega), fun j0 H7 j1 j2 B7 k7 => ?_⟩
        have k7 := kpe k7
        have j2 : j0 < ((highP pt : Nat) : Int) - ((lowP pt : Nat) : Int) := j2
        refine ⟨_, _, rfl, rfl, _, rfl, _, rfl, _, _, rfl, rfl, (by show 3 ≤ sizeLine; decide), fun p8 hp8 => ?_⟩
        obtain ⟨a0, ea0⟩ : ∃ k : Nat, j0 = k := ⟨j0.toNat, by omega⟩
        subst ea0
        have s8 := same_new (o := .lst ([lowP pt + a0, lowP pt, highP pt - 1].map num)) hp8
        have e8 : (upd H7 p8 (.lst ([lowP pt + a0, lowP pt, highP pt - 1].map num))) p8 = some (.lst ([lowP pt + a0, lowP pt, highP pt - 1].map num)) := upd_same
        have el : ([V.int (((lowP pt : Nat) : Int) + ((a0 : Nat) : Int)), num (lowP pt), V.int (((highP pt : Nat) : Int) - 1)] : List V) = [lowP pt + a0, lowP pt, highP pt - 1].map num := by
          rw [show (((highP pt : Nat) : Int) - 1) = ((highP pt - 1 : Nat) : Int) from by omega]
          rfl
        change tCall _ _ _ _ _ (upd H7 p8 (.lst [V.int (((lowP pt : Nat) : Int) + ((a0 : Nat) : Int)), num (lowP pt), V.int (((highP pt : Nat) : Int) - 1)])) _
        rw [el]
        generalize upd H7 p8 (.lst ([lowP pt + a0, lowP pt, highP pt - 1].map num)) = H8 at *
        have B8 := B7.kp (H' := H8) fun u z => s8 _ _ z
        refine ⟨_, rfl, b, 3, n + 1 + 1 + 1 + 1, rfl, B8, by omega, by decide, by decide, fun i6 H9 i7 i8 B9 k9 => ?_⟩
        have k9 := kpe k9
        obtain ⟨v9, hv9, hat9⟩ := pickL ([lowP pt + a0, lowP pt, highP pt - 1].map num) i7 (by show i6 < ((3 : Nat) : Int); omega)
        obtain ⟨pl, hpl, rfl⟩ := List.mem_map.mp hv9
        obtain ⟨g1, g2⟩ : lowP pt ≤ pl ∧ pl < highP pt := by
          rcases List.mem_cons.mp hpl with rfl | hpl
          · omega
          rcases List.mem_cons.mp hpl with rfl | hpl
          · omega
          rcases List.mem_cons.mp hpl with rfl | hpl
          · omega
          cases hpl
        have hb8 : p8 ≠ b := B7.ne hp8
        refine ⟨p8, _, _, num pl, rfl, rfl, SqL.of (k9 _ _ hb8 e8), hat9, ?_⟩
        refine ⟨_, rfl, b, n + 1 + 1 + 1 + 1 + 1, rfl, B9, by omega, fun wt HA a1 a2 BA kA => ?_⟩
        have k0A : ∀ c u, c ≠ b → H c = some u → HA c = some u := fun c u hc z => kA _ _ hc (k9 _ _ hc (s8 _ _ (k7 _ _ hc (s6 _ _ (k05 _ _ hc z)))))
        have ktA := boxd_kt B k0A
        have xA := x.kp (H' := HA) (fun c u hc z => k0A c u (fun e => nb (e ▸ hc)) z) ktA
        have MA := M.kp (H' := HA) (fun u z => k0A _ _ bm.symm z) ktA
        have erA := k0A _ _ br.symm er
        have G := gro_put (wt := wt) wf lw hpt g1 g2 ⟨a1, a2⟩
        refine ⟨_, rfl, _, rfl, _, rfl, _, rfl, N1, o, ps, r, pl, pt, wt, rfl, xA, wf, hpt, g1, g2, a1, a2, by omega, fun HB xB kB ktB => ?_⟩
        have erB := kB _ _ nr erA
        refine ⟨_, rfl, .inl ⟨rfl, _, SqL.of erB⟩, _, rfl, _, rfl, _, rfl, _, rfl, m, ps, r, pl, pt, wt, rfl, MA.kp (fun u z => kB _ _ nm z) ktB, wf, hpt, g1, g2, by omega, fun HC MC kC ktC => ?_⟩
        have erC := kC _ _ mr.symm erB
        have xC := xB.kp (H' := HC) (fun c u hc z => kC c u (fun e => nm (e ▸ hc)) z) ktC
        generalize putP ps pl wt (down ps 16 r pl) ((down ps 16 r pl).length - 1) = qs at *
        refine ⟨rt, _, _, rfl, rfl, erC, small1000 (by rw [List.length_map]; omega), ?_⟩
        have erD : (upd HC rt (.lst (rs.map num ++ [num (qs.length - 1)]))) rt = some (.lst (rs.map num ++ [num (qs.length - 1)])) := upd_same
        have kD : ∀ c u, c ≠ rt → HC c = some u → (upd HC rt (.lst (rs.map num ++ [num (qs.length - 1)]))) c = some u := fun c u hc z => by
          rw [upd_ne hc]
          exact z
        generalize upd HC rt (.lst (rs.map num ++ [num (qs.length - 1)])) = HD at *
        have ktD : KT HC HD := fun c ys z => kD _ _ (fun e => by rw [e, erC] at z; cases z) z
        have hq := num2k (n := qs.length - 1) (by have := G.few; omega)
        refine ⟨_, rfl, _, _, rfl, .d1 (.dp (.int _)), hq.sh, Nat.le_trans hq.ln (by decide), Nat.le_trans hq.dp (by decide), ?_⟩
        refine ⟨_, rfl, 1, rfl, rt, _, _, num (qs.length - 1), rfl, rfl, SqL.of erD, atI_last _ _, _, _, rfl, .d1 (.dp (.int _)), hq.sh, Nat.le_trans hq.ln (by decide), Nat.le_trans hq.dp (by decide), rfl, ?_⟩
        have fin := q HD qs (rs ++ [qs.length - 1]) G (xC.kp (H' := HD) (fun c u hc z => kD c u (fun e => nr (e ▸ hc)) z) ktD) (MC.kp (fun u z => kD _ _ mr z) ktD) (by rw [List.map_append]; exact erD) (by simp) (fun r' hr' => ?_) (by rw [List.length_append]; show rs.length + 1 ≤ _; omega) ((BA.kp (H' := HD) fun u z => kD _ _ br (kC _ _ bm (kB _ _ nb z))).up (by omega)) (fun c u h1 h2 h3 h4 z => kD _ _ h3 (kC _ _ h2 (kB _ _ h1 (k0A _ _ h4 z)))) (fun c ys z => ktD _ _ (ktC _ _ (ktB _ _ (ktA _ _ z))))
        · show Q (.bl (decide _)) HD
          rw [decide_eq_true rfl]
          exact fin
        · have := G.more
          rcases List.mem_append.mp hr' with h | h
          · have := hrs r' h
            omega
          · cases List.mem_singleton.mp h
            omega
end
end K32
set_option maxHeartbeats 1000000
namespace K32
open PySem PySem.Spec PyProof.Rows L2 Gd
open C8 (clsBody Met pe_mt pe_mt0)
theorem rg_num (n : Nat) : rgV 0 ((n : Nat) : Int) = (List.range n).map num := by
  unfold rgV
  rw [Int.sub_zero, Int.toNat_natCast]
  refine List.map_congr_left fun i _ => ?_
  show V.int (0 + (i : Int)) = V.int (i : Int)
  rw [Int.zero_add]
theorem way_mem {ps : List Pt} {pl : Nat} {xs : List Nat} (W : Way ps pl xs) {x : Nat} (h : x ∈ xs) : x < ps.length := by
  obtain ⟨j, hj⟩ := List.mem_iff_getElem?.mp h
  have hl : j < xs.length := by
    by_cases z : j < xs.length
    · exact z
    · rw [List.getElem?_eq_none (by omega)] at hj
      cases hj
  by_cases z : j + 1 < xs.length
  · obtain ⟨lo, hi, l, r, a, _⟩ := W.stp j x _ hj (List.getElem?_eq_getElem z)
    exact lt_of a
  · obtain ⟨wt, a⟩ := W.fin x (by rw [show xs.length - 1 = j from by omega]; exact hj)
    exact lt_of a
section
variable {P : Program} {w : World} {K : PySem.W.Frag} {mg : Str → Option Value} {base : Heap} {C : Addr}
def spRight (C : Addr) : Sp := fun vs H Q _ => ∃ (N : Addr → Prop) (b o m rt : Addr) (n : Int) (ps : List Pt) (rs : List Nat) (ah : Nat), vs = [.ref b, .ref o, .ref m, .ref rt, num ah] ∧ BoxD H b n ∧ n ≤ 1000 ∧ StA N H o C ps ∧ Mo H m ps ∧ Wf ps ∧ Lw ps ∧ H rt = some (.lst (rs.map num)) ∧ rs ≠ [] ∧ (∀ r ∈ rs, r < ps.length) ∧ rs.length ≤ 100 ∧ ¬ N b ∧ ps.length ≤ 960 ∧ ah ≤ ps.length ∧
  ∀ H', (∀ c u, c ≠ b → H c = some u → H' c = some u) → BoxD H' b (n + 10) → Q (.bl true) H'
theorem ok_right (T : Txt K mg) (OC : PtC K C) (c__law_take : CalG P w K mg base 1 "_law_take" spTakeD) (c__law_down : CalG P w K mg base 1 "_law_down" spDn) (c__law_ends : CalG P w K mg base 1 "_law_ends" spEndsL)
    (c_way_down : C8.Cal P w K mg base 4 "way_down" (spDown C) []) (m_many : Met P w K mg base 1 C "many" (spMany C) []) (m_part : Met P w K mg base 3 C "part" (spPart C) []) (m_numbers : Met P w K mg base 1 C "numbers" (spNums C) [])
    (D : DefAt K mg "_law_right" s__law_right ["_law_box_here", "_law_parts", "_law_model", "_law_roots", "_law_ahead"]) : CalG P w K mg base 5 "_law_right" (spRight C) := by
  refine D.cal sc__law_right (fun vs H Q E h => ?_) (fun f cdv A outer s H vs Q E hG hr h => ?_)
  · obtain ⟨N, b, o, m, rt, n, ps, rs, ah, rfl, _⟩ := h
    rfl
  · obtain ⟨N, b, o, m, rt, n, ps, rs, ah, rfl, B, hn, x, M, wf, lw, er, hrs0, hrs, few, nb, fp, hah, q⟩ := h
    refine ⟨_, (pss_cons (ps_if (pt_cmpR op_ne (pe_callB (call_repr hG (hu64 hr)) (by rfl) T.b_repr boot_repr_ (pa_cons (pe_mt0 m_many hr (by decide) (pv 1)) pa_nil)) (pe_callB (call_repr hG (hu64 hr)) (by rfl) T.b_repr boot_repr_ (pa_cons (pe_callB call_len (by rfl) T.b_len boot_len_ (pa_cons (pv 2) pa_nil)) pa_nil)) (nomark _))
          (pss_one (ps_ret pe_bl)) pss_nil)
      (pss_cons (ps_for PassesOwn.never rfl (pi_range2 rfl T.b_range (pa_cons (pv 4) (pa_cons (pe_callB call_len (by rfl) T.b_len boot_len_ (pa_cons (pv 2) pa_nil)) pa_nil))) (pg_name (i := 5) sc__law_right.nd rfl (Or.inl rfl))
          (pss_one (ps_if (pt_cmpR op_ne (pe_callB (call_repr hG (hu64 hr)) (by rfl) T.b_repr boot_repr_ (pa_cons (pe_mt m_part hr (by decide) (pv 1) (pa_cons (pv 5) pa_nil)) pa_nil)) (pe_callB (call_repr hG (hu64 hr)) (by rfl) T.b_repr boot_repr_ (pa_cons (pe_ix ix_list (pv 2) (pv 5) (fun _ _ => rfl)) pa_nil)) (nomark _))
              (pss_one (ps_ret pe_bl)) pss_nil)))
      (pss_cons (ps_set (i := 6) sc__law_right.nd rfl (Or.inl rfl) (pe_ix ix_list (pv 3) (pe_g c__law_take hG (hr.mono (by decide)) (by rfl) (pa_cons (pv 0) (pa_cons (pe_callB call_len (by rfl) T.b_len boot_len_ (pa_cons (pv 3) pa_nil)) pa_nil))) (fun _ _ => rfl)))
      (pss_cons (ps_asg (pe_g c__law_ends hG (hr.mono (by decide)) (by rfl) (pa_cons (pe_ix ix_list (pv 2) (pv 6) (fun _ _ => rfl)) pa_nil)) (pg_tup (by rfl) (pgs_cons (pg_name (i := 7) sc__law_right.nd rfl (Or.inl rfl)) (pgs_cons (pg_name (i := 8) sc__law_right.nd rfl (Or.inl rfl)) pgs_nil))))
      (pss_cons (ps_for PassesOwn.never rfl (pi_list (pe_lst (pa_cons (pv 7) (pa_cons (pe_op op_sub (pv 8) pe_int) (pa_cons (pe_op op_add (pv 7) (pe_g c__law_take hG (hr.mono (by decide)) (by rfl) (pa_cons (pv 0) (pa_cons (pe_op op_sub (pv 8) (pv 7)) pa_nil)))) pa_nil))))) (pg_name (i := 9) sc__law_right.nd rfl (Or.inl rfl))
          (pss_one (ps_for PassesOwn.never rfl (pi_range1 rfl T.b_range (pa_cons pe_int pa_nil)) (pg_name (i := 10) sc__law_right.nd rfl (Or.inl rfl))
              (pss_cons (ps_set (i := 11) sc__law_right.nd rfl (Or.inl rfl) (C8.pe_c c_way_down hr (by decide) (by rfl) (pa_cons (pv 1) (pa_cons (pv 6) (pa_cons (pv 9) pa_nil)))))
              (pss_cons (ps_if (pt_cmpR op_ne (pe_callB (call_repr hG (hu64 hr)) (by rfl) T.b_repr boot_repr_ (pa_cons (pv 11) pa_nil)) (pe_callB (call_repr hG (hu64 hr)) (by rfl) T.b_repr boot_repr_ (pa_cons (pe_g c__law_down hG (hr.mono (by decide)) (by rfl) (pa_cons (pv 2) (pa_cons (pv 6) (pa_cons (pv 9) pa_nil)))) pa_nil)) (nomark _))
                  (pss_one (ps_ret pe_bl)) pss_nil)
              (pss_one (ps_expr (pe_bm0 PySem.F.plainAttrs_list PySem.F.slot_list_clear PySem.F.type_list_clear mt_clear (pv 11)))))))))
      (pss_cons (ps_set (i := 11) sc__law_right.nd rfl (Or.inl rfl) (pe_mt0 m_numbers hr (by decide) (pv 1)))
      (pss_cons (ps_set (i := 12) sc__law_right.nd rfl (Or.inl rfl) (pe_listRg (by rfl) (by rfl) T.t_list (prg_1 (by rfl) T.b_range (pe_callB call_len (by rfl) T.b_len boot_len_ (pa_cons (pv 2) pa_nil)))))
      (pss_cons (ps_expr (pe_bm PySem.F.plainAttrs_list PySem.F.slot_list_append PySem.F.type_list_append mt_append (pv 11) (pa_cons pe_int pa_nil)))
      (pss_one (ps_ret (pe_and (pe_cmpR (op_eqD (hu64 hr)) (pe_mt0 m_numbers hr (by decide) (pv 1)) (pv 12) (nomark _)) (pe_one (pe_cmpR (op_eqD (hu64 hr)) (pv 11) (pe_op op_cat (pv 12) (pe_lst (pa_cons pe_int pa_nil))) (nomark _)))))))))))))), ?_⟩
    have br : b ≠ rt := fun e => by
      obtain ⟨_, _, _, _, e1, _⟩ := B
      rw [e, er] at e1
      cases e1
    have bm : b ≠ m := fun e => by
      obtain ⟨_, _, _, _, e1, _⟩ := B
      obtain ⟨_, e2, _⟩ := M
      rw [e, e2] at e1
      cases e1
    have hM := M
    obtain ⟨xm, mx, ml, ma⟩ := M
    obtain ⟨dx, fs, i1, nl1⟩ := x.ins
    have hq := num2k (n := ps.length) (by omega)
    refine ⟨_, rfl, o, dx, fs, rfl, i1, nl1 _ (by decide), N, o, ps, rfl, x, _, _, rfl, .d1 (.dp (.int _)), hq.sh, Nat.le_trans hq.ln (by decide), Nat.le_trans hq.dp (by decide), _, rfl, .ref m, _, rfl, .inl ⟨_, SqL.of mx, rfl⟩, ?_⟩
    rw [ml]
    refine ⟨_, _, rfl, .d1 (.dp (.int _)), hq.sh, Nat.le_trans hq.ln (by decide), Nat.le_trans hq.dp (by decide), rfl, _, rfl, ifSame ?_⟩
    refine ⟨_, rfl, _, rfl, .ref m, _, rfl, .inl ⟨_, SqL.of mx, rfl⟩, ?_⟩
    refine ⟨_, _, rfl, ⟨by omega, by omega, by omega, by omega⟩, ?_⟩
    refine for_range (fun k σ H' => ∃ y5 : Option V, H' = H ∧ σ = [some (.ref b), some (.ref o), some (.ref m), some (.ref rt), some (num ah), y5, none, none, none, none, none, none, none]) ⟨none, rfl, rfl⟩ (fun i σ H' hi hP => ?_) (fun σ H' hP => ?_)
    · obtain ⟨y5, rfl, rfl⟩ := hP
      have hi' : ah + i < ps.length := by omega
      obtain ⟨p, hp⟩ : ∃ p, ps[ah + i]? = some p := ⟨_, List.getElem?_eq_getElem hi'⟩
      obtain ⟨t', t1, t2⟩ := ma _ _ hp
      have hk := ptOk wf lw (by omega) hp
      refine ⟨_, rfl, o, dx, fs, rfl, i1, nl1 _ (by decide), _, rfl, N, o, ps, ah + i, p, rfl, x, hp, fun t ht => ⟨_, _, rfl, .d1 (.dp (ptDp ht)), hk.sh, Nat.le_trans hk.ln (by decide), Nat.le_trans hk.dp (by decide), _, rfl, _, rfl, m, _, _, .ref t', rfl, rfl, SqL.of mx, atI_nat t1, _, _, rfl, .d1 (.dp (ptDp t2)), hk.sh, Nat.le_trans hk.ln (by decide), Nat.le_trans hk.dp (by decide), rfl, _, rfl, ifSame ?_⟩⟩
      exact ⟨_, rfl, rfl⟩
    · obtain ⟨y5, rfl, rfl⟩ := hP
      have rpos : 0 < rs.length := List.length_pos_iff.mpr hrs0
      refine ⟨_, rfl, _, rfl, _, rfl, .ref rt, _, rfl, .inl ⟨_, SqL.of er, (List.length_map _).symm⟩, b, _, n, rfl, B, by omega, by omega, by omega, fun i0 H3 i1 i2 B3 k3 => ?_⟩
      have k3 := kpe k3
      have er3 := k3 _ _ br.symm er
      obtain ⟨v1, hv1, ha1⟩ := pickL (rs.map num) i1 (by rw [List.length_map]; exact i2)
      obtain ⟨r, hr, rfl⟩ := List.mem_map.mp hv1
      refine ⟨rt, _, _, num r, rfl, rfl, SqL.of er3, ha1, ?_⟩
      have kt3 := boxd_kt B k3
      have M3 := hM.kp (H' := H3) (fun u z => k3 _ _ bm.symm z) kt3
      obtain ⟨xm, mx, ml, ma⟩ := M3
      obtain ⟨pt, hpt⟩ : ∃ pt, ps[r]? = some pt := ⟨_, List.getElem?_eq_getElem (hrs r hr)⟩
      obtain ⟨t, t1, t2⟩ := ma r pt hpt
      refine ⟨_, rfl, _, rfl, m, _, _, .ref t, rfl, rfl, SqL.of mx, atI_nat t1, t, pt, rfl, t2, fun u H6 hu s6 eu => ⟨u, _, rfl, SqT.of eu, rfl, _, _, rfl, _, _, rfl, rfl, ?_⟩⟩
      have hlh : lowP pt < highP pt ∧ highP pt ≤ 16 := by
        have := wf r pt hpt
        cases pt with
        | leaf q0 w0 =>
          have h : q0 ≤ 15 := this
          exact ⟨Nat.lt_succ_self _, by show q0 + 1 ≤ 16; omega⟩
        | fork lo hi l r' => exact ⟨by show lo < hi; have := this.1; omega, this.2.1⟩
      have B6 := B3.kp (H' := H6) fun u z => s6 _ _ z
      refine ⟨_, rfl, _, rfl, _, _, rfl, rfl, _, rfl, _, rfl, _, rfl, _, rfl, _, _, rfl, rfl, b, _, n + 1, rfl, B6, by omega, (by show (0 : Int) < ((highP pt : Nat) : Int) - ((lowP pt : Nat) : Int); omega), (by show ((highP pt : Nat) : Int) - ((lowP pt : Nat) : Int) ≤ 1000000000; omega), fun j0 H7 j1 j2 B7 k7 => ?_⟩
      have k7 := kpe k7
      have j2 : j0 < ((highP pt : Nat) : Int) - ((lowP pt : Nat) : Int) := j2
      refine ⟨_, _, rfl, rfl, (by show 3 ≤ sizeLine; decide), fun p8 hp8 => ?_⟩
      obtain ⟨a0, ea0⟩ : ∃ k : Nat, j0 = k := ⟨j0.toNat, by omega⟩
      subst ea0
      have s8 := same_new (o := .lst ([lowP pt, highP pt - 1, lowP pt + a0].map num)) hp8
      have e8 : (upd H7 p8 (.lst ([lowP pt, highP pt - 1, lowP pt + a0].map num))) p8 = some (.lst ([lowP pt, highP pt - 1, lowP pt + a0].map num)) := upd_same
      have el : ([num (lowP pt), V.int (((highP pt : Nat) : Int) - 1), V.int (((lowP pt : Nat) : Int) + ((a0 : Nat) : Int))] : List V) = [lowP pt, highP pt - 1, lowP pt + a0].map num := by
        rw [show (((highP pt : Nat) : Int) - 1) = ((highP pt - 1 : Nat) : Int) from by omega]
        rfl
      change ∃ a, _ = V.ref a ∧ (∃ xs, SqL _ (upd H7 p8 (.lst [num (lowP pt), V.int (((highP pt : Nat) : Int) - 1), V.int (((lowP pt : Nat) : Int) + ((a0 : Nat) : Int))])) a xs) ∧ _
      rw [el]
      refine ⟨p8, rfl, ⟨_, SqL.of e8⟩, ?_⟩
      have k08 : ∀ c u, c ≠ b → H' c = some u → (upd H7 p8 (.lst ([lowP pt, highP pt - 1, lowP pt + a0].map num))) c = some u := fun c u hc z => s8 _ _ (k7 _ _ hc (s6 _ _ (k3 _ _ hc z)))
      have B8 : BoxD (upd H7 p8 (.lst ([lowP pt, highP pt - 1, lowP pt + a0].map num))) b (n + 1 + 1) := B7.kp fun u z => s8 _ _ z
      generalize upd H7 p8 (.lst ([lowP pt, highP pt - 1, lowP pt + a0].map num)) = H8 at *
      have kt8 := boxd_kt B k08
      have x8 := x.kp (H' := H8) (fun c u hc z => k08 c u (fun e => nb (e ▸ hc)) z) kt8
      have M8 := hM.kp (H' := H8) (fun u z => k08 _ _ bm.symm z) kt8
      refine for_list (K := K) (a := p8) (xs := [lowP pt, highP pt - 1, lowP pt + a0].map num) (fun k σ H' => Same H8 H' ∧ ∃ (y5 y9 y10 y11 : Option V), σ = [some (.ref b), some (.ref o), some (.ref m), some (.ref rt), some (num ah), y5, some (num r), some (num (lowP pt)), some (num (highP pt)), y9, y10, y11, none]) ⟨fun _ _ z => z, _, none, none, none, rfl⟩ (fun k σ H9 _ hP => SqL.of (hP.1 _ _ e8)) (fun k v σ H9 hk hP => ?_) (fun σ H9 hP => ?_)
      · obtain ⟨s9, y5, y9, y10, y11, rfl⟩ := hP
        obtain ⟨pl, hpl, rfl⟩ := List.mem_map.mp (List.mem_of_getElem? hk)
        obtain ⟨g1, g2⟩ : lowP pt ≤ pl ∧ pl < highP pt := by
          rcases List.mem_cons.mp hpl with rfl | hpl
          · omega
          rcases List.mem_cons.mp hpl with rfl | hpl
          · omega
          rcases List.mem_cons.mp hpl with rfl | hpl
          · omega
          cases hpl
        obtain ⟨W, x0, xl⟩ := down_way wf (pl := pl) 16 r pt hpt g1 g2 (by omega)
        have hd := numsOk (xs := down ps 16 r pl) (fun x hx => by have := way_mem W hx; omega) (by omega)
        refine ⟨2, rfl, by decide, by decide, ?_⟩
        refine for_range (fun k σ H' => Same H8 H' ∧ ∃ (y10 y11 : Option V), σ = [some (.ref b), some (.ref o), some (.ref m), some (.ref rt), some (num ah), y5, some (num r), some (num (lowP pt)), some (num (highP pt)), some (num pl), y10, y11, none]) ⟨s9, y10, y11, rfl⟩ (fun i σ H' _ hP => ?_) (fun σ H' hP => ?_)
        · obtain ⟨s10, y10, y11, rfl⟩ := hP
          refine ⟨_, rfl, _, rfl, _, rfl, N, o, ps, r, pl, pt, rfl, x8.same s10, wf, hpt, g1, g2, fun a H11 ha s11 ea => ?_⟩
          refine ⟨_, rfl, _, _, rfl, .d1 (.dp (.lst (SqL.of ea) (numsD _))), hd.sh, Nat.le_trans hd.ln (by decide), Nat.le_trans hd.dp (by decide), _, rfl, _, rfl, _, rfl, m, ps, r, pl, pt, rfl, M8.kp (fun u z => s11 _ _ (s10 _ _ z)) (KT.of (s10.trans s11)), wf, hpt, g1, g2, fun a2 H12 ha2 s12 ea2 => ?_⟩
          refine ⟨_, _, rfl, .d1 (.dp (.lst (SqL.of ea2) (numsD _))), hd.sh, Nat.le_trans hd.ln (by decide), Nat.le_trans hd.dp (by decide), rfl, _, rfl, ifSame ?_⟩
          refine ⟨_, rfl, .inl ⟨rfl, _, SqL.of (s12 _ _ ea)⟩, a, _, rfl, rfl, s12 _ _ ea, ?_⟩
          exact ⟨fun c u z => by
            have h := s10 _ _ z
            rw [upd_ne (ne_of_none h ha)]
            exact s12 _ _ (s11 _ _ h), _, _, rfl⟩
        · obtain ⟨s10, y10, y11, rfl⟩ := hP
          exact ⟨s10, _, _, _, _, rfl⟩
      · obtain ⟨s9, y5, y9, y10, y11, rfl⟩ := hP
        have x9 := x8.same s9
        have M9 := M8.kp (H' := H9) (fun u z => s9 _ _ z) (KT.of s9)
        obtain ⟨dx9, fs9, i9, nl9⟩ := x9.ins
        refine ⟨_, rfl, o, dx9, fs9, rfl, i9, nl9 _ (by decide), N, o, ps, rfl, x9, fun a H10 ha s10 ea => ?_⟩
        have M10 := M9.kp (H' := H10) (fun u z => s10 _ _ z) (KT.of s10)
        obtain ⟨xm, mx, ml, ma⟩ := M10
        refine ⟨_, rfl, .ref m, _, rfl, .inl ⟨_, SqL.of mx, rfl⟩, ?_⟩
        refine ⟨_, rfl, RgOk.of_le (Int.le_refl 0) (by omega) (by decide) (by omega), fun a2 ha2 => ?_⟩
        rw [ml, rg_num]
        have s11 := same_new (o := .lst ((List.range ps.length).map num)) ha2
        have e11 : (upd H10 a2 (.lst ((List.range ps.length).map num))) a2 = some (.lst ((List.range ps.length).map num)) := upd_same
        have a21 : a ≠ a2 := ne_of_none ea ha2
        generalize upd H10 a2 (.lst ((List.range ps.length).map num)) = H11 at *
        have ea11 := s11 _ _ ea
        refine ⟨_, rfl, .inl ⟨rfl, _, SqL.of ea11⟩, a, _, _, rfl, rfl, ea11, small1000 (by rw [List.length_map, List.length_range]; omega), ?_⟩
        have e12 : (upd H11 a (.lst ((List.range ps.length).map num ++ [V.int 0]))) a = some (.lst ((List.range ps.length ++ [0]).map num)) := by
          rw [upd_same, List.map_append]
          rfl
        have s12 : Same H9 (upd H11 a (.lst ((List.range ps.length).map num ++ [V.int 0]))) := fun c u z => by
          rw [upd_ne (ne_of_none z ha)]
          exact s11 _ _ (s10 _ _ z)
        have e12b : (upd H11 a (.lst ((List.range ps.length).map num ++ [V.int 0]))) a2 = some (.lst ((List.range ps.length).map num)) := by
          rw [upd_ne a21.symm]
          exact e11
        generalize upd H11 a (.lst ((List.range ps.length).map num ++ [V.int 0])) = H12 at *
        have x12 := x9.same s12
        obtain ⟨dx12, fs12, i12, nl12⟩ := x12.ins
        refine ⟨_, rfl, o, dx12, fs12, rfl, i12, nl12 _ (by decide), N, o, ps, rfl, x12, fun a3 H13 ha3 s13 ea3 => ?_⟩
        refine ⟨_, rfl, _, _, .lst (SqL.of ea3) (numsD _), .lst (SqL.of (s13 _ _ e12b)) (numsD _), sh_nums _, sh_nums _, _, rfl, ?_⟩
        rw [PySem.SeqAt.eqv_refl _ (can_nums _)]
        refine iteT ⟨_, rfl, _, rfl, (by show 1 ≤ sizeLine; decide), fun p14 hp14 => ?_⟩
        have s14 := same_new (o := .lst ([0].map num)) hp14
        have e14 : (upd H13 p14 (.lst ([0].map num))) p14 = some (.lst ([0].map num)) := upd_same
        refine ⟨a2, p14, _, _, rfl, rfl, s14 _ _ (s13 _ _ e12b), e14, line_le (by rw [List.length_map, List.length_range]; show ps.length + 1 ≤ 1000000; omega), fun p15 hp15 => ?_⟩
        rw [← List.map_append]
        have s15 := same_new (o := .lst ((List.range ps.length ++ [0]).map num)) hp15
        refine ⟨_, _, .lst (SqL.of (s15 _ _ (s14 _ _ (s13 _ _ e12)))) (numsD _), .lst (SqL.of upd_same) (numsD _), sh_nums _, sh_nums _, ?_⟩
        rw [PySem.SeqAt.eqv_refl _ (can_nums _)]
        have sa := (((s9.trans s12).trans s13).trans s14).trans s15
        exact q _ (fun c u hc z => sa _ _ (k08 _ _ hc z)) ((B8.kp fun u z => sa _ _ z).up (by omega))
end
end K32
set_option maxHeartbeats 1000000
namespace K32
open PySem PySem.Spec PyProof.Rows L2 Gd
open C8 (clsBody Met pe_mt pe_mt0)
theorem ptsDp {K : PySem.W.Frag} {H : Hp} : ∀ (ps : List Pt) (xs : List V), xs.length = ps.length → (∀ (i : Nat) (p : Pt), ps[i]? = some p → ∃ t, xs[i]? = some (.ref t) ∧ H t = some (.tup (ptV p))) → DpAll K H xs (ps.map ptD)
  | [], [], _, _ => .nil
  | [], x :: xs, h, _ => by cases h
  | p :: ps, [], h, _ => by cases h
  | p :: ps, x :: xs, h, hx => by
    obtain ⟨t, t1, t2⟩ := hx 0 p rfl
    cases (Option.some.inj t1)
    exact .cons (ptDp t2) (ptsDp ps xs (Nat.succ.inj h) fun i q e => hx (i + 1) q e)
section
variable {P : Program} {w : World} {K : PySem.W.Frag} {mg : Str → Option Value} {base : Heap} {C : Addr}
def spLaw (K : PySem.W.Frag) : Sp := fun vs H Q _ => ∃ (a : Addr) (ns : List Int), vs = [.ref a] ∧ SqL K H a (ns.map V.int) ∧ ns.length ≤ 63 ∧ ∀ H', Q (.bl true) H'
theorem ok_law {fP : Addr} {fdP : FuncData} (T : Txt K mg) (OC : PtC K C) {f : Addr} {fd : FuncData} (F : Fun K "law" "law" s_law f fd) (cP : mg "Parts" = some (.ref C)) (M_Parts : Mk K C fP) (B_Parts : Binds K fdP ["self"] []) (G_Parts : FnOk P w K mg base CX0 1 fP fdP ["self"] (spInit C)) (c__law_cell_at : CalG P w K mg base 1 "_law_cell_at" (Gd.spCell K)) (c__law_box : CalG P w K mg base 1 "_law_box" spBoxD)
    (c__law_deed : CalG P w K mg base 12 "_law_deed" (spDeed C)) (c__law_right : CalG P w K mg base 5 "_law_right" (spRight C)) (m_part : Met P w K mg base 3 C "part" (spPart C) []) : FnG P w K mg base CX0 13 f fd ["_law_script"] (spLaw K) := by
  refine okG F sc_law (fun vs H Q E h => ?_) (fun cdv A outer s H vs Q E hG hr h => ?_)
  · obtain ⟨a, ns, rfl, _⟩ := h
    rfl
  · obtain ⟨a, ns, rfl, hS, hl, q⟩ := h
    refine ⟨_, (pss_cons (ps_set (i := 1) sc_law.nd rfl (Or.inr rfl) (pe_make0 M_Parts G_Parts (hr.mono (by decide)) rfl cP B_Parts .nil pass0))
      (pss_cons (ps_set (i := 2) sc_law.nd rfl (Or.inl rfl) (pe_lst pa_nil))
      (pss_cons (ps_set (i := 3) sc_law.nd rfl (Or.inl rfl) (pe_lst pa_nil))
      (pss_cons (ps_for PassesOwn.never rfl (pi_range1 rfl T.b_range (pa_cons (pe_callB (call_max2 rfl) (by rfl) T.b_max boot_max_ (pa_cons pe_int (pa_cons (pe_callB (call_min2 rfl) (by rfl) T.b_min boot_min_ (pa_cons pe_int (pa_cons (pe_callB call_len (by rfl) T.b_len boot_len_ (pa_cons (pv 0) pa_nil)) pa_nil))) pa_nil))) pa_nil)) (pg_name (i := 4) sc_law.nd rfl (Or.inl rfl))
          (pss_cons (ps_set (i := 5) sc_law.nd rfl (Or.inl rfl) (pe_g c__law_box hG (hr.mono (by decide)) (by rfl) (pa_cons (pe_g c__law_cell_at hG (hr.mono (by decide)) (by rfl) (pa_cons (pv 0) (pa_cons (pv 4) pa_nil))) pa_nil)))
          (pss_cons (ps_set (i := 6) sc_law.nd rfl (Or.inl rfl) (pe_callB call_len (by rfl) T.b_len boot_len_ (pa_cons (pv 2) pa_nil)))
          (pss_one (ps_if (PW.pt (pw_or (pt_not (pt_val (pe_g c__law_deed hG (hr.mono (by decide)) (by rfl) (pa_cons (pv 5) (pa_cons (pv 1) (pa_cons (pv 2) (pa_cons (pv 3) pa_nil))))))) (pw_or1 (pt_not (pt_val (pe_g c__law_right hG (hr.mono (by decide)) (by rfl) (pa_cons (pv 5) (pa_cons (pv 1) (pa_cons (pv 2) (pa_cons (pv 3) (pa_cons (pv 6) pa_nil)))))))))))
              (pss_one (ps_ret pe_bl)) pss_nil)))))
      (pss_one (ps_ret (pe_cmpR (op_eqD (hu64 hr)) (pe_lc (own := [("_law_number", 7)]) (g := gName 7) (tt := tYes) rfl sc_law.nd (pi_range1 rfl T.b_range (pa_cons (pe_callB call_len (by rfl) T.b_len boot_len_ (pa_cons (pv 2) pa_nil)) pa_nil)) (blkOk_by (own := [("_law_number", 7)]) (N := ["_law_script", "_law_parts", "_law_model", "_law_roots", "_law_k", "_law_box_here", "_law_ahead", "_law_number"]) (sc := defScope s_law) (by decide +kernel)) (fun _ _ _ _ _ => pg_name (i := 7) sc_law.nd rfl (Or.inl rfl)) (fun _ _ _ _ _ => pts_nil) (fun _ _ _ _ _ => (pe_mt m_part hr (by decide) (pv 1) (pa_cons (pv 7) pa_nil)))) (pv 2) (nomark _)))))))), ?_⟩
    intro u du n1 n2 ne1
    refine ⟨u, du, rfl, upd_same, fun H1 N1 r1 k1 f1 => ⟨rfl, ?_⟩⟩
    have s1 : Same H H1 := fun c x z => k1 c x (ne_of_none z n1) (by rw [upd_ne (ne_of_none z n1), upd_ne (ne_of_none z n2)]; exact z)
    have g1 : ∀ c, N1 c → H c = none := fun c hc => by
      rcases f1 c hc with rfl | h
      · exact n1
      · exact none_of' (fun c x z => by rw [upd_ne (ne_of_none z n1), upd_ne (ne_of_none z n2)]; exact z) h
    have r1 := r1.cut
    refine ⟨(by show 0 ≤ sizeLine; decide), fun m hm => ?_⟩
    have s2 := same_new (o := .lst []) hm
    have em : (upd H1 m (.lst [])) m = some (.lst []) := upd_same
    generalize upd H1 m (.lst []) = H2 at *
    refine ⟨(by show 0 ≤ sizeLine; decide), fun rt hrt => ?_⟩
    have s3 := same_new (o := .lst []) hrt
    have er : (upd H2 rt (.lst [])) rt = some (.lst []) := upd_same
    generalize upd H2 rt (.lst []) = H3 at *
    have em3 := s3 _ _ em
    have mr : m ≠ rt := ne_of_none em hrt
    have s13 := s2.trans s3
    have s03 := s1.trans s13
    refine ⟨_, rfl, .ref a, _, rfl, .inl ⟨_, s03.seq hS, rfl⟩, _, _, rfl, _, _, rfl, _, rfl, ?_, ?_, ?_⟩
    · split <;> split <;> omega
    · split <;> split <;> omega
    refine for_range (lo := 0) (fun k σ H' => ∃ (N : Addr → Prop) (ps : List Pt) (rs : List Nat) (y4 y5 y6 : Option V), σ = [some (.ref a), some (.ref u), some (.ref m), some (.ref rt), y4, y5, y6, none] ∧ k ≤ 12 ∧ Same H H' ∧ (∀ c, N c → H c = none) ∧ StA N H' u C ps ∧ Mo H' m ps ∧ Wf ps ∧ Lw ps ∧ H' rt = some (.lst (rs.map num)) ∧ (∀ r ∈ rs, r < ps.length) ∧ rs.length ≤ k ∧ ps.length ≤ 31 * k ∧ ¬ N m ∧ ¬ N rt)
      ⟨fun c => N1 c ∧ H1 c ≠ none, [], [], none, none, none, rfl, by omega, s03, fun c h => g1 c h.1, r1.same s13, ⟨_, em3, rfl, fun i p e => (by cases e)⟩, fun i p e => (by cases e), fun i p wt e => (by cases e), er, fun r h => (by cases h), Nat.le_refl _, Nat.le_refl _, fun z => z.2 hm, fun z => z.2 (none_of' s2 hrt)⟩ (fun k σ H4 hk hP => ?_) (fun σ H4 hP => ?_)
    · have hk12 : k < 12 := by
        revert hk
        split <;> split <;> omega
      obtain ⟨N, ps, rs, y4, y5, y6, rfl, _, sm, g, x, M, wf, lw, er4, hrs, few, fp, nm, nr⟩ := hP
      refine ⟨_, rfl, _, rfl, a, ns, _, rfl, sm.seq hS, hl, by omega, fun z => ⟨z, rfl, fun b H5 hb hB kb => ?_⟩⟩
      have x := x.cut
      obtain ⟨ym, my, ly, ay⟩ := M
      have s5 : Same H4 H5 := fun c v z => by rw [kb c (ne_of_none z hb)]; exact z
      have M5 : Mo H5 m ps := Mo.kp ⟨ym, my, ly, ay⟩ (fun v z => s5 _ _ z) (KT.of s5)
      refine ⟨_, rfl, .ref m, _, rfl, .inl ⟨_, SqL.of (s5 _ _ my), rfl⟩, ?_⟩
      rw [ly]
      refine ⟨_, rfl, _, rfl, _, rfl, _, rfl, fun c => N c ∧ H4 c ≠ none, b, u, m, rt, 0, ps, rs, rfl, hB, by decide, x.same s5, M5, wf, lw, s5 _ _ er4, hrs, by omega, fun z => z.2 hb, fun z => nm z.1, fun z => nr z.1, mr, by omega, fun H6 qs rs' G x6 M6 er6 h6 h7 h8 B6 k6 kt6 => ?_⟩
      refine ⟨_, rfl, iteF ⟨_, rfl, _, rfl, _, rfl, _, rfl, _, rfl, fun c => N c ∧ H4 c ≠ none, b, u, m, rt, 0 + 200, qs, rs', ps.length, rfl, B6, by decide, x6, M6, G.wf, G.lw, er6, h6, h7, by omega, fun z => z.2 hb, by have := G.few; omega, by have := G.more; omega, fun H7 k7 B7 => ⟨_, rfl, iteF ?_⟩⟩⟩
      have fb : H b = none := none_of' sm hb
      have ht7 : KT H6 H7 := boxd_kt B6 k7
      have mb : m ≠ b := ne_of_none my hb
      have rb : rt ≠ b := ne_of_none er4 hb
      refine ⟨_, qs, rs', _, _, _, rfl, by omega, fun c v z => ?_, fun c h => g c h.1, x6.kp (fun c v hc z => k7 c v (fun e => hc.2 (e ▸ hb)) z) ht7, M6.kp (fun v z => k7 _ _ mb z) ht7, G.wf, G.lw, k7 _ _ rb er6, h7, by omega, by have := G.few; omega, fun z => nm z.1, fun z => nr z.1⟩
      have cb : c ≠ b := ne_of_none z fb
      have cm : c ≠ m := fun e => by
        rw [e, none_of' s1 hm] at z
        cases z
      have cr : c ≠ rt := fun e => by
        rw [e, none_of' (s1.trans s2) hrt] at z
        cases z
      exact k7 _ _ cb (k6 _ _ (fun h => by rw [g c h.1] at z; cases z) cm cr cb (s5 _ _ (sm _ _ z)))
    · obtain ⟨N, ps, rs, y4, y5, y6, rfl, _, sm, g, x, M, wf, lw, er4, hrs, few, fp, nm, nr⟩ := hP
      have fp2 : ps.length ≤ 960 := by
        revert fp
        split <;> split <;> omega
      obtain ⟨ym, my, ly, ay⟩ := M
      obtain ⟨dx, fs, i1, nl1⟩ := x.ins
      refine ⟨_, rfl, .ref m, _, rfl, .inl ⟨_, SqL.of my, rfl⟩, _, rfl, by omega, by omega, fun B hB => ?_⟩
      have fB : H4 B = none := hB
      rw [Int.toNat_natCast]
      refine lc_it (walk_range (lo := 0) (n := ym.length)) (fun k H' => Same H4 H' ∧ ∃ zs : List V, H' B = some (.lst zs) ∧ zs.length = k ∧ ∀ (i : Nat) (p : Pt), i < k → ps[i]? = some p → ∃ t, zs[i]? = some (.ref t) ∧ H' t = some (.tup (ptV p))) ⟨same_new hB, [], upd_same, rfl, fun i p h => (by omega)⟩ (fun k H' _ hP => trivial) (fun k v H5 H6 hk hP hY => ?_) (fun H5 hP => ?_)
      · obtain ⟨s5, zs, eB, hz, hall⟩ := hP
        obtain ⟨rfl, rfl⟩ := hY
        obtain ⟨p, hp⟩ : ∃ p, ps[k]? = some p := ⟨_, List.getElem?_eq_getElem (by omega)⟩
        refine ⟨rfl, yesI ?_⟩
        refine ⟨_, rfl, u, dx, fs, rfl, s5 _ _ i1, nl1 _ (by decide), _, rfl, N, u, ps, k, p, ?_, x.same s5, hp, fun t ht => ⟨zs, eB, Nat.lt_of_lt_of_le (show zs.length < 1000 by omega) (line_le (by decide)), fun c w z => ?_, zs ++ [.ref t], upd_same, by rw [List.length_append, hz]; rfl, fun i p' hi hp' => ?_⟩⟩
        · show [V.ref u, V.int (0 + (k : Int))] = [V.ref u, V.int (k : Int)]
          rw [Int.zero_add]
        · rw [upd_ne (ne_of_none z fB)]
          exact s5 _ _ z
        · have nB : ∀ c ys, H6 c = some (.tup ys) → c ≠ B := fun c ys z e => by
            rw [e, eB] at z
            cases z
          by_cases hik : i < k
          · obtain ⟨t', t1, t2⟩ := hall i p' hik hp'
            refine ⟨t', by rw [List.getElem?_append_left (by omega)]; exact t1, ?_⟩
            rw [upd_ne (nB _ _ t2)]
            exact t2
          · obtain rfl : i = k := by omega
            cases (Option.some.inj (hp.symm.trans hp'))
            refine ⟨t, ?_, ?_⟩
            · rw [← hz, List.getElem?_append_right (Nat.le_refl _), Nat.sub_self]
              rfl
            · rw [upd_ne (nB _ _ ht)]
              exact ht
      · obtain ⟨s5, zs, eB, hz, hall⟩ := hP
        refine ⟨_, rfl, _, _, .lst (SqL.of eB) (ptsDp ps zs (by omega) fun i p e => hall i p (by have := lt_of e; omega) e), .lst (SqL.of (s5 _ _ my)) (ptsDp ps ym ly fun i p e => ?_), sh_pts ps, sh_pts ps, ?_⟩
        · obtain ⟨t, t1, t2⟩ := ay i p e
          exact ⟨t, t1, s5 _ _ t2⟩
        · rw [PySem.SeqAt.eqv_refl _ (by simp only [PyData.canLay0]; exact can_pts ps)]
          exact q _
end
end K32
set_option maxHeartbeats 0
namespace K32
open PySem PySem.Spec PyProof.Rows L2 Gd Gs Ge
open C8 (clsBody Met)
theorem all_mk {l : PySem.W.OpenLaw} {w : World} {K : PySem.W.Frag} {h : Heap} {mg : Str → Option Value} {fa : Addr} (X : K.In h) (G : h.Ns mainGlobals mg) (hfa : mg "law" = some (.ref fa))
    {f0 : Addr}
    {od0 an0 : Option Addr}
    {sl0 : Array (Option Value)}
    {oc0 kV0 dc0 pm0 cd0 ct0 : Value}
    {f1 : Addr}
    {od1 an1 : Option Addr}
    {sl1 : Array (Option Value)}
    {oc1 kV1 dc1 pm1 cd1 ct1 : Value}
    {f2 : Addr}
    {od2 an2 : Option Addr}
    {sl2 : Array (Option Value)}
    {oc2 kV2 dc2 pm2 cd2 ct2 : Value}
    {f3 : Addr}
    {od3 an3 : Option Addr}
    {sl3 : Array (Option Value)}
    {oc3 kV3 dc3 pm3 cd3 ct3 : Value}
    {f4 : Addr}
    {od4 an4 : Option Addr}
    {sl4 : Array (Option Value)}
    {oc4 kV4 dc4 pm4 cd4 ct4 : Value}
    {f5 : Addr}
    {od5 an5 : Option Addr}
    {sl5 : Array (Option Value)}
    {oc5 kV5 dc5 pm5 cd5 ct5 : Value}
    {f6 : Addr}
    {od6 an6 : Option Addr}
    {sl6 : Array (Option Value)}
    {oc6 kV6 dc6 pm6 cd6 ct6 : Value}
    {f7 : Addr}
    {od7 an7 : Option Addr}
    {sl7 : Array (Option Value)}
    {oc7 kV7 dc7 pm7 cd7 ct7 : Value}
    {f8 : Addr}
    {od8 an8 : Option Addr}
    {sl8 : Array (Option Value)}
    {oc8 kV8 dc8 pm8 cd8 ct8 : Value}
    {f9 : Addr}
    {od9 an9 : Option Addr}
    {sl9 : Array (Option Value)}
    {oc9 kV9 dc9 pm9 cd9 ct9 : Value}
    {f10 : Addr}
    {od10 an10 : Option Addr}
    {sl10 : Array (Option Value)}
    {oc10 kV10 dc10 pm10 cd10 ct10 : Value}
    {f11 : Addr}
    {od11 an11 : Option Addr}
    {sl11 : Array (Option Value)}
    {oc11 kV11 dc11 pm11 cd11 ct11 : Value}
    {f12 : Addr}
    {od12 an12 : Option Addr}
    {sl12 : Array (Option Value)}
    {oc12 kV12 dc12 pm12 cd12 ct12 : Value}
    {f13 : Addr}
    {od13 an13 : Option Addr}
    {sl13 : Array (Option Value)}
    {oc13 kV13 dc13 pm13 cd13 ct13 : Value}
    {f14 : Addr}
    {od14 an14 : Option Addr}
    {sl14 : Array (Option Value)}
    {oc14 kV14 dc14 pm14 cd14 ct14 : Value}
    {f15 : Addr}
    {od15 an15 : Option Addr}
    {sl15 : Array (Option Value)}
    {oc15 kV15 dc15 pm15 cd15 ct15 : Value}
    {f16 : Addr}
    {od16 an16 : Option Addr}
    {sl16 : Array (Option Value)}
    {oc16 kV16 dc16 pm16 cd16 ct16 : Value}
    {f17 : Addr}
    {od17 an17 : Option Addr}
    {sl17 : Array (Option Value)}
    {oc17 kV17 dc17 pm17 cd17 ct17 : Value}
    {f18 : Addr}
    {od18 an18 : Option Addr}
    {sl18 : Array (Option Value)}
    {oc18 kV18 dc18 pm18 cd18 ct18 : Value}
    {f19 : Addr}
    {od19 an19 : Option Addr}
    {sl19 : Array (Option Value)}
    {oc19 kV19 dc19 pm19 cd19 ct19 : Value}
    {f20 : Addr}
    {od20 an20 : Option Addr}
    {sl20 : Array (Option Value)}
    {oc20 kV20 dc20 pm20 cd20 ct20 : Value}
    {f21 : Addr}
    {od21 an21 : Option Addr}
    {sl21 : Array (Option Value)}
    {oc21 kV21 dc21 pm21 cd21 ct21 : Value}
    {t_MOST_PLACES : Tok}
    {t_MOST_WORTH : Tok}
    {C : Addr}
    {f_C_leaf : Addr}
    {od_C_leaf an_C_leaf : Option Addr}
    {sl_C_leaf : Array (Option Value)}
    {oc_C_leaf kV_C_leaf dc_C_leaf pm_C_leaf cd_C_leaf ct_C_leaf : Value}
    {f_C_fork : Addr}
    {od_C_fork an_C_fork : Option Addr}
    {sl_C_fork : Array (Option Value)}
    {oc_C_fork kV_C_fork dc_C_fork pm_C_fork cd_C_fork ct_C_fork : Value}
    {f_C_part : Addr}
    {od_C_part an_C_part : Option Addr}
    {sl_C_part : Array (Option Value)}
    {oc_C_part kV_C_part dc_C_part pm_C_part cd_C_part ct_C_part : Value}
    {f_C_many : Addr}
    {od_C_many an_C_many : Option Addr}
    {sl_C_many : Array (Option Value)}
    {oc_C_many kV_C_many dc_C_many pm_C_many cd_C_many ct_C_many : Value}
    {f_C_numbers : Addr}
    {od_C_numbers an_C_numbers : Option Addr}
    {sl_C_numbers : Array (Option Value)}
    {oc_C_numbers kV_C_numbers dc_C_numbers pm_C_numbers cd_C_numbers ct_C_numbers : Value}
    {f_C_made : Addr}
    {od_C_made an_C_made : Option Addr}
    {sl_C_made : Array (Option Value)}
    {oc_C_made kV_C_made dc_C_made pm_C_made cd_C_made ct_C_made : Value}
    {f_C_need_half : Addr}
    {od_C_need_half an_C_need_half : Option Addr}
    {sl_C_need_half : Array (Option Value)}
    {oc_C_need_half kV_C_need_half dc_C_need_half pm_C_need_half cd_C_need_half ct_C_need_half : Value}
    {f_C_need_part : Addr}
    {od_C_need_part an_C_need_part : Option Addr}
    {sl_C_need_part : Array (Option Value)}
    {oc_C_need_part kV_C_need_part dc_C_need_part pm_C_need_part cd_C_need_part ct_C_need_part : Value}
    {f_C_init : Addr}
    {od_C_init an_C_init : Option Addr}
    {sl_C_init : Array (Option Value)}
    {oc_C_init kV_C_init dc_C_init pm_C_init cd_C_init ct_C_init : Value}
    (a0 : PySem.W.nsIn K mainGlobals "is_whole" = some (some (.ref f0)))
    (l0 : K.lookup f0 = some ⟨oc0, od0, .func (PySem.W.fnOf "is_whole" "is_whole" (defArgs s_is_whole) (defBody s_is_whole) (defScope s_is_whole) .none kV0 dc0 pm0 an0 cd0 ct0), sl0⟩)
    (c0 : PySem.W.codeIn K cd0 "is_whole" = true)
    (k0 : PySem.W.keepIn K (.ref f0) = true)
    (a1 : PySem.W.nsIn K mainGlobals "is_worth" = some (some (.ref f1)))
    (l1 : K.lookup f1 = some ⟨oc1, od1, .func (PySem.W.fnOf "is_worth" "is_worth" (defArgs s_is_worth) (defBody s_is_worth) (defScope s_is_worth) .none kV1 dc1 pm1 an1 cd1 ct1), sl1⟩)
    (c1 : PySem.W.codeIn K cd1 "is_worth" = true)
    (k1 : PySem.W.keepIn K (.ref f1) = true)
    (a2 : PySem.W.nsIn K mainGlobals "is_worths" = some (some (.ref f2)))
    (l2 : K.lookup f2 = some ⟨oc2, od2, .func (PySem.W.fnOf "is_worths" "is_worths" (defArgs s_is_worths) (defBody s_is_worths) (defScope s_is_worths) .none kV2 dc2 pm2 an2 cd2 ct2), sl2⟩)
    (c2 : PySem.W.codeIn K cd2 "is_worths" = true)
    (k2 : PySem.W.keepIn K (.ref f2) = true)
    (a3 : PySem.W.nsIn K mainGlobals "stretch_of" = some (some (.ref f3)))
    (l3 : K.lookup f3 = some ⟨oc3, od3, .func (PySem.W.fnOf "stretch_of" "stretch_of" (defArgs s_stretch_of) (defBody s_stretch_of) (defScope s_stretch_of) .none kV3 dc3 pm3 an3 cd3 ct3), sl3⟩)
    (c3 : PySem.W.codeIn K cd3 "stretch_of" = true)
    (k3 : PySem.W.keepIn K (.ref f3) = true)
    (a4 : PySem.W.nsIn K mainGlobals "halves_of" = some (some (.ref f4)))
    (l4 : K.lookup f4 = some ⟨oc4, od4, .func (PySem.W.fnOf "halves_of" "halves_of" (defArgs s_halves_of) (defBody s_halves_of) (defScope s_halves_of) .none kV4 dc4 pm4 an4 cd4 ct4), sl4⟩)
    (c4 : PySem.W.codeIn K cd4 "halves_of" = true)
    (k4 : PySem.W.keepIn K (.ref f4) = true)
    (a5 : PySem.W.nsIn K mainGlobals "built" = some (some (.ref f5)))
    (l5 : K.lookup f5 = some ⟨oc5, od5, .func (PySem.W.fnOf "built" "built" (defArgs s_built) (defBody s_built) (defScope s_built) .none kV5 dc5 pm5 an5 cd5 ct5), sl5⟩)
    (c5 : PySem.W.codeIn K cd5 "built" = true)
    (k5 : PySem.W.keepIn K (.ref f5) = true)
    (a6 : PySem.W.nsIn K mainGlobals "_built_stretch" = some (some (.ref f6)))
    (l6 : K.lookup f6 = some ⟨oc6, od6, .func (PySem.W.fnOf "_built_stretch" "_built_stretch" (defArgs s__built_stretch) (defBody s__built_stretch) (defScope s__built_stretch) .none kV6 dc6 pm6 an6 cd6 ct6), sl6⟩)
    (c6 : PySem.W.codeIn K cd6 "_built_stretch" = true)
    (k6 : PySem.W.keepIn K (.ref f6) = true)
    (a7 : PySem.W.nsIn K mainGlobals "put_down" = some (some (.ref f7)))
    (l7 : K.lookup f7 = some ⟨oc7, od7, .func (PySem.W.fnOf "put_down" "put_down" (defArgs s_put_down) (defBody s_put_down) (defScope s_put_down) .none kV7 dc7 pm7 an7 cd7 ct7), sl7⟩)
    (c7 : PySem.W.codeIn K cd7 "put_down" = true)
    (k7 : PySem.W.keepIn K (.ref f7) = true)
    (a8 : PySem.W.nsIn K mainGlobals "way_down" = some (some (.ref f8)))
    (l8 : K.lookup f8 = some ⟨oc8, od8, .func (PySem.W.fnOf "way_down" "way_down" (defArgs s_way_down) (defBody s_way_down) (defScope s_way_down) .none kV8 dc8 pm8 an8 cd8 ct8), sl8⟩)
    (c8 : PySem.W.codeIn K cd8 "way_down" = true)
    (k8 : PySem.W.keepIn K (.ref f8) = true)
    (a9 : PySem.W.nsIn K mainGlobals "_law_cell_at" = some (some (.ref f9)))
    (l9 : K.lookup f9 = some ⟨oc9, od9, .func (PySem.W.fnOf "_law_cell_at" "_law_cell_at" (defArgs s__law_cell_at) (defBody s__law_cell_at) (defScope s__law_cell_at) .none kV9 dc9 pm9 an9 cd9 ct9), sl9⟩)
    (c9 : PySem.W.codeIn K cd9 "_law_cell_at" = true)
    (k9 : PySem.W.keepIn K (.ref f9) = true)
    (a10 : PySem.W.nsIn K mainGlobals "_law_box" = some (some (.ref f10)))
    (l10 : K.lookup f10 = some ⟨oc10, od10, .func (PySem.W.fnOf "_law_box" "_law_box" (defArgs s__law_box) (defBody s__law_box) (defScope s__law_box) .none kV10 dc10 pm10 an10 cd10 ct10), sl10⟩)
    (c10 : PySem.W.codeIn K cd10 "_law_box" = true)
    (k10 : PySem.W.keepIn K (.ref f10) = true)
    (a11 : PySem.W.nsIn K mainGlobals "_law_take" = some (some (.ref f11)))
    (l11 : K.lookup f11 = some ⟨oc11, od11, .func (PySem.W.fnOf "_law_take" "_law_take" (defArgs s__law_take) (defBody s__law_take) (defScope s__law_take) .none kV11 dc11 pm11 an11 cd11 ct11), sl11⟩)
    (c11 : PySem.W.codeIn K cd11 "_law_take" = true)
    (k11 : PySem.W.keepIn K (.ref f11) = true)
    (a12 : PySem.W.nsIn K mainGlobals "_law_worth" = some (some (.ref f12)))
    (l12 : K.lookup f12 = some ⟨oc12, od12, .func (PySem.W.fnOf "_law_worth" "_law_worth" (defArgs s__law_worth) (defBody s__law_worth) (defScope s__law_worth) .none kV12 dc12 pm12 an12 cd12 ct12), sl12⟩)
    (c12 : PySem.W.codeIn K cd12 "_law_worth" = true)
    (k12 : PySem.W.keepIn K (.ref f12) = true)
    (a13 : PySem.W.nsIn K mainGlobals "_law_worths" = some (some (.ref f13)))
    (l13 : K.lookup f13 = some ⟨oc13, od13, .func (PySem.W.fnOf "_law_worths" "_law_worths" (defArgs s__law_worths) (defBody s__law_worths) (defScope s__law_worths) .none kV13 dc13 pm13 an13 cd13 ct13), sl13⟩)
    (c13 : PySem.W.codeIn K cd13 "_law_worths" = true)
    (k13 : PySem.W.keepIn K (.ref f13) = true)
    (a14 : PySem.W.nsIn K mainGlobals "_law_lay" = some (some (.ref f14)))
    (l14 : K.lookup f14 = some ⟨oc14, od14, .func (PySem.W.fnOf "_law_lay" "_law_lay" (defArgs s__law_lay) (defBody s__law_lay) (defScope s__law_lay) .none kV14 dc14 pm14 an14 cd14 ct14), sl14⟩)
    (c14 : PySem.W.codeIn K cd14 "_law_lay" = true)
    (k14 : PySem.W.keepIn K (.ref f14) = true)
    (a15 : PySem.W.nsIn K mainGlobals "_law_laid" = some (some (.ref f15)))
    (l15 : K.lookup f15 = some ⟨oc15, od15, .func (PySem.W.fnOf "_law_laid" "_law_laid" (defArgs s__law_laid) (defBody s__law_laid) (defScope s__law_laid) .none kV15 dc15 pm15 an15 cd15 ct15), sl15⟩)
    (c15 : PySem.W.codeIn K cd15 "_law_laid" = true)
    (k15 : PySem.W.keepIn K (.ref f15) = true)
    (a16 : PySem.W.nsIn K mainGlobals "_law_down" = some (some (.ref f16)))
    (l16 : K.lookup f16 = some ⟨oc16, od16, .func (PySem.W.fnOf "_law_down" "_law_down" (defArgs s__law_down) (defBody s__law_down) (defScope s__law_down) .none kV16 dc16 pm16 an16 cd16 ct16), sl16⟩)
    (c16 : PySem.W.codeIn K cd16 "_law_down" = true)
    (k16 : PySem.W.keepIn K (.ref f16) = true)
    (a17 : PySem.W.nsIn K mainGlobals "_law_put" = some (some (.ref f17)))
    (l17 : K.lookup f17 = some ⟨oc17, od17, .func (PySem.W.fnOf "_law_put" "_law_put" (defArgs s__law_put) (defBody s__law_put) (defScope s__law_put) .none kV17 dc17 pm17 an17 cd17 ct17), sl17⟩)
    (c17 : PySem.W.codeIn K cd17 "_law_put" = true)
    (k17 : PySem.W.keepIn K (.ref f17) = true)
    (a18 : PySem.W.nsIn K mainGlobals "_law_ends" = some (some (.ref f18)))
    (l18 : K.lookup f18 = some ⟨oc18, od18, .func (PySem.W.fnOf "_law_ends" "_law_ends" (defArgs s__law_ends) (defBody s__law_ends) (defScope s__law_ends) .none kV18 dc18 pm18 an18 cd18 ct18), sl18⟩)
    (c18 : PySem.W.codeIn K cd18 "_law_ends" = true)
    (k18 : PySem.W.keepIn K (.ref f18) = true)
    (a19 : PySem.W.nsIn K mainGlobals "_law_deed" = some (some (.ref f19)))
    (l19 : K.lookup f19 = some ⟨oc19, od19, .func (PySem.W.fnOf "_law_deed" "_law_deed" (defArgs s__law_deed) (defBody s__law_deed) (defScope s__law_deed) .none kV19 dc19 pm19 an19 cd19 ct19), sl19⟩)
    (c19 : PySem.W.codeIn K cd19 "_law_deed" = true)
    (k19 : PySem.W.keepIn K (.ref f19) = true)
    (a20 : PySem.W.nsIn K mainGlobals "_law_right" = some (some (.ref f20)))
    (l20 : K.lookup f20 = some ⟨oc20, od20, .func (PySem.W.fnOf "_law_right" "_law_right" (defArgs s__law_right) (defBody s__law_right) (defScope s__law_right) .none kV20 dc20 pm20 an20 cd20 ct20), sl20⟩)
    (c20 : PySem.W.codeIn K cd20 "_law_right" = true)
    (k20 : PySem.W.keepIn K (.ref f20) = true)
    (a21 : PySem.W.nsIn K mainGlobals "law" = some (some (.ref f21)))
    (l21 : K.lookup f21 = some ⟨oc21, od21, .func (PySem.W.fnOf "law" "law" (defArgs s_law) (defBody s_law) (defScope s_law) .none kV21 dc21 pm21 an21 cd21 ct21), sl21⟩)
    (c21 : PySem.W.codeIn K cd21 "law" = true)
    (k21 : PySem.W.keepIn K (.ref f21) = true)
    (z_len : PySem.W.nsIn K mainGlobals "len" = some none)
    (z_max : PySem.W.nsIn K mainGlobals "max" = some none)
    (z_min : PySem.W.nsIn K mainGlobals "min" = some none)
    (z_range : PySem.W.nsIn K mainGlobals "range" = some none)
    (z_repr : PySem.W.nsIn K mainGlobals "repr" = some none)
    (z_isinstance : PySem.W.nsIn K mainGlobals "isinstance" = some none)
    (z_all : PySem.W.nsIn K mainGlobals "all" = some none)
    (z_sorted : PySem.W.nsIn K mainGlobals "sorted" = some none)
    (z_reversed : PySem.W.nsIn K mainGlobals "reversed" = some none)
    (z_int : PySem.W.nsIn K mainGlobals "int" = some none)
    (z_bool : PySem.W.nsIn K mainGlobals "bool" = some none)
    (z_list : PySem.W.nsIn K mainGlobals "list" = some none)
    (z_tuple : PySem.W.nsIn K mainGlobals "tuple" = some none)
    (i_MOST_PLACES : PySem.W.nsIn K mainGlobals "MOST_PLACES" = some (some (.int 16 t_MOST_PLACES)))
    (i_MOST_WORTH : PySem.W.nsIn K mainGlobals "MOST_WORTH" = some (some (.int (10 ^ 30 - 1) t_MOST_WORTH)))
    (a_C : PySem.W.nsIn K mainGlobals "Parts" = some (some (.ref C)))
    (pg_C : PySem.W.plainGet K C Str.empty = true)
    (hd_C : PySem.W.hasDictIn K C = true)
    (po_C : PySem.W.plainOver K C = true)
    (sa_C : PySem.W.findIn K (.ref C) "__setattr__" = some (some (.builtin "object.__setattr__")))
    (no_C__parts : PySem.W.findIn K (.ref C) "_parts" = some none)
    (no_C__given : PySem.W.findIn K (.ref C) "_given" = some none)
    (no_C__pointing : PySem.W.findIn K (.ref C) "_pointing" = some none)
    (no_C__held : PySem.W.findIn K (.ref C) "_held" = some none)
    (mk_C : PySem.W.makesIn K C = true)
    (kp_C : PySem.W.keepIn K (.ref C) = true)
    (m_C_leaf : PySem.W.findIn K (.ref C) "leaf" = some (some (.ref f_C_leaf)))
    (l_C_leaf : K.lookup f_C_leaf = some ⟨oc_C_leaf, od_C_leaf, .func (PySem.W.fnOf "leaf" "Parts.leaf" (defArgs s_Parts_leaf) (defBody s_Parts_leaf) (defScope s_Parts_leaf) .none kV_C_leaf dc_C_leaf pm_C_leaf an_C_leaf cd_C_leaf ct_C_leaf), sl_C_leaf⟩)
    (c_C_leaf : PySem.W.codeIn K cd_C_leaf "Parts.leaf" = true)
    (k_C_leaf : PySem.W.keepIn K (.ref f_C_leaf) = true)
    (y_C_leaf : PySem.W.isFn K (.ref f_C_leaf) = true)
    (m_C_fork : PySem.W.findIn K (.ref C) "fork" = some (some (.ref f_C_fork)))
    (l_C_fork : K.lookup f_C_fork = some ⟨oc_C_fork, od_C_fork, .func (PySem.W.fnOf "fork" "Parts.fork" (defArgs s_Parts_fork) (defBody s_Parts_fork) (defScope s_Parts_fork) .none kV_C_fork dc_C_fork pm_C_fork an_C_fork cd_C_fork ct_C_fork), sl_C_fork⟩)
    (c_C_fork : PySem.W.codeIn K cd_C_fork "Parts.fork" = true)
    (k_C_fork : PySem.W.keepIn K (.ref f_C_fork) = true)
    (y_C_fork : PySem.W.isFn K (.ref f_C_fork) = true)
    (m_C_part : PySem.W.findIn K (.ref C) "part" = some (some (.ref f_C_part)))
    (l_C_part : K.lookup f_C_part = some ⟨oc_C_part, od_C_part, .func (PySem.W.fnOf "part" "Parts.part" (defArgs s_Parts_part) (defBody s_Parts_part) (defScope s_Parts_part) .none kV_C_part dc_C_part pm_C_part an_C_part cd_C_part ct_C_part), sl_C_part⟩)
    (c_C_part : PySem.W.codeIn K cd_C_part "Parts.part" = true)
    (k_C_part : PySem.W.keepIn K (.ref f_C_part) = true)
    (y_C_part : PySem.W.isFn K (.ref f_C_part) = true)
    (m_C_many : PySem.W.findIn K (.ref C) "many" = some (some (.ref f_C_many)))
    (l_C_many : K.lookup f_C_many = some ⟨oc_C_many, od_C_many, .func (PySem.W.fnOf "many" "Parts.many" (defArgs s_Parts_many) (defBody s_Parts_many) (defScope s_Parts_many) .none kV_C_many dc_C_many pm_C_many an_C_many cd_C_many ct_C_many), sl_C_many⟩)
    (c_C_many : PySem.W.codeIn K cd_C_many "Parts.many" = true)
    (k_C_many : PySem.W.keepIn K (.ref f_C_many) = true)
    (y_C_many : PySem.W.isFn K (.ref f_C_many) = true)
    (m_C_numbers : PySem.W.findIn K (.ref C) "numbers" = some (some (.ref f_C_numbers)))
    (l_C_numbers : K.lookup f_C_numbers = some ⟨oc_C_numbers, od_C_numbers, .func (PySem.W.fnOf "numbers" "Parts.numbers" (defArgs s_Parts_numbers) (defBody s_Parts_numbers) (defScope s_Parts_numbers) .none kV_C_numbers dc_C_numbers pm_C_numbers an_C_numbers cd_C_numbers ct_C_numbers), sl_C_numbers⟩)
    (c_C_numbers : PySem.W.codeIn K cd_C_numbers "Parts.numbers" = true)
    (k_C_numbers : PySem.W.keepIn K (.ref f_C_numbers) = true)
    (y_C_numbers : PySem.W.isFn K (.ref f_C_numbers) = true)
    (m_C_made : PySem.W.findIn K (.ref C) "_made" = some (some (.ref f_C_made)))
    (l_C_made : K.lookup f_C_made = some ⟨oc_C_made, od_C_made, .func (PySem.W.fnOf "_made" "Parts._made" (defArgs s_Parts__made) (defBody s_Parts__made) (defScope s_Parts__made) .none kV_C_made dc_C_made pm_C_made an_C_made cd_C_made ct_C_made), sl_C_made⟩)
    (c_C_made : PySem.W.codeIn K cd_C_made "Parts._made" = true)
    (k_C_made : PySem.W.keepIn K (.ref f_C_made) = true)
    (y_C_made : PySem.W.isFn K (.ref f_C_made) = true)
    (m_C_need_half : PySem.W.findIn K (.ref C) "_need_half" = some (some (.ref f_C_need_half)))
    (l_C_need_half : K.lookup f_C_need_half = some ⟨oc_C_need_half, od_C_need_half, .func (PySem.W.fnOf "_need_half" "Parts._need_half" (defArgs s_Parts__need_half) (defBody s_Parts__need_half) (defScope s_Parts__need_half) .none kV_C_need_half dc_C_need_half pm_C_need_half an_C_need_half cd_C_need_half ct_C_need_half), sl_C_need_half⟩)
    (c_C_need_half : PySem.W.codeIn K cd_C_need_half "Parts._need_half" = true)
    (k_C_need_half : PySem.W.keepIn K (.ref f_C_need_half) = true)
    (y_C_need_half : PySem.W.isFn K (.ref f_C_need_half) = true)
    (m_C_need_part : PySem.W.findIn K (.ref C) "_need_part" = some (some (.ref f_C_need_part)))
    (l_C_need_part : K.lookup f_C_need_part = some ⟨oc_C_need_part, od_C_need_part, .func (PySem.W.fnOf "_need_part" "Parts._need_part" (defArgs s_Parts__need_part) (defBody s_Parts__need_part) (defScope s_Parts__need_part) .none kV_C_need_part dc_C_need_part pm_C_need_part an_C_need_part cd_C_need_part ct_C_need_part), sl_C_need_part⟩)
    (c_C_need_part : PySem.W.codeIn K cd_C_need_part "Parts._need_part" = true)
    (k_C_need_part : PySem.W.keepIn K (.ref f_C_need_part) = true)
    (y_C_need_part : PySem.W.isFn K (.ref f_C_need_part) = true)
    (m_C_init : PySem.W.findIn K (.ref C) "__init__" = some (some (.ref f_C_init)))
    (l_C_init : K.lookup f_C_init = some ⟨oc_C_init, od_C_init, .func (PySem.W.fnOf "__init__" "Parts.__init__" (defArgs s_Parts___init__) (defBody s_Parts___init__) (defScope s_Parts___init__) .none kV_C_init dc_C_init pm_C_init an_C_init cd_C_init ct_C_init), sl_C_init⟩)
    (c_C_init : PySem.W.codeIn K cd_C_init "Parts.__init__" = true)
    (k_C_init : PySem.W.keepIn K (.ref f_C_init) = true)
    (y_C_init : PySem.W.isFn K (.ref f_C_init) = true)
    : ∃ fd : FuncData, (∀ (s : Shared) (v : Value), BindsTo s fd ⟨[v], []⟩ [("_law_script", v)]) ∧ ∀ base : Heap, K.In base → base.Ns mainGlobals mg → FnG l.prog w K mg base CX0 13 fa fd ["_law_script"] (spLaw K) := by
  have e := hfa.symm.trans (PySem.W.mg_of X G a21)
  cases e
  have d_is_whole : DefAt K mg "is_whole" s_is_whole ["thing", "low", "high"] := defAt (PySem.W.mg_of X G a0) l0 c0 k0 (fun _ _ _ _ _ _ us hl => match us, hl with | [_, _, _], _ => rfl)
  have d_is_worth : DefAt K mg "is_worth" s_is_worth ["thing"] := defAt (PySem.W.mg_of X G a1) l1 c1 k1 (fun _ _ _ _ _ _ us hl => match us, hl with | [_], _ => rfl)
  have d_is_worths : DefAt K mg "is_worths" s_is_worths ["thing"] := defAt (PySem.W.mg_of X G a2) l2 c2 k2 (fun _ _ _ _ _ _ us hl => match us, hl with | [_], _ => rfl)
  have d_stretch_of : DefAt K mg "stretch_of" s_stretch_of ["part"] := defAt (PySem.W.mg_of X G a3) l3 c3 k3 (fun _ _ _ _ _ _ us hl => match us, hl with | [_], _ => rfl)
  have d_halves_of : DefAt K mg "halves_of" s_halves_of ["part"] := defAt (PySem.W.mg_of X G a4) l4 c4 k4 (fun _ _ _ _ _ _ us hl => match us, hl with | [_], _ => rfl)
  have d_built : DefAt K mg "built" s_built ["parts", "worths"] := defAt (PySem.W.mg_of X G a5) l5 c5 k5 (fun _ _ _ _ _ _ us hl => match us, hl with | [_, _], _ => rfl)
  have d__built_stretch : DefAt K mg "_built_stretch" s__built_stretch ["parts", "worths", "low", "high"] := defAt (PySem.W.mg_of X G a6) l6 c6 k6 (fun _ _ _ _ _ _ us hl => match us, hl with | [_, _, _, _], _ => rfl)
  have d_put_down : DefAt K mg "put_down" s_put_down ["parts", "root", "place", "worth"] := defAt (PySem.W.mg_of X G a7) l7 c7 k7 (fun _ _ _ _ _ _ us hl => match us, hl with | [_, _, _, _], _ => rfl)
  have d_way_down : DefAt K mg "way_down" s_way_down ["parts", "root", "place"] := defAt (PySem.W.mg_of X G a8) l8 c8 k8 (fun _ _ _ _ _ _ us hl => match us, hl with | [_, _, _], _ => rfl)
  have d__law_cell_at : DefAt K mg "_law_cell_at" s__law_cell_at ["_law_script", "_law_k"] := defAt (PySem.W.mg_of X G a9) l9 c9 k9 (fun _ _ _ _ _ _ us hl => match us, hl with | [_, _], _ => rfl)
  have d__law_box : DefAt K mg "_law_box" s__law_box ["_law_cell"] := defAt (PySem.W.mg_of X G a10) l10 c10 k10 (fun _ _ _ _ _ _ us hl => match us, hl with | [_], _ => rfl)
  have d__law_take : DefAt K mg "_law_take" s__law_take ["_law_box_here", "_law_many"] := defAt (PySem.W.mg_of X G a11) l11 c11 k11 (fun _ _ _ _ _ _ us hl => match us, hl with | [_, _], _ => rfl)
  have d__law_worth : DefAt K mg "_law_worth" s__law_worth ["_law_box_here"] := defAt (PySem.W.mg_of X G a12) l12 c12 k12 (fun _ _ _ _ _ _ us hl => match us, hl with | [_], _ => rfl)
  have d__law_worths : DefAt K mg "_law_worths" s__law_worths ["_law_box_here"] := defAt (PySem.W.mg_of X G a13) l13 c13 k13 (fun _ _ _ _ _ _ us hl => match us, hl with | [_], _ => rfl)
  have d__law_lay : DefAt K mg "_law_lay" s__law_lay ["_law_model", "_law_told"] := defAt (PySem.W.mg_of X G a14) l14 c14 k14 (fun _ _ _ _ _ _ us hl => match us, hl with | [_, _], _ => rfl)
  have d__law_laid : DefAt K mg "_law_laid" s__law_laid ["_law_model", "_law_worths_here", "_law_low", "_law_high"] := defAt (PySem.W.mg_of X G a15) l15 c15 k15 (fun _ _ _ _ _ _ us hl => match us, hl with | [_, _, _, _], _ => rfl)
  have d__law_down : DefAt K mg "_law_down" s__law_down ["_law_model", "_law_root", "_law_place"] := defAt (PySem.W.mg_of X G a16) l16 c16 k16 (fun _ _ _ _ _ _ us hl => match us, hl with | [_, _, _], _ => rfl)
  have d__law_put : DefAt K mg "_law_put" s__law_put ["_law_model", "_law_root", "_law_place", "_law_worth_here"] := defAt (PySem.W.mg_of X G a17) l17 c17 k17 (fun _ _ _ _ _ _ us hl => match us, hl with | [_, _, _, _], _ => rfl)
  have d__law_ends : DefAt K mg "_law_ends" s__law_ends ["_law_told"] := defAt (PySem.W.mg_of X G a18) l18 c18 k18 (fun _ _ _ _ _ _ us hl => match us, hl with | [_], _ => rfl)
  have d__law_deed : DefAt K mg "_law_deed" s__law_deed ["_law_box_here", "_law_parts", "_law_model", "_law_roots"] := defAt (PySem.W.mg_of X G a19) l19 c19 k19 (fun _ _ _ _ _ _ us hl => match us, hl with | [_, _, _, _], _ => rfl)
  have d__law_right : DefAt K mg "_law_right" s__law_right ["_law_box_here", "_law_parts", "_law_model", "_law_roots", "_law_ahead"] := defAt (PySem.W.mg_of X G a20) l20 c20 k20 (fun _ _ _ _ _ _ us hl => match us, hl with | [_, _, _, _, _], _ => rfl)
  have F_law := fun_mk (st := s_law) l21 c21 k21
  have cl_C : Cls K C := ⟨pg_C, hd_C, po_C, sa_C⟩
  have F_C_leaf := fun_mk (st := s_Parts_leaf) l_C_leaf c_C_leaf k_C_leaf
  have B_C_leaf : Binds K _ ["self", "place", "worth"] [] := F_C_leaf.binds (ps := ["self", "place", "worth"]) (fun _ _ _ _ _ _ us hl => match us, hl with | [_, _, _], _ => rfl)
  have M_C_leaf : MAt K C "leaf" "Parts.leaf" s_Parts_leaf ["self", "place", "worth"] := ⟨_, _, F_C_leaf, ⟨m_C_leaf, y_C_leaf, k_C_leaf⟩, B_C_leaf⟩
  have F_C_fork := fun_mk (st := s_Parts_fork) l_C_fork c_C_fork k_C_fork
  have B_C_fork : Binds K _ ["self", "low", "high", "left", "right"] [] := F_C_fork.binds (ps := ["self", "low", "high", "left", "right"]) (fun _ _ _ _ _ _ us hl => match us, hl with | [_, _, _, _, _], _ => rfl)
  have M_C_fork : MAt K C "fork" "Parts.fork" s_Parts_fork ["self", "low", "high", "left", "right"] := ⟨_, _, F_C_fork, ⟨m_C_fork, y_C_fork, k_C_fork⟩, B_C_fork⟩
  have F_C_part := fun_mk (st := s_Parts_part) l_C_part c_C_part k_C_part
  have B_C_part : Binds K _ ["self", "number"] [] := F_C_part.binds (ps := ["self", "number"]) (fun _ _ _ _ _ _ us hl => match us, hl with | [_, _], _ => rfl)
  have M_C_part : MAt K C "part" "Parts.part" s_Parts_part ["self", "number"] := ⟨_, _, F_C_part, ⟨m_C_part, y_C_part, k_C_part⟩, B_C_part⟩
  have F_C_many := fun_mk (st := s_Parts_many) l_C_many c_C_many k_C_many
  have B_C_many : Binds K _ ["self"] [] := F_C_many.binds (ps := ["self"]) (fun _ _ _ _ _ _ us hl => match us, hl with | [_], _ => rfl)
  have M_C_many : MAt K C "many" "Parts.many" s_Parts_many ["self"] := ⟨_, _, F_C_many, ⟨m_C_many, y_C_many, k_C_many⟩, B_C_many⟩
  have F_C_numbers := fun_mk (st := s_Parts_numbers) l_C_numbers c_C_numbers k_C_numbers
  have B_C_numbers : Binds K _ ["self"] [] := F_C_numbers.binds (ps := ["self"]) (fun _ _ _ _ _ _ us hl => match us, hl with | [_], _ => rfl)
  have M_C_numbers : MAt K C "numbers" "Parts.numbers" s_Parts_numbers ["self"] := ⟨_, _, F_C_numbers, ⟨m_C_numbers, y_C_numbers, k_C_numbers⟩, B_C_numbers⟩
  have F_C_made := fun_mk (st := s_Parts__made) l_C_made c_C_made k_C_made
  have B_C_made : Binds K _ ["self", "part"] [] := F_C_made.binds (ps := ["self", "part"]) (fun _ _ _ _ _ _ us hl => match us, hl with | [_, _], _ => rfl)
  have M_C_made : MAt K C "_made" "Parts._made" s_Parts__made ["self", "part"] := ⟨_, _, F_C_made, ⟨m_C_made, y_C_made, k_C_made⟩, B_C_made⟩
  have F_C_need_half := fun_mk (st := s_Parts__need_half) l_C_need_half c_C_need_half k_C_need_half
  have B_C_need_half : Binds K _ ["self", "number", "stretch"] [] := F_C_need_half.binds (ps := ["self", "number", "stretch"]) (fun _ _ _ _ _ _ us hl => match us, hl with | [_, _, _], _ => rfl)
  have M_C_need_half : MAt K C "_need_half" "Parts._need_half" s_Parts__need_half ["self", "number", "stretch"] := ⟨_, _, F_C_need_half, ⟨m_C_need_half, y_C_need_half, k_C_need_half⟩, B_C_need_half⟩
  have F_C_need_part := fun_mk (st := s_Parts__need_part) l_C_need_part c_C_need_part k_C_need_part
  have B_C_need_part : Binds K _ ["self", "number"] [] := F_C_need_part.binds (ps := ["self", "number"]) (fun _ _ _ _ _ _ us hl => match us, hl with | [_, _], _ => rfl)
  have M_C_need_part : MAt K C "_need_part" "Parts._need_part" s_Parts__need_part ["self", "number"] := ⟨_, _, F_C_need_part, ⟨m_C_need_part, y_C_need_part, k_C_need_part⟩, B_C_need_part⟩
  have F_C_init := fun_mk (st := s_Parts___init__) l_C_init c_C_init k_C_init
  have B_C_init : Binds K _ ["self"] [] := F_C_init.binds (ps := ["self"]) (fun _ _ _ _ _ _ us hl => match us, hl with | [_], _ => rfl)
  have M_C_init : MAt K C "__init__" "Parts.__init__" s_Parts___init__ ["self"] := ⟨_, _, F_C_init, ⟨m_C_init, y_C_init, k_C_init⟩, B_C_init⟩
  refine ⟨PySem.W.fnOf "law" "law" (defArgs s_law) (defBody s_law) (defScope s_law) .none kV21 dc21 pm21 an21 cd21 ct21, fun s v => .of_eq rfl, fun base _ _ => ?_⟩
  have T : Txt K mg := ⟨PySem.W.mg_none_of X G z_len, PySem.W.mg_none_of X G z_max, PySem.W.mg_none_of X G z_min, PySem.W.mg_none_of X G z_range, PySem.W.mg_none_of X G z_repr, PySem.W.mg_none_of X G z_isinstance, PySem.W.mg_none_of X G z_all, PySem.W.mg_none_of X G z_sorted, PySem.W.mg_none_of X G z_reversed, PySem.W.mg_none_of X G z_int, PySem.W.mg_none_of X G z_bool, PySem.W.mg_none_of X G z_list, PySem.W.mg_none_of X G z_tuple, ⟨t_MOST_PLACES, PySem.W.mg_of X G i_MOST_PLACES⟩, ⟨t_MOST_WORTH, PySem.W.mg_of X G i_MOST_WORTH⟩⟩
  have OC : PtC K C := ⟨cl_C, no_C__parts, no_C__given, no_C__pointing, no_C__held⟩
  have c_wh := ok_whI (P := l.prog) (w := w) (base := base) T d_is_whole
  have many := ok_many (P := l.prog) (w := w) (base := base) T OC M_C_many
  have need := ok_need T OC c_wh M_C_need_part
  have part := ok_part T OC need M_C_part
  have made := ok_made (P := l.prog) (w := w) (base := base) T OC M_C_made
  have worth := ok_worth T c_wh d_is_worth
  have leaf := ok_leaf T OC c_wh worth made M_C_leaf
  have ends := ok_ends (P := l.prog) (w := w) (base := base) T d_stretch_of
  have half := ok_half T OC need ends M_C_need_half
  have fork := ok_fork T OC c_wh half made M_C_fork
  have worths := ok_worths T worth d_is_worths
  have halves := ok_halves (P := l.prog) (w := w) (base := base) T d_halves_of
  have bs := fun tup : Bool => ok_bs tup T OC leaf fork d__built_stretch 5
  have built := ok_built T worths bs d_built
  have down := ok_down T OC c_wh ends halves part d_way_down
  have put := ok_put T OC down leaf fork part d_put_down
  have c_cell := ok_cell (P := l.prog) (w := w) (base := base) T d__law_cell_at
  have c_box := ok_box (P := l.prog) (w := w) (base := base) T d__law_box
  have c_take := ok_take (P := l.prog) (w := w) (base := base) T d__law_take
  have cP := PySem.W.mg_of X G a_C
  have mkP : Mk K C f_C_init := ⟨mk_C, m_C_init, y_C_init, kp_C⟩
  have giP := fn_init (P := l.prog) (w := w) (base := base) T OC F_C_init
  have nums := ok_nums (P := l.prog) (w := w) (base := base) T OC M_C_numbers
  have wt := ok_wt T c_take d__law_worth
  have wts := ok_wts T c_take wt d__law_worths
  have lay := ok_lay (P := l.prog) (w := w) (base := base) T d__law_lay
  have endsL := ok_endsL (P := l.prog) (w := w) (base := base) T d__law_ends
  have ld := ok_ld T lay d__law_laid 5
  have dn := ok_dn (P := l.prog) (w := w) (base := base) T d__law_down
  have putL := ok_putL T lay dn d__law_put
  have deed := ok_deed T OC c_take wt wts lay ld putL endsL built put leaf fork d__law_deed
  have right := ok_right T OC c_take dn endsL down many part nums d__law_right
  exact ok_law T OC F_law cP mkP B_C_init giP c_cell c_box deed right part
end K32
open PySem PySem.W PyProof.Rows
set_option maxRecDepth 100000 in
set_option maxHeartbeats 0 in
theorem PySem.Challenge.cw_makeskept_k32_halves_built_holds : PySem.Challenge.rw_makeskept_k32_halves_built.Holds := by
  w_on; o_law; k_head; (case hw => w_witness2)
  k_fill
  refine Gd.walkG (l := PySem.Challenge.rw_makeskept_k32_halves_built) (n := 63) (k := 13) (x := "_law_script") (CX := fun _ => L2.CX0) (sp := fun w => K32.spLaw _) rfl (by decide) rfl ⟨rfl, by decide, by decide⟩ (fun w h Y => PySem.W.kIn_of Y) ?F (fun _ _ a ns hl _ hS => ⟨a, ns, rfl, hS, hl, fun _ => rfl⟩) (fun _ _ _ _ _ h => h)
  case F =>
    intro w mg fa h KX G hmg
    refine' K32.all_mk KX G hmg ?a0 ?l0 ?c0 ?k0 ?a1 ?l1 ?c1 ?k1 ?a2 ?l2 ?c2 ?k2 ?a3 ?l3 ?c3 ?k3 ?a4 ?l4 ?c4 ?k4 ?a5 ?l5 ?c5 ?k5 ?a6 ?l6 ?c6 ?k6 ?a7 ?l7 ?c7 ?k7 ?a8 ?l8 ?c8 ?k8 ?a9 ?l9 ?c9 ?k9 ?a10 ?l10 ?c10 ?k10 ?a11 ?l11 ?c11 ?k11 ?a12 ?l12 ?c12 ?k12 ?a13 ?l13 ?c13 ?k13 ?a14 ?l14 ?c14 ?k14 ?a15 ?l15 ?c15 ?k15 ?a16 ?l16 ?c16 ?k16 ?a17 ?l17 ?c17 ?k17 ?a18 ?l18 ?c18 ?k18 ?a19 ?l19 ?c19 ?k19 ?a20 ?l20 ?c20 ?k20 ?a21 ?l21 ?c21 ?k21 ?z_len ?z_max ?z_min ?z_range ?z_repr ?z_isinstance ?z_all ?z_sorted ?z_reversed ?z_int ?z_bool ?z_list ?z_tuple ?i_MOST_PLACES ?i_MOST_WORTH ?a_C ?pg_C ?hd_C ?po_C ?sa_C ?no_C__parts ?no_C__given ?no_C__pointing ?no_C__held ?mk_C ?kp_C ?m_C_leaf ?l_C_leaf ?c_C_leaf ?k_C_leaf ?y_C_leaf ?m_C_fork ?l_C_fork ?c_C_fork ?k_C_fork ?y_C_fork ?m_C_part ?l_C_part ?c_C_part ?k_C_part ?y_C_part ?m_C_many ?l_C_many ?c_C_many ?k_C_many ?y_C_many ?m_C_numbers ?l_C_numbers ?c_C_numbers ?k_C_numbers ?y_C_numbers ?m_C_made ?l_C_made ?c_C_made ?k_C_made ?y_C_made ?m_C_need_half ?l_C_need_half ?c_C_need_half ?k_C_need_half ?y_C_need_half ?m_C_need_part ?l_C_need_part ?c_C_need_part ?k_C_need_part ?y_C_need_part ?m_C_init ?l_C_init ?c_C_init ?k_C_init ?y_C_init
    (case a0 => k_is)
    (case l0 => k_is)
    (case c0 => k_is)
    (case k0 => k_is)
    (case a1 => k_is)
    (case l1 => k_is)
    (case c1 => k_is)
    (case k1 => k_is)
    (case a2 => k_is)
    (case l2 => k_is)
    (case c2 => k_is)
    (case k2 => k_is)
    (case a3 => k_is)
    (case l3 => k_is)
    (case c3 => k_is)
    (case k3 => k_is)
    (case a4 => k_is)
    (case l4 => k_is)
    (case c4 => k_is)
    (case k4 => k_is)
    (case a5 => k_is)
    (case l5 => k_is)
    (case c5 => k_is)
    (case k5 => k_is)
    (case a6 => k_is)
    (case l6 => k_is)
    (case c6 => k_is)
    (case k6 => k_is)
    (case a7 => k_is)
    (case l7 => k_is)
    (case c7 => k_is)
    (case k7 => k_is)
    (case a8 => k_is)
    (case l8 => k_is)
    (case c8 => k_is)
    (case k8 => k_is)
    (case a9 => k_is)
    (case l9 => k_is)
    (case c9 => k_is)
    (case k9 => k_is)
    (case a10 => k_is)
    (case l10 => k_is)
    (case c10 => k_is)
    (case k10 => k_is)
    (case a11 => k_is)
    (case l11 => k_is)
    (case c11 => k_is)
    (case k11 => k_is)
    (case a12 => k_is)
    (case l12 => k_is)
    (case c12 => k_is)
    (case k12 => k_is)
    (case a13 => k_is)
    (case l13 => k_is)
    (case c13 => k_is)
    (case k13 => k_is)
    (case a14 => k_is)
    (case l14 => k_is)
    (case c14 => k_is)
    (case k14 => k_is)
    (case a15 => k_is)
    (case l15 => k_is)
    (case c15 => k_is)
    (case k15 => k_is)
    (case a16 => k_is)
    (case l16 => k_is)
    (case c16 => k_is)
    (case k16 => k_is)
    (case a17 => k_is)
    (case l17 => k_is)
    (case c17 => k_is)
    (case k17 => k_is)
    (case a18 => k_is)
    (case l18 => k_is)
    (case c18 => k_is)
    (case k18 => k_is)
    (case a19 => k_is)
    (case l19 => k_is)
    (case c19 => k_is)
    (case k19 => k_is)
    (case a20 => k_is)
    (case l20 => k_is)
    (case c20 => k_is)
    (case k20 => k_is)
    (case a21 => k_is)
    (case l21 => k_is)
    (case c21 => k_is)
    (case k21 => k_is)
    (case z_len => k_is)
    (case z_max => k_is)
    (case z_min => k_is)
    (case z_range => k_is)
    (case z_repr => k_is)
    (case z_isinstance => k_is)
    (case z_all => k_is)
    (case z_sorted => k_is)
    (case z_reversed => k_is)
    (case z_int => k_is)
    (case z_bool => k_is)
    (case z_list => k_is)
    (case z_tuple => k_is)
    (case i_MOST_PLACES => k_is)
    (case i_MOST_WORTH => k_is)
    (case a_C => k_is)
    (case pg_C => k_is)
    (case hd_C => k_is)
    (case po_C => k_is)
    (case sa_C => k_is)
    (case no_C__parts => k_is)
    (case no_C__given => k_is)
    (case no_C__pointing => k_is)
    (case no_C__held => k_is)
    (case mk_C => k_is)
    (case kp_C => k_is)
    (case m_C_leaf => k_is)
    (case l_C_leaf => k_is)
    (case c_C_leaf => k_is)
    (case k_C_leaf => k_is)
    (case y_C_leaf => k_is)
    (case m_C_fork => k_is)
    (case l_C_fork => k_is)
    (case c_C_fork => k_is)
    (case k_C_fork => k_is)
    (case y_C_fork => k_is)
    (case m_C_part => k_is)
    (case l_C_part => k_is)
    (case c_C_part => k_is)
    (case k_C_part => k_is)
    (case y_C_part => k_is)
    (case m_C_many => k_is)
    (case l_C_many => k_is)
    (case c_C_many => k_is)
    (case k_C_many => k_is)
    (case y_C_many => k_is)
    (case m_C_numbers => k_is)
    (case l_C_numbers => k_is)
    (case c_C_numbers => k_is)
    (case k_C_numbers => k_is)
    (case y_C_numbers => k_is)
    (case m_C_made => k_is)
    (case l_C_made => k_is)
    (case c_C_made => k_is)
    (case k_C_made => k_is)
    (case y_C_made => k_is)
    (case m_C_need_half => k_is)
    (case l_C_need_half => k_is)
    (case c_C_need_half => k_is)
    (case k_C_need_half => k_is)
    (case y_C_need_half => k_is)
    (case m_C_need_part => k_is)
    (case l_C_need_part => k_is)
    (case c_C_need_part => k_is)
    (case k_C_need_part => k_is)
    (case y_C_need_part => k_is)
    (case m_C_init => k_is)
    (case l_C_init => k_is)
    (case c_C_init => k_is)
    (case k_C_init => k_is)
    (case y_C_init => k_is)
